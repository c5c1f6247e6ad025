/-
  Contracts of math/bits.Mul64 (from the shelf) and math/bits.Div64 at a divisor below 2 to the 32.
-/
import Derived.Test.YthjpknipnmagkaaVocab
import Derived.Test.YthjpknipnmagkaaMany1
import Derived.Test.YthjpknipnmagkaaMany11
import Derived.BigQuiet
namespace Go.Proofs.Ythjpknipnmagkaa.Mo
open Go.RowKit

theorem mul64_any (x y : Int) (hx0 : 0 ≤ x) (hx : x < 18446744073709551616) (hy0 : 0 ≤ y) (hy : y < 18446744073709551616) (w : World) :
    Calls Try.prog 134 #[.int .u64 x, .int .u64 y] w fun e w' => e = .returned (.tuple #[.int .u64 (x * y / 18446744073709551616), .int .u64 (x * y % 18446744073709551616)]) ∧ w = w' := by
  obtain ⟨a, rfl⟩ := Int.eq_ofNat_of_zero_le hx0
  obtain ⟨b, rfl⟩ := Int.eq_ofNat_of_zero_le hy0
  refine (Try.bits_Mul64 a b (by omega) (by omega) w).mono fun e w' ⟨he, hw⟩ => ⟨?_, hw.symm⟩
  rw [he]
  simp
set_option maxHeartbeats 1000000 in
theorem div64_zero (l y : Int) (hl0 : 0 ≤ l) (hl : l < 18446744073709551616) (hy0 : 0 < y) (hy : y < 4294967296) (w : World) :
    Calls Try.prog 135 #[.int .u64 0, .int .u64 l, .int .u64 y] w fun e w' => e = .returned (.tuple #[.int .u64 (l / y), .int .u64 (l % y)]) ∧ ∃ n, w' = w.drewN n := by
  have h1 : (y == 0) = false := by simp; omega
  go_enter Try.func135, Try.ntmps135
  go_wp2_with fail
  go_quiet (fail)
  go_wp2
  go_ret2
  exact ⟨rfl, _, rfl⟩
set_option maxHeartbeats 1000000 in
theorem div64_walk (h l y s : Int) (hh0 : 0 < h) (hh : h < y) (_hl0 : 0 ≤ l) (_hl : l < 18446744073709551616) (_hy : y < 4294967296) (w : World) (hs1 : 32 ≤ s) (hs2 : s ≤ 63)
    (hlz : ∀ w, Calls Try.prog 145 #[.int .u64 y] w fun e w' => e = .returned (.int .i64 s) ∧ w = w')
    (Y Y1 H L1 U V V1 V0 q1 m1 r1 a1 a2 a3 v q0 m0 r0 b1 b2 b3 b4 R : Int)
    (e1 : IntKind.u64.wrap (y * 2 ^ s.toNat) = Y) (e2 : Y / 4294967296 = Y1) (e3 : bits .and .u64 Y 4294967295 = 0)
    (e4 : IntKind.u64.wrap (h * 2 ^ s.toNat) = H) (e5 : l / 2 ^ (64 - s).toNat = L1) (e6 : bits .or .u64 H L1 = U)
    (e7 : IntKind.u64.wrap (l * 2 ^ s.toNat) = V) (e8 : V / 4294967296 = V1) (e9 : bits .and .u64 V 4294967295 = V0)
    (hY1 : 0 < Y1) (hY2 : Y1 < 4294967296) (hU0 : 0 ≤ U) (hU1 : U < 18446744073709551616)
    (e10 : U / Y1 = q1) (hq10 : 0 ≤ q1) (hq11 : q1 < 4294967296) (e11 : IntKind.u64.wrap (q1 * Y1) = m1) (_hm1 : 0 ≤ m1) (hm1' : m1 ≤ U) (e12 : U - m1 = r1) (_hr10 : 0 ≤ r1) (hr11 : r1 < 4294967296)
    (hV10 : 0 ≤ V1) (hV11 : V1 < 4294967296)
    (e13 : IntKind.u64.wrap (U * 4294967296) = a1) (e14 : IntKind.u64.wrap (a1 + V1) = a2) (e15 : IntKind.u64.wrap (q1 * Y) = a3) (e16 : IntKind.u64.wrap (a2 - a3) = v)
    (hv0 : 0 ≤ v) (hv1 : v < 18446744073709551616) (e17 : v / Y1 = q0) (hq00 : 0 ≤ q0) (hq01 : q0 < 4294967296) (e18 : IntKind.u64.wrap (q0 * Y1) = m0) (_hm0 : 0 ≤ m0) (hm0' : m0 ≤ v) (e19 : v - m0 = r0) (_hr00 : 0 ≤ r0) (hr01 : r0 < 4294967296)
    (hV00 : 0 ≤ V0) (hV01 : V0 < 4294967296)
    (e20 : IntKind.u64.wrap (v * 4294967296) = b1) (e21 : IntKind.u64.wrap (b1 + V0) = b2) (e22 : IntKind.u64.wrap (q0 * Y) = b3) (e23 : IntKind.u64.wrap (b2 - b3) = b4) (e24 : b4 / 2 ^ s.toNat = R) :
    Calls Try.prog 135 #[.int .u64 h, .int .u64 l, .int .u64 y] w fun e w' => e = .returned (.tuple #[.int .u64 (q1 * 4294967296 + q0), .int .u64 R]) ∧ w = w' := by
  have h1 : (y == 0) = false := by simp; omega
  have h2 : (h == 0) = false := by simp; omega
  have HL := Lib.hid hlz
  clear hlz
  have hY0 : ¬ (Y1 = 0) := by omega
  go_enter Try.func135, Try.ntmps135
  go_wp2_with fail
  refine (HL.out _).mono ?_
  rintro e w' ⟨rfl, rfl⟩
  go_wp2_with fail
  refine wp_loop_rounds 1 ?_
  rw [rounds_succ]
  go_wp2_with fail
  refine wp_loop_rounds 1 ?_
  rw [rounds_succ]
  go_wp2
  go_ret2
  refine ⟨?_, rfl⟩
  rfl

theorem bitLen_span : ∀ (f x : Nat), f ≤ 63 → 0 < x → x < 2 ^ f → 1 ≤ Lib.bitLen x ∧ Lib.bitLen x ≤ f ∧ 2 ^ (Lib.bitLen x - 1) ≤ x ∧ x < 2 ^ Lib.bitLen x
  | 0, x, _, h0, h => by simp at h; omega
  | f + 1, x, hf, h0, h => by
    have hx : x < 2 ^ 64 := Nat.lt_of_lt_of_le h (Nat.pow_le_pow_right (by omega) (by omega))
    have e := Lib.bitLen_half x (by omega) hx
    by_cases h1 : x = 1
    · subst h1
      have : Lib.bitLen 1 = 1 := by decide +kernel
      rw [this]; simp
    · obtain ⟨a, b, c, d⟩ := bitLen_span f (x / 2) (by omega) (by omega) (by rw [Nat.pow_succ] at h; omega)
      rw [e]
      generalize Lib.bitLen (x / 2) = k at *
      refine ⟨by omega, by omega, ?_, ?_⟩
      · obtain ⟨j, rfl⟩ : ∃ j, k = j + 1 := ⟨k - 1, by omega⟩
        rw [show 1 + (j + 1) - 1 = j + 1 from by omega, Nat.pow_succ]
        simp at c
        omega
      · rw [show 1 + k = k + 1 from by omega, Nat.pow_succ]; omega

theorem or_add (h p : Int) (S : Nat) (b : Int) (hp : p = 2 ^ S) (h0 : 0 ≤ h) (hb0 : 0 ≤ b) (hb : b < p) (hM : h * p < 18446744073709551616) (hbM : b < 18446744073709551616) :
    bits .or .u64 (h * p) b = h * p + b := by
  obtain ⟨a, rfl⟩ := Int.eq_ofNat_of_zero_le h0
  obtain ⟨c, rfl⟩ := Int.eq_ofNat_of_zero_le hb0
  have e : (a : Int) * p = ((a * 2 ^ S : Nat) : Int) := by rw [hp]; simp
  rw [e] at hM ⊢
  have := bits_or_u64_nat (a * 2 ^ S) c (by omega) (by omega)
  rw [this, ← Nat.shiftLeft_eq, ← Nat.shiftLeft_add_eq_or_of_lt (by have : ((2 ^ S : Nat) : Int) = p := by (rw [hp]; simp)
                                                                    omega)]
  simp
end Go.Proofs.Ythjpknipnmagkaa.Mo

