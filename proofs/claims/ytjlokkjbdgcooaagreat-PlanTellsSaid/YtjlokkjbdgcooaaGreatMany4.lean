/-
  Several texts, one behind the other: what each holds stands ahead of it.
-/
import Derived.Test.YtjlokkjbdgcooaaGreatMoneyPush
import Derived.Shelf.Small.Bits
import Derived.Shelf.Strconv.Itoa0
import Derived.Shelf.Bits.Mul64
import Derived.Test.YtjlokkjbdgcooaaGreatProg
import Derived.Test.YtjlokkjbdgcooaaGreatMany1
import Derived.Test.YtjlokkjbdgcooaaGreatMany2
import Derived.BigQuiet

/-
  Contract of container/heap's Pop over money's heap of rests.
-/
namespace Go.Proofs.YtjlokkjbdgcooaaGreat.Mo
open Go.RowKit

theorem heapAt_row {w : World} {B b n : Nat} {f : Nat → Int × Int} (h : HeapAt w B b (n + 1) f) : ∃ g c, Box w b g (n + 1) c ∧ RRow w g c (n + 1) f ∧ B ≤ g ∧ B ≤ b := by
  obtain ⟨A, c, hb, hown, hB⟩ := h
  rcases hown.2 with ⟨_, h1⟩ | ⟨g, cap, cur, h1, hg, hh, _⟩
  · omega
  · injection h1 with h1 _ hc
    subst h1 hc
    have hne : b ≠ g := by
      rintro rfl
      exact own_ne hown hb (by decide) rfl
    obtain ⟨h1, h2⟩ := row_of_own hown
    exact ⟨g, c, ⟨hb, hne⟩, h1, h2, hB⟩

set_option maxRecDepth 100000 in
set_option maxHeartbeats 1000000 in
theorem heapPop_any (b B n : Nat) (f : Nat → Int × Int) (w : World) (hh : HeapAt w B b (n + 1) f) (hp : Hp.Heap restLt (n + 1) f) (hsm : n < 100000) :
    Calls Tryz.prog 157 #[.iface 294 (.pointer (some ⟨b, 0, none⟩))] w fun e w' => e = .returned (.iface 293 (.agg #[.int .i64 (f 0).1, .int .u64 (f 0).2])) ∧
      ∃ f', HeapAt w' B b n f' ∧ Hp.Heap restLt n f' ∧ Hp.Perm (n + 1) f f' ∧ f' n = f 0 ∧ Below B w w' := by
  obtain ⟨g, c, hbx, hrow, hBg, hBb⟩ := heapAt_row hh
  have hbl := hbx.lt
  have hm1 := method_len b w _ hbx.cell
  have hm2 := method_swap b w _ hbx.cell
  go_enter Tryz.func157, Tryz.ntmps157
  go_wp2_with fail
  refine (len_any _ (n + 1) c w (by unfold maxLen; omega)).mono ?_
  rintro e w' ⟨rfl, rfl⟩
  rw [Int.natCast_add, Int.natCast_one]
  go_wp2_with fail
  refine (swap_row g c (n + 1) 0 n f w hrow (by omega) (by omega)).mono ?_
  rintro e w1 ⟨rfl, hr1, hg1⟩
  go_wp2_with fail
  refine (down_any b g (n + 1) c n 0 (Hp.swap f 0 n) w1 (hbx.grown hg1) hr1 (Hp.Down.start hp) (by omega) (by omega) (by omega)).mono ?_
  rintro e w2 ⟨⟨x, rfl⟩, f', hr2, hh2, hp2, hg2⟩
  have hm3 := method_pop b w2
  have hbx2 := (hbx.grown hg1).grown hg2
  go_wp2_with fail
  refine (popm_any b B n g c f' w2 hbx2 hr2 (by omega) hBg hBb).mono ?_
  rintro e w3 ⟨rfl, hh3, hb3⟩
  go_wp2_with fail
  go_ret
  have e0 : f' n = f 0 := by
    obtain ⟨s, t, _, _, h3⟩ := hp2
    rw [h3 n (Nat.le_refl _), Hp.swap_r]
  refine ⟨by rw [← e0]; rfl, f', hh3, hh2, (Hp.Perm.swap_ f (by omega) (by omega)).trans (hp2.more (by omega)), e0, ?_⟩
  exact ((below_of_grown hg1 hBg (by omega)).trans (below_of_grown hg2 hBg (Nat.le_trans (by omega) hg1.size))).trans hb3
end Go.Proofs.YtjlokkjbdgcooaaGreat.Mo

/-
  DERIVED: THE SHELF's CONTRACTS AT THIS DUMP, IN PLAIN WORDS (tools/lay-plain.mjs out of 'TryzShelf.lean', which tools/lay-shelf.mjs wrote): THE SAME DECLARATIONS UNDER THE SAME NAMES: 'import', 'namespace', 'open', 'def', 'theorem' AND NOTHING ELSE: no command of the shelf's: FOR A HAND-IN. Each laying: the table of numbers ('.._ren') and one theorem, a field a fact of the dump's own or the kernel's comparison; each contract: ONE APPLICATION.
-/
namespace Go.Proofs
open Go.Shelf
def Tryz.lays128_ren : Go.Shelf.Ren := ⟨fun | 128 => 197 | n => n, fun | 51 => 267 | 3 => 3 | 4 => 4 | 46 => 223 | 5 => 5 | 9 => 9 | n => n, fun | n => n⟩
theorem Tryz.lays128 : Go.Proofs.Lays.n128 Tryz.prog Tryz.lays128_ren := {
  mixed := by kernel_rfl
  f128 := Tryz.func197.trans (congrArg some (by kernel_rfl))
  t3 := Tryz.underlying3
  a3 := Tryz.isAgg3
  z3 := Tryz.sizeOf3
  v3 := Tryz.zeroValue3
  t4 := Tryz.underlying4
  a4 := Tryz.isAgg4
  z4 := Tryz.sizeOf4
  v4 := Tryz.zeroValue4
  t5 := Tryz.underlying5
  a5 := Tryz.isAgg5
  z5 := Tryz.sizeOf5
  v5 := Tryz.zeroValue5
  t9 := Tryz.underlying9
  a9 := Tryz.isAgg9
  z9 := Tryz.sizeOf9
  v9 := Tryz.zeroValue9
  t46 := Tryz.underlying223
  a46 := Tryz.isAgg223
  z46 := Tryz.sizeOf223
  v46 := Tryz.zeroValue223
  t51 := Tryz.underlying267
  a51 := Tryz.isAgg267
  z51 := Tryz.sizeOf267
  v51 := Tryz.zeroValue267 }
/-- bits.Len32: "Len32 returns the minimum number of bits required to represent x; the result is 0 for x == 0.": IT RETURNS 'Lib.bitLen x'; the world is as it was. ('h0', 'h1': x is a uint32.) (LAID: no walk: one application.) -/
theorem Tryz.bits_Len32 (x : Int) (w : World) (h0 : 0 ≤ x) (h1 : x ≤ 4294967295) :
    Calls Tryz.prog 197 #[.int .u32 x] w fun e w' => e = .returned (.int .i64 (Lib.bitLen x.toNat)) ∧ w' = w := Any.bits_Len32 Tryz.lays128 x w h0 h1
def Tryz.lays125_ren : Go.Shelf.Ren := ⟨fun | 125 => 160 | 128 => 197 | 129 => 198 | n => n, fun | 46 => 223 | 3 => 3 | 51 => 267 | 53 => 239 | 4 => 4 | 5 => 5 | 9 => 9 | n => n, fun | n => n⟩
theorem Tryz.lays125 : Go.Proofs.Lays.n125 Tryz.prog Tryz.lays125_ren := {
  mixed := by kernel_rfl
  f125 := Tryz.func160.trans (congrArg some (by kernel_rfl))
  f128 := Tryz.func197.trans (congrArg some (by kernel_rfl))
  f129 := Tryz.func198.trans (congrArg some (by kernel_rfl))
  t3 := Tryz.underlying3
  a3 := Tryz.isAgg3
  z3 := Tryz.sizeOf3
  v3 := Tryz.zeroValue3
  t4 := Tryz.underlying4
  a4 := Tryz.isAgg4
  z4 := Tryz.sizeOf4
  v4 := Tryz.zeroValue4
  t5 := Tryz.underlying5
  a5 := Tryz.isAgg5
  z5 := Tryz.sizeOf5
  v5 := Tryz.zeroValue5
  t9 := Tryz.underlying9
  a9 := Tryz.isAgg9
  z9 := Tryz.sizeOf9
  v9 := Tryz.zeroValue9
  t46 := Tryz.underlying223
  a46 := Tryz.isAgg223
  z46 := Tryz.sizeOf223
  v46 := Tryz.zeroValue223
  t51 := Tryz.underlying267
  a51 := Tryz.isAgg267
  z51 := Tryz.sizeOf267
  v51 := Tryz.zeroValue267
  t53 := Tryz.underlying239
  a53 := Tryz.isAgg239
  z53 := Tryz.sizeOf239
  v53 := Tryz.zeroValue239 }
/-- bits.Len: "Len returns the minimum number of bits required to represent x; the result is 0 for x == 0.": IT RETURNS 'Lib.bitLen x'; the world is as it was. (A uint has 64 bits in the model.) ITS CALLEE bits.Len64 IS MET BY ITS OWN CONTRACT OFF THE SHELF (lay that first). (LAID: no walk: one application.) -/
theorem Tryz.bits_Len (x : Int) (w : World) (h0 : 0 ≤ x) (h1 : x ≤ 18446744073709551615) :
    Calls Tryz.prog 160 #[.int .u64 x] w fun e w' => e = .returned (.int .i64 (Lib.bitLen x.toNat)) ∧ w' = w := Any.bits_Len Tryz.lays125 x w h0 h1
def Tryz.lays134_ren : Go.Shelf.Ren := ⟨fun | 134 => 258 | 129 => 198 | n => n, fun | 53 => 239 | 3 => 3 | 4 => 4 | 46 => 223 | 5 => 5 | 9 => 9 | n => n, fun | n => n⟩
theorem Tryz.lays134 : Go.Proofs.Lays.n134 Tryz.prog Tryz.lays134_ren := {
  mixed := by kernel_rfl
  f129 := Tryz.func198.trans (congrArg some (by kernel_rfl))
  f134 := Tryz.func258.trans (congrArg some (by kernel_rfl))
  t3 := Tryz.underlying3
  a3 := Tryz.isAgg3
  z3 := Tryz.sizeOf3
  v3 := Tryz.zeroValue3
  t4 := Tryz.underlying4
  a4 := Tryz.isAgg4
  z4 := Tryz.sizeOf4
  v4 := Tryz.zeroValue4
  t5 := Tryz.underlying5
  a5 := Tryz.isAgg5
  z5 := Tryz.sizeOf5
  v5 := Tryz.zeroValue5
  t9 := Tryz.underlying9
  a9 := Tryz.isAgg9
  z9 := Tryz.sizeOf9
  v9 := Tryz.zeroValue9
  t46 := Tryz.underlying223
  a46 := Tryz.isAgg223
  z46 := Tryz.sizeOf223
  v46 := Tryz.zeroValue223
  t53 := Tryz.underlying239
  a53 := Tryz.isAgg239
  z53 := Tryz.sizeOf239
  v53 := Tryz.zeroValue239 }
/-- bits.LeadingZeros64: "LeadingZeros64 returns the number of leading zero bits in x; the result is 64 for x == 0.": IT RETURNS '64 - Lib.bitLen x'; the world is as it was. ITS CALLEE bits.Len64 IS MET BY ITS OWN CONTRACT OFF THE SHELF (lay that first): entered in place it sends the kernel out of memory. (LAID: no walk: one application.) -/
theorem Tryz.bits_LeadingZeros64 (x : Int) (w : World) (h0 : 0 ≤ x) (h1 : x ≤ 18446744073709551615) :
    Calls Tryz.prog 258 #[.int .u64 x] w fun e w' => e = .returned (.int .i64 (64 - (Lib.bitLen x.toNat : Int))) ∧ w' = w := Any.bits_LeadingZeros64 Tryz.lays134 x w h0 h1
def Tryz.lays129_ren : Go.Shelf.Ren := ⟨fun | 129 => 198 | n => n, fun | 53 => 239 | 3 => 3 | 4 => 4 | 46 => 223 | 5 => 5 | 9 => 9 | n => n, fun | n => n⟩
theorem Tryz.lays129 : Go.Proofs.Lays.n129 Tryz.prog Tryz.lays129_ren := {
  mixed := by kernel_rfl
  f129 := Tryz.func198.trans (congrArg some (by kernel_rfl))
  t3 := Tryz.underlying3
  a3 := Tryz.isAgg3
  z3 := Tryz.sizeOf3
  v3 := Tryz.zeroValue3
  t4 := Tryz.underlying4
  a4 := Tryz.isAgg4
  z4 := Tryz.sizeOf4
  v4 := Tryz.zeroValue4
  t5 := Tryz.underlying5
  a5 := Tryz.isAgg5
  z5 := Tryz.sizeOf5
  v5 := Tryz.zeroValue5
  t9 := Tryz.underlying9
  a9 := Tryz.isAgg9
  z9 := Tryz.sizeOf9
  v9 := Tryz.zeroValue9
  t46 := Tryz.underlying223
  a46 := Tryz.isAgg223
  z46 := Tryz.sizeOf223
  v46 := Tryz.zeroValue223
  t53 := Tryz.underlying239
  a53 := Tryz.isAgg239
  z53 := Tryz.sizeOf239
  v53 := Tryz.zeroValue239 }
/-- bits.Len64: "Len64 returns the minimum number of bits required to represent x; the result is 0 for x == 0.": IT RETURNS 'Lib.bitLen x'; the world is as it was. ('h0', 'h1': x is a uint64.) (LAID: no walk: one application.) -/
theorem Tryz.bits_Len64 (x : Int) (w : World) (h0 : 0 ≤ x) (h1 : x ≤ 18446744073709551615) :
    Calls Tryz.prog 198 #[.int .u64 x] w fun e w' => e = .returned (.int .i64 (Lib.bitLen x.toNat)) ∧ w' = w := Any.bits_Len64 Tryz.lays129 x w h0 h1
def Tryz.lays264_ren : Go.Shelf.Ren := ⟨fun | 264 => 239 | n => n, fun | 53 => 239 | 46 => 223 | n => n, fun | n => n⟩
theorem Tryz.lays264 : Go.Proofs.Lays.n264 Tryz.prog Tryz.lays264_ren := {
  mixed := by kernel_rfl
  f264 := Tryz.func239.trans (congrArg some (by kernel_rfl))
  t46 := Tryz.underlying223
  a46 := Tryz.isAgg223
  z46 := Tryz.sizeOf223
  v46 := Tryz.zeroValue223
  t53 := Tryz.underlying239
  a53 := Tryz.isAgg239
  z53 := Tryz.sizeOf239
  v53 := Tryz.zeroValue239 }
open Go.RowKit Go.Lib in
theorem Tryz.bits_Mul64 (x y : Nat) (hx : x < 18446744073709551616) (hy : y < 18446744073709551616) (w : World) :
    Calls Tryz.prog 239 #[.int .u64 x, .int .u64 y] w fun e w' => e = .returned (.tuple #[.int .u64 ((x * y / 18446744073709551616 : Nat) : Int), .int .u64 ((x * y % 18446744073709551616 : Nat) : Int)]) ∧ w' = w := Any.bits_Mul64 Tryz.lays264 x y hx hy w
end Go.Proofs

/-
  Contracts of math/bits.Mul64 (from the shelf) and math/bits.Div64 at a divisor below 2 to the 32.
-/
namespace Go.Proofs.YtjlokkjbdgcooaaGreat.Mo
open Go.RowKit

theorem mul64_any (x y : Int) (hx0 : 0 ≤ x) (hx : x < 18446744073709551616) (hy0 : 0 ≤ y) (hy : y < 18446744073709551616) (w : World) :
    Calls Tryz.prog 239 #[.int .u64 x, .int .u64 y] w fun e w' => e = .returned (.tuple #[.int .u64 (x * y / 18446744073709551616), .int .u64 (x * y % 18446744073709551616)]) ∧ w = w' := by
  obtain ⟨a, rfl⟩ := Int.eq_ofNat_of_zero_le hx0
  obtain ⟨b, rfl⟩ := Int.eq_ofNat_of_zero_le hy0
  refine (Tryz.bits_Mul64 a b (by omega) (by omega) w).mono fun e w' ⟨he, hw⟩ => ⟨?_, hw.symm⟩
  rw [he]
  simp
set_option maxHeartbeats 1000000 in
theorem div64_zero (l y : Int) (hl0 : 0 ≤ l) (hl : l < 18446744073709551616) (hy0 : 0 < y) (hy : y < 4294967296) (w : World) :
    Calls Tryz.prog 240 #[.int .u64 0, .int .u64 l, .int .u64 y] w fun e w' => e = .returned (.tuple #[.int .u64 (l / y), .int .u64 (l % y)]) ∧ ∃ n, w' = w.drewN n := by
  have h1 : (y == 0) = false := by simp; omega
  go_enter Tryz.func240, Tryz.ntmps240
  go_wp2_with fail
  go_quiet (fail)
  go_wp2
  go_ret2
  exact ⟨rfl, _, rfl⟩
set_option maxHeartbeats 1000000 in
theorem div64_walk (h l y s : Int) (hh0 : 0 < h) (hh : h < y) (_hl0 : 0 ≤ l) (_hl : l < 18446744073709551616) (_hy : y < 4294967296) (w : World) (hs1 : 32 ≤ s) (hs2 : s ≤ 63)
    (hlz : ∀ w, Calls Tryz.prog 258 #[.int .u64 y] w fun e w' => e = .returned (.int .i64 s) ∧ w = w')
    (Y Y1 H L1 U V V1 V0 q1 m1 r1 a1 a2 a3 v q0 m0 r0 b1 b2 b3 b4 R : Int)
    (e1 : IntKind.u64.wrap (y * 2 ^ s.toNat) = Y) (e2 : Y / 4294967296 = Y1) (e3 : bits .and .u64 Y 4294967295 = 0)
    (e4 : IntKind.u64.wrap (h * 2 ^ s.toNat) = H) (e5 : l / 2 ^ (64 - s).toNat = L1) (e6 : bits .or .u64 H L1 = U)
    (e7 : IntKind.u64.wrap (l * 2 ^ s.toNat) = V) (e8 : V / 4294967296 = V1) (e9 : bits .and .u64 V 4294967295 = V0)
    (hY1 : 0 < Y1) (hY2 : Y1 < 4294967296) (hU0 : 0 ≤ U) (hU1 : U < 18446744073709551616)
    (e10 : U / Y1 = q1) (hq10 : 0 ≤ q1) (hq11 : q1 < 4294967296) (e11 : IntKind.u64.wrap (q1 * Y1) = m1) (_hm1 : 0 ≤ m1) (hm1' : m1 ≤ U) (e12 : U - m1 = r1) (_hr10 : 0 ≤ r1) (hr11 : r1 < 4294967296)
    (hV10 : 0 ≤ V1) (hV11 : V1 < 4294967296)
    (e13 : IntKind.u64.wrap (U * 4294967296) = a1) (e14 : IntKind.u64.wrap (a1 + V1) = a2) (e15 : IntKind.u64.wrap (q1 * Y) = a3) (e16 : IntKind.u64.wrap (a2 - a3) = v)
    (hv0 : 0 ≤ v) (hv1 : v < 18446744073709551616) (e17 : v / Y1 = q0) (hq00 : 0 ≤ q0) (hq01 : q0 < 4294967296) (e18 : IntKind.u64.wrap (q0 * Y1) = m0) (_hm0 : 0 ≤ m0) (hm0' : m0 ≤ v) (e19 : v - m0 = r0) (_hr00 : 0 ≤ r0) (hr01 : r0 < 4294967296)
    (hV00 : 0 ≤ V0) (hV01 : V0 < 4294967296)
    (e20 : IntKind.u64.wrap (v * 4294967296) = b1) (e21 : IntKind.u64.wrap (b1 + V0) = b2) (e22 : IntKind.u64.wrap (q0 * Y) = b3) (e23 : IntKind.u64.wrap (b2 - b3) = b4) (e24 : b4 / 2 ^ s.toNat = R) :
    Calls Tryz.prog 240 #[.int .u64 h, .int .u64 l, .int .u64 y] w fun e w' => e = .returned (.tuple #[.int .u64 (q1 * 4294967296 + q0), .int .u64 R]) ∧ w = w' := by
  have h1 : (y == 0) = false := by simp; omega
  have h2 : (h == 0) = false := by simp; omega
  have HL := Lib.hid hlz
  clear hlz
  have hY0 : ¬ (Y1 = 0) := by omega
  go_enter Tryz.func240, Tryz.ntmps240
  go_wp2_with fail
  refine (HL.out _).mono ?_
  rintro e w' ⟨rfl, rfl⟩
  go_wp2_with fail
  refine wp_loop_rounds 1 ?_
  rw [rounds_succ]
  go_wp2_with fail
  refine wp_loop_rounds 1 ?_
  rw [rounds_succ]
  go_wp2
  go_ret2
  refine ⟨?_, rfl⟩
  rfl

theorem bitLen_span : ∀ (f x : Nat), f ≤ 63 → 0 < x → x < 2 ^ f → 1 ≤ Lib.bitLen x ∧ Lib.bitLen x ≤ f ∧ 2 ^ (Lib.bitLen x - 1) ≤ x ∧ x < 2 ^ Lib.bitLen x
  | 0, x, _, h0, h => by simp at h; omega
  | f + 1, x, hf, h0, h => by
    have hx : x < 2 ^ 64 := Nat.lt_of_lt_of_le h (Nat.pow_le_pow_right (by omega) (by omega))
    have e := Lib.bitLen_half x (by omega) hx
    by_cases h1 : x = 1
    · subst h1
      have : Lib.bitLen 1 = 1 := by decide +kernel
      rw [this]; simp
    · obtain ⟨a, b, c, d⟩ := bitLen_span f (x / 2) (by omega) (by omega) (by rw [Nat.pow_succ] at h; omega)
      rw [e]
      generalize Lib.bitLen (x / 2) = k at *
      refine ⟨by omega, by omega, ?_, ?_⟩
      · obtain ⟨j, rfl⟩ : ∃ j, k = j + 1 := ⟨k - 1, by omega⟩
        rw [show 1 + (j + 1) - 1 = j + 1 from by omega, Nat.pow_succ]
        simp at c
        omega
      · rw [show 1 + k = k + 1 from by omega, Nat.pow_succ]; omega

theorem or_add (h p : Int) (S : Nat) (b : Int) (hp : p = 2 ^ S) (h0 : 0 ≤ h) (hb0 : 0 ≤ b) (hb : b < p) (hM : h * p < 18446744073709551616) (hbM : b < 18446744073709551616) :
    bits .or .u64 (h * p) b = h * p + b := by
  obtain ⟨a, rfl⟩ := Int.eq_ofNat_of_zero_le h0
  obtain ⟨c, rfl⟩ := Int.eq_ofNat_of_zero_le hb0
  have e : (a : Int) * p = ((a * 2 ^ S : Nat) : Int) := by rw [hp]; simp
  rw [e] at hM ⊢
  have := bits_or_u64_nat (a * 2 ^ S) c (by omega) (by omega)
  rw [this, ← Nat.shiftLeft_eq, ← Nat.shiftLeft_add_eq_or_of_lt (by have : ((2 ^ S : Nat) : Int) = p := by (rw [hp]; simp)
                                                                    omega)]
  simp
end Go.Proofs.YtjlokkjbdgcooaaGreat.Mo

/-
  Contract of math/bits.Div64 at a divisor below 2 to the 32 that is greater than the high word: quotient and rest of the two words.
-/
namespace Go.Proofs.YtjlokkjbdgcooaaGreat.Mo
open Go.RowKit

theorem wrapu (a : Int) : IntKind.u64.wrap a = a % 18446744073709551616 := by rw [IntKind.wrap_u64]

theorem and_mask (a : Int) (h0 : 0 ≤ a) (h : a < 18446744073709551616) : bits .and .u64 a 4294967295 = a % 4294967296 := by
  obtain ⟨n, rfl⟩ := Int.eq_ofNat_of_zero_le h0
  have := Mul64.maskN n (by omega)
  rw [this]; simp

/-- The long division of two words by one of at most 32 bits, in the code's own steps: p is what both are shifted by. -/
theorem long_div (h l y p p' pc : Int) (hp : p = p' * 4294967296) (hpc : pc * p = 18446744073709551616) (hp0 : 0 < p') (hpc0 : 0 < pc)
    (hh0 : 0 ≤ h) (hh : h < y) (hl0 : 0 ≤ l) (hl : l < 18446744073709551616) (hY : y * p < 18446744073709551616) :
    ∃ U V V1 V0 q1 v q0 : Int, h * p + l / pc = U ∧ 0 ≤ l / pc ∧ l / pc < p ∧ h * p < 18446744073709551616 ∧ (l * p) % 18446744073709551616 = V ∧ V / 4294967296 = V1 ∧ V % 4294967296 = V0 ∧ 0 ≤ V ∧ V < 18446744073709551616 ∧
      0 < y * p' ∧ y * p' < 4294967296 ∧ y * p / 4294967296 = y * p' ∧ y * p % 4294967296 = 0 ∧ 0 ≤ U ∧ U < 18446744073709551616 ∧
      U / (y * p') = q1 ∧ 0 ≤ q1 ∧ q1 < 4294967296 ∧ q1 * (y * p') ≤ U ∧ 0 ≤ q1 * (y * p') ∧ U - q1 * (y * p') < 4294967296 ∧
      (((U * 4294967296) % 18446744073709551616 + V1) % 18446744073709551616 - (q1 * (y * p)) % 18446744073709551616) % 18446744073709551616 = v ∧
      0 ≤ v ∧ v < 18446744073709551616 ∧ v / (y * p') = q0 ∧ 0 ≤ q0 ∧ q0 < 4294967296 ∧ q0 * (y * p') ≤ v ∧ 0 ≤ q0 * (y * p') ∧ v - q0 * (y * p') < 4294967296 ∧
      q1 * 4294967296 + q0 = (h * 18446744073709551616 + l) / y ∧
      ((((v * 4294967296) % 18446744073709551616 + V0) % 18446744073709551616 - (q0 * (y * p)) % 18446744073709551616) % 18446744073709551616) / p = (h * 18446744073709551616 + l) % y := by
  have hy0 : 0 < y := by omega
  have hpp : 0 < p := by omega
  have hyp' : 0 < y * p' := Int.mul_pos hy0 hp0
  have eY : y * p = y * p' * 4294967296 := by rw [hp, Int.mul_assoc]
  have hd := Int.mul_ediv_add_emod l pc
  have hm0 := Int.emod_nonneg l (show pc ≠ 0 by omega)
  have hm1 := Int.emod_lt_of_pos l hpc0
  have hL0 : 0 ≤ l / pc := Int.ediv_nonneg hl0 (by omega)
  have hL1 : l / pc < p := Int.ediv_lt_of_lt_mul hpc0 (by rw [Int.mul_comm]; omega)
  have hH0 : 0 ≤ h * p := Int.mul_nonneg hh0 (by omega)
  have hH1 : h * p + p ≤ y * p := by
    have : (h + 1) * p ≤ y * p := Int.mul_le_mul_of_nonneg_right (by omega) (by omega)
    rw [Int.add_mul] at this; omega
  have hlp : l * p = 18446744073709551616 * (l / pc) + (l % pc) * p := by
    have : l * p = (pc * (l / pc) + l % pc) * p := by rw [hd]
    rw [this, Int.add_mul, ← hpc]
    rw [Int.mul_comm pc p, Int.mul_assoc p pc, Int.mul_comm p (pc * (l / pc))]
  have hrp0 : 0 ≤ (l % pc) * p := Int.mul_nonneg hm0 (by omega)
  have hrp1 : (l % pc) * p < 18446744073709551616 := by
    have : (l % pc) * p < pc * p := Int.mul_lt_mul_of_pos_right hm1 hpp
    omega
  generalize hLd : l / pc = L at *
  generalize (l % pc) * p = rp at *
  generalize hHd : h * p = H at *
  generalize hYd : y * p' = Y1 at *
  have hY1 : Y1 < 4294967296 := by omega
  generalize hYY : y * p = Y at *
  have eV : (l * p) % 18446744073709551616 = rp := by rw [hlp]; omega
  refine ⟨H + L, rp, rp / 4294967296, rp % 4294967296, (H + L) / Y1, 4294967296 * ((H + L) % Y1) + rp / 4294967296, (4294967296 * ((H + L) % Y1) + rp / 4294967296) / Y1, ?_⟩
  have c0 := Int.mul_ediv_add_emod (H + L) Y1
  have c1 := Int.emod_nonneg (H + L) (show Y1 ≠ 0 by omega)
  have c2 := Int.emod_lt_of_pos (H + L) hyp'
  have c3 : 0 ≤ (H + L) / Y1 := Int.ediv_nonneg (by omega) (by omega)
  have c4 : (H + L) / Y1 < 4294967296 := Int.ediv_lt_of_lt_mul hyp' (by rw [Int.mul_comm]; omega)
  have c5 : (H + L) / Y1 * Y = 4294967296 * (Y1 * ((H + L) / Y1)) := by rw [eY, ← Int.mul_assoc, Int.mul_comm ((H + L) / Y1) Y1, Int.mul_comm]
  have c6 : (H + L) / Y1 * Y1 = Y1 * ((H + L) / Y1) := Int.mul_comm _ _
  have c7 : 0 ≤ Y1 * ((H + L) / Y1) := Int.mul_nonneg (by omega) c3
  generalize (H + L) / Y1 = q1 at *
  generalize (H + L) % Y1 = r1 at *
  generalize Y1 * q1 = m1 at *
  have d0 := Int.mul_ediv_add_emod (4294967296 * r1 + rp / 4294967296) Y1
  have d1 := Int.emod_nonneg (4294967296 * r1 + rp / 4294967296) (show Y1 ≠ 0 by omega)
  have d2 := Int.emod_lt_of_pos (4294967296 * r1 + rp / 4294967296) hyp'
  have d3 : 0 ≤ (4294967296 * r1 + rp / 4294967296) / Y1 := Int.ediv_nonneg (by omega) (by omega)
  have d4 : (4294967296 * r1 + rp / 4294967296) / Y1 < 4294967296 := Int.ediv_lt_of_lt_mul hyp' (by rw [Int.mul_comm]; omega)
  have d5 : (4294967296 * r1 + rp / 4294967296) / Y1 * Y = 4294967296 * (Y1 * ((4294967296 * r1 + rp / 4294967296) / Y1)) := by rw [eY, ← Int.mul_assoc, Int.mul_comm ((4294967296 * r1 + rp / 4294967296) / Y1) Y1, Int.mul_comm]
  have d6 : (4294967296 * r1 + rp / 4294967296) / Y1 * Y1 = Y1 * ((4294967296 * r1 + rp / 4294967296) / Y1) := Int.mul_comm _ _
  have d7 : 0 ≤ Y1 * ((4294967296 * r1 + rp / 4294967296) / Y1) := Int.mul_nonneg (by omega) d3
  generalize hq0 : (4294967296 * r1 + rp / 4294967296) / Y1 = q0 at *
  generalize (4294967296 * r1 + rp / 4294967296) % Y1 = r0 at *
  generalize Y1 * q0 = m0 at *
  -- the whole
  have hN : (h * 18446744073709551616 + l) * p = (q1 * 4294967296 + q0) * Y + (4294967296 * r0 + rp % 4294967296) := by
    rw [Int.add_mul, Int.add_mul, hlp, Int.mul_right_comm h, hHd, Int.mul_right_comm q1, c5, d5]
    omega
  have hb1 : 4294967296 * r0 + rp % 4294967296 < y * p := by rw [hYY]; omega
  rw [← hYY] at hN
  have hQ : q1 * 4294967296 + q0 = (h * 18446744073709551616 + l) / y := by
    rw [← Int.mul_ediv_mul_of_pos_left _ y hpp, hN, Int.add_comm ((q1 * 4294967296 + q0) * (y * p)), Int.add_mul_ediv_right _ _ (by omega), Int.ediv_eq_zero_of_lt (by omega) (by omega)]
    omega
  have hR : 4294967296 * r0 + rp % 4294967296 = ((h * 18446744073709551616 + l) % y) * p := by
    have e := Int.emod_def (h * 18446744073709551616 + l) y
    have e2 : y * (q1 * 4294967296 + q0) * p = (q1 * 4294967296 + q0) * (y * p) := by rw [Int.mul_comm y, Int.mul_assoc]
    rw [e, ← hQ, Int.sub_mul, hN, e2]
    omega
  refine ⟨rfl, hL0, hL1, by omega, eV, rfl, rfl, hrp0, hrp1, hyp', hY1, by omega, by omega, by omega, by omega, rfl, c3, c4, by omega, by omega, by omega, ?_, by omega, by omega, rfl, d3, d4, by omega, by omega, by omega, hQ, ?_⟩
  · rw [c5]; omega
  · rw [d5]
    have : (((4294967296 * r1 + rp / 4294967296) * 4294967296 % 18446744073709551616 + rp % 4294967296) % 18446744073709551616 - 4294967296 * m0 % 18446744073709551616) % 18446744073709551616 = 4294967296 * r0 + rp % 4294967296 := by omega
    rw [this, hR, Int.mul_ediv_cancel _ (by omega)]

set_option maxHeartbeats 1000000 in
theorem div64_pos (h l y : Int) (hh0 : 0 < h) (hh : h < y) (hl0 : 0 ≤ l) (hl : l < 18446744073709551616) (hy : y < 4294967296) (w : World) :
    Calls Tryz.prog 240 #[.int .u64 h, .int .u64 l, .int .u64 y] w fun e w' => e = .returned (.tuple #[.int .u64 ((h * 18446744073709551616 + l) / y), .int .u64 ((h * 18446744073709551616 + l) % y)]) ∧ w = w' := by
  obtain ⟨b1, b2, b3, b4⟩ := bitLen_span 32 y.toNat (by omega) (by omega) (by omega)
  have hlz : ∀ w, Calls Tryz.prog 258 #[.int .u64 y] w fun e w' => e = .returned (.int .i64 (64 - (Lib.bitLen y.toNat : Int))) ∧ w = w' := fun w => (Tryz.bits_LeadingZeros64 y w (by omega) (by omega)).mono fun e w' ⟨he, hw⟩ => ⟨he, hw.symm⟩
  generalize Lib.bitLen y.toNat = k at *
  obtain ⟨j, rfl⟩ : ∃ j, k = 32 - j := ⟨32 - k, by omega⟩
  have hs : ((64 : Int) - ((32 - j : Nat) : Int)).toNat = 32 + j := by omega
  have hs' : ((64 : Int) - (64 - ((32 - j : Nat) : Int))).toNat = 32 - j := by omega
  have ep : (2 : Int) ^ (32 + j) = 2 ^ j * 4294967296 := by rw [Int.pow_add]; rw [Int.mul_comm]; rfl
  have epc : (2 : Int) ^ (32 - j) * 2 ^ (32 + j) = 18446744073709551616 := by rw [← Int.pow_add, show 32 - j + (32 + j) = 64 from by omega]; rfl
  have hp0 : (0 : Int) < 2 ^ j := Int.pow_pos (by omega)
  have hpc0 : (0 : Int) < 2 ^ (32 - j) := Int.pow_pos (by omega)
  have hY : y * 2 ^ (32 + j) < 18446744073709551616 := by
    have h1 : y < 2 ^ (32 - j) := by
      have : ((y.toNat : Nat) : Int) < ((2 ^ (32 - j) : Nat) : Int) := by omega
      rw [Int.toNat_of_nonneg (by omega)] at this
      simpa using this
    have : y * 2 ^ (32 + j) < 2 ^ (32 - j) * 2 ^ (32 + j) := Int.mul_lt_mul_of_pos_right h1 (Int.pow_pos (by omega))
    omega
  obtain ⟨U, V, V1, V0, q1, v, q0, f1, f2, f3, f4, f5, f6, f7, f8, f9, f10, f11, f12, f13, f14, f15, f16, f17, f18, f19, f20, f21, f22, f23, f24, f25, f26, f27, f28, f29, f30, f31, f32⟩ := long_div h l y (2 ^ (32 + j)) (2 ^ j) (2 ^ (32 - j)) ep epc hp0 hpc0 (by omega) hh hl0 hl hY
  have hY0 : 0 ≤ y * 2 ^ (32 + j) := Int.mul_nonneg (by omega) (Int.le_of_lt (Int.pow_pos (by omega)))
  have hH0 : 0 ≤ h * 2 ^ (32 + j) := Int.mul_nonneg (by omega) (Int.le_of_lt (Int.pow_pos (by omega)))
  have := div64_walk h l y (64 - ((32 - j : Nat) : Int)) hh0 hh hl0 hl hy w (by omega) (by omega) hlz (y * 2 ^ (32 + j)) (y * 2 ^ j) (h * 2 ^ (32 + j)) (l / 2 ^ (32 - j)) U V V1 V0 q1 (q1 * (y * 2 ^ j)) (U - q1 * (y * 2 ^ j)) _ _ _ v q0 (q0 * (y * 2 ^ j)) (v - q0 * (y * 2 ^ j)) _ _ _ _ ((h * 18446744073709551616 + l) % y)
    (by rw [hs, wrapu]; exact Int.emod_eq_of_lt hY0 hY) f12 (by rw [and_mask _ hY0 hY]; exact f13) (by rw [hs, wrapu]; exact Int.emod_eq_of_lt hH0 f4) (by rw [hs']) (by rw [or_add h _ (32 + j) _ rfl (by omega) f2 f3 f4 (by omega)]; exact f1)
    (by rw [hs, wrapu]; exact f5) f6 (by rw [and_mask _ f8 f9]; exact f7) f10 f11 f14 f15 f16 f17 f18 (by rw [wrapu]; omega) f20 f19 rfl (by omega) f21 (by omega) (by omega)
    rfl rfl rfl (by rw [wrapu, wrapu, wrapu, wrapu]; exact f22) f23 f24 f25 f26 f27 (by rw [wrapu]; omega) f29 f28 rfl (by omega) f30 (by omega) (by omega) rfl rfl rfl rfl (by rw [hs, wrapu, wrapu, wrapu, wrapu]; exact f32)
  rw [f31] at this
  exact this
end Go.Proofs.YtjlokkjbdgcooaaGreat.Mo
