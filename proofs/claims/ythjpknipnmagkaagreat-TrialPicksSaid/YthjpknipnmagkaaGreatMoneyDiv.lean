/-
  Contract of math/bits.Div64 at a divisor below 2 to the 32 that is greater than the high word: quotient and rest of the two words.
-/
import Derived.Test.YthjpknipnmagkaaGreatMany20
namespace Go.Proofs.YthjpknipnmagkaaGreat.Mo
open Go.RowKit

theorem wrapu (a : Int) : IntKind.u64.wrap a = a % 18446744073709551616 := by rw [IntKind.wrap_u64]

theorem and_mask (a : Int) (h0 : 0 ≤ a) (h : a < 18446744073709551616) : bits .and .u64 a 4294967295 = a % 4294967296 := by
  obtain ⟨n, rfl⟩ := Int.eq_ofNat_of_zero_le h0
  have := Mul64.maskN n (by omega)
  rw [this]; simp

/-- The long division of two words by one of at most 32 bits, in the code's own steps: p is what both are shifted by. -/
theorem long_div (h l y p p' pc : Int) (hp : p = p' * 4294967296) (hpc : pc * p = 18446744073709551616) (hp0 : 0 < p') (hpc0 : 0 < pc)
    (hh0 : 0 ≤ h) (hh : h < y) (hl0 : 0 ≤ l) (hl : l < 18446744073709551616) (hY : y * p < 18446744073709551616) :
    ∃ U V V1 V0 q1 v q0 : Int, h * p + l / pc = U ∧ 0 ≤ l / pc ∧ l / pc < p ∧ h * p < 18446744073709551616 ∧ (l * p) % 18446744073709551616 = V ∧ V / 4294967296 = V1 ∧ V % 4294967296 = V0 ∧ 0 ≤ V ∧ V < 18446744073709551616 ∧
      0 < y * p' ∧ y * p' < 4294967296 ∧ y * p / 4294967296 = y * p' ∧ y * p % 4294967296 = 0 ∧ 0 ≤ U ∧ U < 18446744073709551616 ∧
      U / (y * p') = q1 ∧ 0 ≤ q1 ∧ q1 < 4294967296 ∧ q1 * (y * p') ≤ U ∧ 0 ≤ q1 * (y * p') ∧ U - q1 * (y * p') < 4294967296 ∧
      (((U * 4294967296) % 18446744073709551616 + V1) % 18446744073709551616 - (q1 * (y * p)) % 18446744073709551616) % 18446744073709551616 = v ∧
      0 ≤ v ∧ v < 18446744073709551616 ∧ v / (y * p') = q0 ∧ 0 ≤ q0 ∧ q0 < 4294967296 ∧ q0 * (y * p') ≤ v ∧ 0 ≤ q0 * (y * p') ∧ v - q0 * (y * p') < 4294967296 ∧
      q1 * 4294967296 + q0 = (h * 18446744073709551616 + l) / y ∧
      ((((v * 4294967296) % 18446744073709551616 + V0) % 18446744073709551616 - (q0 * (y * p)) % 18446744073709551616) % 18446744073709551616) / p = (h * 18446744073709551616 + l) % y := by
  have hy0 : 0 < y := by omega
  have hpp : 0 < p := by omega
  have hyp' : 0 < y * p' := Int.mul_pos hy0 hp0
  have eY : y * p = y * p' * 4294967296 := by rw [hp, Int.mul_assoc]
  have hd := Int.mul_ediv_add_emod l pc
  have hm0 := Int.emod_nonneg l (show pc ≠ 0 by omega)
  have hm1 := Int.emod_lt_of_pos l hpc0
  have hL0 : 0 ≤ l / pc := Int.ediv_nonneg hl0 (by omega)
  have hL1 : l / pc < p := Int.ediv_lt_of_lt_mul hpc0 (by rw [Int.mul_comm]; omega)
  have hH0 : 0 ≤ h * p := Int.mul_nonneg hh0 (by omega)
  have hH1 : h * p + p ≤ y * p := by
    have : (h + 1) * p ≤ y * p := Int.mul_le_mul_of_nonneg_right (by omega) (by omega)
    rw [Int.add_mul] at this; omega
  have hlp : l * p = 18446744073709551616 * (l / pc) + (l % pc) * p := by
    have : l * p = (pc * (l / pc) + l % pc) * p := by rw [hd]
    rw [this, Int.add_mul, ← hpc]
    rw [Int.mul_comm pc p, Int.mul_assoc p pc, Int.mul_comm p (pc * (l / pc))]
  have hrp0 : 0 ≤ (l % pc) * p := Int.mul_nonneg hm0 (by omega)
  have hrp1 : (l % pc) * p < 18446744073709551616 := by
    have : (l % pc) * p < pc * p := Int.mul_lt_mul_of_pos_right hm1 hpp
    omega
  generalize hLd : l / pc = L at *
  generalize (l % pc) * p = rp at *
  generalize hHd : h * p = H at *
  generalize hYd : y * p' = Y1 at *
  have hY1 : Y1 < 4294967296 := by omega
  generalize hYY : y * p = Y at *
  have eV : (l * p) % 18446744073709551616 = rp := by rw [hlp]; omega
  refine ⟨H + L, rp, rp / 4294967296, rp % 4294967296, (H + L) / Y1, 4294967296 * ((H + L) % Y1) + rp / 4294967296, (4294967296 * ((H + L) % Y1) + rp / 4294967296) / Y1, ?_⟩
  have c0 := Int.mul_ediv_add_emod (H + L) Y1
  have c1 := Int.emod_nonneg (H + L) (show Y1 ≠ 0 by omega)
  have c2 := Int.emod_lt_of_pos (H + L) hyp'
  have c3 : 0 ≤ (H + L) / Y1 := Int.ediv_nonneg (by omega) (by omega)
  have c4 : (H + L) / Y1 < 4294967296 := Int.ediv_lt_of_lt_mul hyp' (by rw [Int.mul_comm]; omega)
  have c5 : (H + L) / Y1 * Y = 4294967296 * (Y1 * ((H + L) / Y1)) := by rw [eY, ← Int.mul_assoc, Int.mul_comm ((H + L) / Y1) Y1, Int.mul_comm]
  have c6 : (H + L) / Y1 * Y1 = Y1 * ((H + L) / Y1) := Int.mul_comm _ _
  have c7 : 0 ≤ Y1 * ((H + L) / Y1) := Int.mul_nonneg (by omega) c3
  generalize (H + L) / Y1 = q1 at *
  generalize (H + L) % Y1 = r1 at *
  generalize Y1 * q1 = m1 at *
  have d0 := Int.mul_ediv_add_emod (4294967296 * r1 + rp / 4294967296) Y1
  have d1 := Int.emod_nonneg (4294967296 * r1 + rp / 4294967296) (show Y1 ≠ 0 by omega)
  have d2 := Int.emod_lt_of_pos (4294967296 * r1 + rp / 4294967296) hyp'
  have d3 : 0 ≤ (4294967296 * r1 + rp / 4294967296) / Y1 := Int.ediv_nonneg (by omega) (by omega)
  have d4 : (4294967296 * r1 + rp / 4294967296) / Y1 < 4294967296 := Int.ediv_lt_of_lt_mul hyp' (by rw [Int.mul_comm]; omega)
  have d5 : (4294967296 * r1 + rp / 4294967296) / Y1 * Y = 4294967296 * (Y1 * ((4294967296 * r1 + rp / 4294967296) / Y1)) := by rw [eY, ← Int.mul_assoc, Int.mul_comm ((4294967296 * r1 + rp / 4294967296) / Y1) Y1, Int.mul_comm]
  have d6 : (4294967296 * r1 + rp / 4294967296) / Y1 * Y1 = Y1 * ((4294967296 * r1 + rp / 4294967296) / Y1) := Int.mul_comm _ _
  have d7 : 0 ≤ Y1 * ((4294967296 * r1 + rp / 4294967296) / Y1) := Int.mul_nonneg (by omega) d3
  generalize hq0 : (4294967296 * r1 + rp / 4294967296) / Y1 = q0 at *
  generalize (4294967296 * r1 + rp / 4294967296) % Y1 = r0 at *
  generalize Y1 * q0 = m0 at *
  -- the whole
  have hN : (h * 18446744073709551616 + l) * p = (q1 * 4294967296 + q0) * Y + (4294967296 * r0 + rp % 4294967296) := by
    rw [Int.add_mul, Int.add_mul, hlp, Int.mul_right_comm h, hHd, Int.mul_right_comm q1, c5, d5]
    omega
  have hb1 : 4294967296 * r0 + rp % 4294967296 < y * p := by rw [hYY]; omega
  rw [← hYY] at hN
  have hQ : q1 * 4294967296 + q0 = (h * 18446744073709551616 + l) / y := by
    rw [← Int.mul_ediv_mul_of_pos_left _ y hpp, hN, Int.add_comm ((q1 * 4294967296 + q0) * (y * p)), Int.add_mul_ediv_right _ _ (by omega), Int.ediv_eq_zero_of_lt (by omega) (by omega)]
    omega
  have hR : 4294967296 * r0 + rp % 4294967296 = ((h * 18446744073709551616 + l) % y) * p := by
    have e := Int.emod_def (h * 18446744073709551616 + l) y
    have e2 : y * (q1 * 4294967296 + q0) * p = (q1 * 4294967296 + q0) * (y * p) := by rw [Int.mul_comm y, Int.mul_assoc]
    rw [e, ← hQ, Int.sub_mul, hN, e2]
    omega
  refine ⟨rfl, hL0, hL1, by omega, eV, rfl, rfl, hrp0, hrp1, hyp', hY1, by omega, by omega, by omega, by omega, rfl, c3, c4, by omega, by omega, by omega, ?_, by omega, by omega, rfl, d3, d4, by omega, by omega, by omega, hQ, ?_⟩
  · rw [c5]; omega
  · rw [d5]
    have : (((4294967296 * r1 + rp / 4294967296) * 4294967296 % 18446744073709551616 + rp % 4294967296) % 18446744073709551616 - 4294967296 * m0 % 18446744073709551616) % 18446744073709551616 = 4294967296 * r0 + rp % 4294967296 := by omega
    rw [this, hR, Int.mul_ediv_cancel _ (by omega)]

set_option maxHeartbeats 1000000 in
theorem div64_pos (h l y : Int) (hh0 : 0 < h) (hh : h < y) (hl0 : 0 ≤ l) (hl : l < 18446744073709551616) (hy : y < 4294967296) (w : World) :
    Calls Tryz.prog 240 #[.int .u64 h, .int .u64 l, .int .u64 y] w fun e w' => e = .returned (.tuple #[.int .u64 ((h * 18446744073709551616 + l) / y), .int .u64 ((h * 18446744073709551616 + l) % y)]) ∧ w = w' := by
  obtain ⟨b1, b2, b3, b4⟩ := bitLen_span 32 y.toNat (by omega) (by omega) (by omega)
  have hlz : ∀ w, Calls Tryz.prog 255 #[.int .u64 y] w fun e w' => e = .returned (.int .i64 (64 - (Lib.bitLen y.toNat : Int))) ∧ w = w' := fun w => (Tryz.bits_LeadingZeros64 y w (by omega) (by omega)).mono fun e w' ⟨he, hw⟩ => ⟨he, hw.symm⟩
  generalize Lib.bitLen y.toNat = k at *
  obtain ⟨j, rfl⟩ : ∃ j, k = 32 - j := ⟨32 - k, by omega⟩
  have hs : ((64 : Int) - ((32 - j : Nat) : Int)).toNat = 32 + j := by omega
  have hs' : ((64 : Int) - (64 - ((32 - j : Nat) : Int))).toNat = 32 - j := by omega
  have ep : (2 : Int) ^ (32 + j) = 2 ^ j * 4294967296 := by rw [Int.pow_add]; rw [Int.mul_comm]; rfl
  have epc : (2 : Int) ^ (32 - j) * 2 ^ (32 + j) = 18446744073709551616 := by rw [← Int.pow_add, show 32 - j + (32 + j) = 64 from by omega]; rfl
  have hp0 : (0 : Int) < 2 ^ j := Int.pow_pos (by omega)
  have hpc0 : (0 : Int) < 2 ^ (32 - j) := Int.pow_pos (by omega)
  have hY : y * 2 ^ (32 + j) < 18446744073709551616 := by
    have h1 : y < 2 ^ (32 - j) := by
      have : ((y.toNat : Nat) : Int) < ((2 ^ (32 - j) : Nat) : Int) := by omega
      rw [Int.toNat_of_nonneg (by omega)] at this
      simpa using this
    have : y * 2 ^ (32 + j) < 2 ^ (32 - j) * 2 ^ (32 + j) := Int.mul_lt_mul_of_pos_right h1 (Int.pow_pos (by omega))
    omega
  obtain ⟨U, V, V1, V0, q1, v, q0, f1, f2, f3, f4, f5, f6, f7, f8, f9, f10, f11, f12, f13, f14, f15, f16, f17, f18, f19, f20, f21, f22, f23, f24, f25, f26, f27, f28, f29, f30, f31, f32⟩ := long_div h l y (2 ^ (32 + j)) (2 ^ j) (2 ^ (32 - j)) ep epc hp0 hpc0 (by omega) hh hl0 hl hY
  have hY0 : 0 ≤ y * 2 ^ (32 + j) := Int.mul_nonneg (by omega) (Int.le_of_lt (Int.pow_pos (by omega)))
  have hH0 : 0 ≤ h * 2 ^ (32 + j) := Int.mul_nonneg (by omega) (Int.le_of_lt (Int.pow_pos (by omega)))
  have := div64_walk h l y (64 - ((32 - j : Nat) : Int)) hh0 hh hl0 hl hy w (by omega) (by omega) hlz (y * 2 ^ (32 + j)) (y * 2 ^ j) (h * 2 ^ (32 + j)) (l / 2 ^ (32 - j)) U V V1 V0 q1 (q1 * (y * 2 ^ j)) (U - q1 * (y * 2 ^ j)) _ _ _ v q0 (q0 * (y * 2 ^ j)) (v - q0 * (y * 2 ^ j)) _ _ _ _ ((h * 18446744073709551616 + l) % y)
    (by rw [hs, wrapu]; exact Int.emod_eq_of_lt hY0 hY) f12 (by rw [and_mask _ hY0 hY]; exact f13) (by rw [hs, wrapu]; exact Int.emod_eq_of_lt hH0 f4) (by rw [hs']) (by rw [or_add h _ (32 + j) _ rfl (by omega) f2 f3 f4 (by omega)]; exact f1)
    (by rw [hs, wrapu]; exact f5) f6 (by rw [and_mask _ f8 f9]; exact f7) f10 f11 f14 f15 f16 f17 f18 (by rw [wrapu]; omega) f20 f19 rfl (by omega) f21 (by omega) (by omega)
    rfl rfl rfl (by rw [wrapu, wrapu, wrapu, wrapu]; exact f22) f23 f24 f25 f26 f27 (by rw [wrapu]; omega) f29 f28 rfl (by omega) f30 (by omega) (by omega) rfl rfl rfl rfl (by rw [hs, wrapu, wrapu, wrapu, wrapu]; exact f32)
  rw [f31] at this
  exact this
end Go.Proofs.YthjpknipnmagkaaGreat.Mo

