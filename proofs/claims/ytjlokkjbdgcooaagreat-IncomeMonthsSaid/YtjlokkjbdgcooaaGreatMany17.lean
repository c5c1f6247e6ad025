/-
  Several texts, one behind the other: what each holds stands ahead of it.
-/
import Derived.Test.YtjlokkjbdgcooaaGreatMany16
import Derived.Test.YtjlokkjbdgcooaaGreatMany2

/-
  Contract of math/bits.Div64 at a divisor below 2 to the 32 that is greater than the high word: quotient and rest of the two words.
-/
namespace Go.Proofs.YtjlokkjbdgcooaaGreat.Mo
open Go.RowKit

theorem wrapu (a : Int) : IntKind.u64.wrap a = a % 18446744073709551616 := by rw [IntKind.wrap_u64]

theorem and_mask (a : Int) (h0 : 0 ≤ a) (h : a < 18446744073709551616) : bits .and .u64 a 4294967295 = a % 4294967296 := by
  obtain ⟨n, rfl⟩ := Int.eq_ofNat_of_zero_le h0
  have := Mul64.maskN n (by omega)
  rw [this]; simp

/-- The long division of two words by one of at most 32 bits, in the code's own steps: p is what both are shifted by. -/
theorem long_div (h l y p p' pc : Int) (hp : p = p' * 4294967296) (hpc : pc * p = 18446744073709551616) (hp0 : 0 < p') (hpc0 : 0 < pc)
    (hh0 : 0 ≤ h) (hh : h < y) (hl0 : 0 ≤ l) (hl : l < 18446744073709551616) (hY : y * p < 18446744073709551616) :
    ∃ U V V1 V0 q1 v q0 : Int, h * p + l / pc = U ∧ 0 ≤ l / pc ∧ l / pc < p ∧ h * p < 18446744073709551616 ∧ (l * p) % 18446744073709551616 = V ∧ V / 4294967296 = V1 ∧ V % 4294967296 = V0 ∧ 0 ≤ V ∧ V < 18446744073709551616 ∧
      0 < y * p' ∧ y * p' < 4294967296 ∧ y * p / 4294967296 = y * p' ∧ y * p % 4294967296 = 0 ∧ 0 ≤ U ∧ U < 18446744073709551616 ∧
      U / (y * p') = q1 ∧ 0 ≤ q1 ∧ q1 < 4294967296 ∧ q1 * (y * p') ≤ U ∧ 0 ≤ q1 * (y * p') ∧ U - q1 * (y * p') < 4294967296 ∧
      (((U * 4294967296) % 18446744073709551616 + V1) % 18446744073709551616 - (q1 * (y * p)) % 18446744073709551616) % 18446744073709551616 = v ∧
      0 ≤ v ∧ v < 18446744073709551616 ∧ v / (y * p') = q0 ∧ 0 ≤ q0 ∧ q0 < 4294967296 ∧ q0 * (y * p') ≤ v ∧ 0 ≤ q0 * (y * p') ∧ v - q0 * (y * p') < 4294967296 ∧
      q1 * 4294967296 + q0 = (h * 18446744073709551616 + l) / y ∧
      ((((v * 4294967296) % 18446744073709551616 + V0) % 18446744073709551616 - (q0 * (y * p)) % 18446744073709551616) % 18446744073709551616) / p = (h * 18446744073709551616 + l) % y := by
  have hy0 : 0 < y := by omega
  have hpp : 0 < p := by omega
  have hyp' : 0 < y * p' := Int.mul_pos hy0 hp0
  have eY : y * p = y * p' * 4294967296 := by rw [hp, Int.mul_assoc]
  have hd := Int.mul_ediv_add_emod l pc
  have hm0 := Int.emod_nonneg l (show pc ≠ 0 by omega)
  have hm1 := Int.emod_lt_of_pos l hpc0
  have hL0 : 0 ≤ l / pc := Int.ediv_nonneg hl0 (by omega)
  have hL1 : l / pc < p := Int.ediv_lt_of_lt_mul hpc0 (by rw [Int.mul_comm]; omega)
  have hH0 : 0 ≤ h * p := Int.mul_nonneg hh0 (by omega)
  have hH1 : h * p + p ≤ y * p := by
    have : (h + 1) * p ≤ y * p := Int.mul_le_mul_of_nonneg_right (by omega) (by omega)
    rw [Int.add_mul] at this; omega
  have hlp : l * p = 18446744073709551616 * (l / pc) + (l % pc) * p := by
    have : l * p = (pc * (l / pc) + l % pc) * p := by rw [hd]
    rw [this, Int.add_mul, ← hpc]
    rw [Int.mul_comm pc p, Int.mul_assoc p pc, Int.mul_comm p (pc * (l / pc))]
  have hrp0 : 0 ≤ (l % pc) * p := Int.mul_nonneg hm0 (by omega)
  have hrp1 : (l % pc) * p < 18446744073709551616 := by
    have : (l % pc) * p < pc * p := Int.mul_lt_mul_of_pos_right hm1 hpp
    omega
  generalize hLd : l / pc = L at *
  generalize (l % pc) * p = rp at *
  generalize hHd : h * p = H at *
  generalize hYd : y * p' = Y1 at *
  have hY1 : Y1 < 4294967296 := by omega
  generalize hYY : y * p = Y at *
  have eV : (l * p) % 18446744073709551616 = rp := by rw [hlp]; omega
  refine ⟨H + L, rp, rp / 4294967296, rp % 4294967296, (H + L) / Y1, 4294967296 * ((H + L) % Y1) + rp / 4294967296, (4294967296 * ((H + L) % Y1) + rp / 4294967296) / Y1, ?_⟩
  have c0 := Int.mul_ediv_add_emod (H + L) Y1
  have c1 := Int.emod_nonneg (H + L) (show Y1 ≠ 0 by omega)
  have c2 := Int.emod_lt_of_pos (H + L) hyp'
  have c3 : 0 ≤ (H + L) / Y1 := Int.ediv_nonneg (by omega) (by omega)
  have c4 : (H + L) / Y1 < 4294967296 := Int.ediv_lt_of_lt_mul hyp' (by rw [Int.mul_comm]; omega)
  have c5 : (H + L) / Y1 * Y = 4294967296 * (Y1 * ((H + L) / Y1)) := by rw [eY, ← Int.mul_assoc, Int.mul_comm ((H + L) / Y1) Y1, Int.mul_comm]
  have c6 : (H + L) / Y1 * Y1 = Y1 * ((H + L) / Y1) := Int.mul_comm _ _
  have c7 : 0 ≤ Y1 * ((H + L) / Y1) := Int.mul_nonneg (by omega) c3
  generalize (H + L) / Y1 = q1 at *
  generalize (H + L) % Y1 = r1 at *
  generalize Y1 * q1 = m1 at *
  have d0 := Int.mul_ediv_add_emod (4294967296 * r1 + rp / 4294967296) Y1
  have d1 := Int.emod_nonneg (4294967296 * r1 + rp / 4294967296) (show Y1 ≠ 0 by omega)
  have d2 := Int.emod_lt_of_pos (4294967296 * r1 + rp / 4294967296) hyp'
  have d3 : 0 ≤ (4294967296 * r1 + rp / 4294967296) / Y1 := Int.ediv_nonneg (by omega) (by omega)
  have d4 : (4294967296 * r1 + rp / 4294967296) / Y1 < 4294967296 := Int.ediv_lt_of_lt_mul hyp' (by rw [Int.mul_comm]; omega)
  have d5 : (4294967296 * r1 + rp / 4294967296) / Y1 * Y = 4294967296 * (Y1 * ((4294967296 * r1 + rp / 4294967296) / Y1)) := by rw [eY, ← Int.mul_assoc, Int.mul_comm ((4294967296 * r1 + rp / 4294967296) / Y1) Y1, Int.mul_comm]
  have d6 : (4294967296 * r1 + rp / 4294967296) / Y1 * Y1 = Y1 * ((4294967296 * r1 + rp / 4294967296) / Y1) := Int.mul_comm _ _
  have d7 : 0 ≤ Y1 * ((4294967296 * r1 + rp / 4294967296) / Y1) := Int.mul_nonneg (by omega) d3
  generalize hq0 : (4294967296 * r1 + rp / 4294967296) / Y1 = q0 at *
  generalize (4294967296 * r1 + rp / 4294967296) % Y1 = r0 at *
  generalize Y1 * q0 = m0 at *
  -- the whole
  have hN : (h * 18446744073709551616 + l) * p = (q1 * 4294967296 + q0) * Y + (4294967296 * r0 + rp % 4294967296) := by
    rw [Int.add_mul, Int.add_mul, hlp, Int.mul_right_comm h, hHd, Int.mul_right_comm q1, c5, d5]
    omega
  have hb1 : 4294967296 * r0 + rp % 4294967296 < y * p := by rw [hYY]; omega
  rw [← hYY] at hN
  have hQ : q1 * 4294967296 + q0 = (h * 18446744073709551616 + l) / y := by
    rw [← Int.mul_ediv_mul_of_pos_left _ y hpp, hN, Int.add_comm ((q1 * 4294967296 + q0) * (y * p)), Int.add_mul_ediv_right _ _ (by omega), Int.ediv_eq_zero_of_lt (by omega) (by omega)]
    omega
  have hR : 4294967296 * r0 + rp % 4294967296 = ((h * 18446744073709551616 + l) % y) * p := by
    have e := Int.emod_def (h * 18446744073709551616 + l) y
    have e2 : y * (q1 * 4294967296 + q0) * p = (q1 * 4294967296 + q0) * (y * p) := by rw [Int.mul_comm y, Int.mul_assoc]
    rw [e, ← hQ, Int.sub_mul, hN, e2]
    omega
  refine ⟨rfl, hL0, hL1, by omega, eV, rfl, rfl, hrp0, hrp1, hyp', hY1, by omega, by omega, by omega, by omega, rfl, c3, c4, by omega, by omega, by omega, ?_, by omega, by omega, rfl, d3, d4, by omega, by omega, by omega, hQ, ?_⟩
  · rw [c5]; omega
  · rw [d5]
    have : (((4294967296 * r1 + rp / 4294967296) * 4294967296 % 18446744073709551616 + rp % 4294967296) % 18446744073709551616 - 4294967296 * m0 % 18446744073709551616) % 18446744073709551616 = 4294967296 * r0 + rp % 4294967296 := by omega
    rw [this, hR, Int.mul_ediv_cancel _ (by omega)]

set_option maxHeartbeats 1000000 in
theorem div64_pos (h l y : Int) (hh0 : 0 < h) (hh : h < y) (hl0 : 0 ≤ l) (hl : l < 18446744073709551616) (hy : y < 4294967296) (w : World) :
    Calls Tryz.prog 240 #[.int .u64 h, .int .u64 l, .int .u64 y] w fun e w' => e = .returned (.tuple #[.int .u64 ((h * 18446744073709551616 + l) / y), .int .u64 ((h * 18446744073709551616 + l) % y)]) ∧ w = w' := by
  obtain ⟨b1, b2, b3, b4⟩ := bitLen_span 32 y.toNat (by omega) (by omega) (by omega)
  have hlz : ∀ w, Calls Tryz.prog 258 #[.int .u64 y] w fun e w' => e = .returned (.int .i64 (64 - (Lib.bitLen y.toNat : Int))) ∧ w = w' := fun w => (Tryz.bits_LeadingZeros64 y w (by omega) (by omega)).mono fun e w' ⟨he, hw⟩ => ⟨he, hw.symm⟩
  generalize Lib.bitLen y.toNat = k at *
  obtain ⟨j, rfl⟩ : ∃ j, k = 32 - j := ⟨32 - k, by omega⟩
  have hs : ((64 : Int) - ((32 - j : Nat) : Int)).toNat = 32 + j := by omega
  have hs' : ((64 : Int) - (64 - ((32 - j : Nat) : Int))).toNat = 32 - j := by omega
  have ep : (2 : Int) ^ (32 + j) = 2 ^ j * 4294967296 := by rw [Int.pow_add]; rw [Int.mul_comm]; rfl
  have epc : (2 : Int) ^ (32 - j) * 2 ^ (32 + j) = 18446744073709551616 := by rw [← Int.pow_add, show 32 - j + (32 + j) = 64 from by omega]; rfl
  have hp0 : (0 : Int) < 2 ^ j := Int.pow_pos (by omega)
  have hpc0 : (0 : Int) < 2 ^ (32 - j) := Int.pow_pos (by omega)
  have hY : y * 2 ^ (32 + j) < 18446744073709551616 := by
    have h1 : y < 2 ^ (32 - j) := by
      have : ((y.toNat : Nat) : Int) < ((2 ^ (32 - j) : Nat) : Int) := by omega
      rw [Int.toNat_of_nonneg (by omega)] at this
      simpa using this
    have : y * 2 ^ (32 + j) < 2 ^ (32 - j) * 2 ^ (32 + j) := Int.mul_lt_mul_of_pos_right h1 (Int.pow_pos (by omega))
    omega
  obtain ⟨U, V, V1, V0, q1, v, q0, f1, f2, f3, f4, f5, f6, f7, f8, f9, f10, f11, f12, f13, f14, f15, f16, f17, f18, f19, f20, f21, f22, f23, f24, f25, f26, f27, f28, f29, f30, f31, f32⟩ := long_div h l y (2 ^ (32 + j)) (2 ^ j) (2 ^ (32 - j)) ep epc hp0 hpc0 (by omega) hh hl0 hl hY
  have hY0 : 0 ≤ y * 2 ^ (32 + j) := Int.mul_nonneg (by omega) (Int.le_of_lt (Int.pow_pos (by omega)))
  have hH0 : 0 ≤ h * 2 ^ (32 + j) := Int.mul_nonneg (by omega) (Int.le_of_lt (Int.pow_pos (by omega)))
  have := div64_walk h l y (64 - ((32 - j : Nat) : Int)) hh0 hh hl0 hl hy w (by omega) (by omega) hlz (y * 2 ^ (32 + j)) (y * 2 ^ j) (h * 2 ^ (32 + j)) (l / 2 ^ (32 - j)) U V V1 V0 q1 (q1 * (y * 2 ^ j)) (U - q1 * (y * 2 ^ j)) _ _ _ v q0 (q0 * (y * 2 ^ j)) (v - q0 * (y * 2 ^ j)) _ _ _ _ ((h * 18446744073709551616 + l) % y)
    (by rw [hs, wrapu]; exact Int.emod_eq_of_lt hY0 hY) f12 (by rw [and_mask _ hY0 hY]; exact f13) (by rw [hs, wrapu]; exact Int.emod_eq_of_lt hH0 f4) (by rw [hs']) (by rw [or_add h _ (32 + j) _ rfl (by omega) f2 f3 f4 (by omega)]; exact f1)
    (by rw [hs, wrapu]; exact f5) f6 (by rw [and_mask _ f8 f9]; exact f7) f10 f11 f14 f15 f16 f17 f18 (by rw [wrapu]; omega) f20 f19 rfl (by omega) f21 (by omega) (by omega)
    rfl rfl rfl (by rw [wrapu, wrapu, wrapu, wrapu]; exact f22) f23 f24 f25 f26 f27 (by rw [wrapu]; omega) f29 f28 rfl (by omega) f30 (by omega) (by omega) rfl rfl rfl rfl (by rw [hs, wrapu, wrapu, wrapu, wrapu]; exact f32)
  rw [f31] at this
  exact this
end Go.Proofs.YtjlokkjbdgcooaaGreat.Mo

/-
  Contract of money.Scale.
-/
namespace Go.Proofs.YtjlokkjbdgcooaaGreat.Mo
open Go.RowKit

theorem below_drewN {B : Nat} {a w : World} (h : Below B a w) (n : Nat) : Below B a (w.drewN n) := ⟨h.os, h.tape, h.output, h.size, h.block⟩

theorem div64_any (h l y : Int) (hh0 : 0 ≤ h) (hh : h < y) (hl0 : 0 ≤ l) (hl : l < 18446744073709551616) (hy : y < 4294967296) (w : World) :
    Calls Tryz.prog 240 #[.int .u64 h, .int .u64 l, .int .u64 y] w fun e w' => e = .returned (.tuple #[.int .u64 ((h * 18446744073709551616 + l) / y), .int .u64 ((h * 18446744073709551616 + l) % y)]) ∧ ∃ n, w' = w.drewN n := by
  by_cases h0 : h = 0
  · subst h0
    refine (div64_zero l y hl0 hl (by omega) hy w).mono fun e w' ⟨he, hw⟩ => ⟨?_, hw⟩
    rw [he]; simp
  · exact (div64_pos h l y (by omega) hh hl0 hl hy w).mono fun e w' ⟨he, hw⟩ => ⟨he, 0, hw.symm⟩

/-- A product of two numbers that fit, taken apart in two words and divided. -/
theorem div_words (m y : Int) : (m / 18446744073709551616 * 18446744073709551616 + m % 18446744073709551616) / y = m / y ∧ (m / 18446744073709551616 * 18446744073709551616 + m % 18446744073709551616) % y = m % y := by
  have : m / 18446744073709551616 * 18446744073709551616 + m % 18446744073709551616 = m := by omega
  rw [this]; exact ⟨rfl, rfl⟩

/-- money.Fits of one amount, in the slice that the call made for it. -/
theorem fits_one (a : Int) (w : World) (T : TypeId) (c : Nat) : Calls Tryz.prog 174 #[.slice (some ⟨w.heap.size, 0, none⟩) 1 c] (w.alloc (.cells #[.int .i64 a] T)) fun e w' => e = .returned (.bool (fits1 a)) ∧ w.alloc (.cells #[.int .i64 a] T) = w' := by
  refine (fits_any [a] (some ⟨w.heap.size, 0, none⟩) 1 c (w.heap.size + 1) _ ⟨rfl, fun _ => ⟨_, rfl, by simp, ?_⟩⟩ (by decide)).mono fun e w' ⟨he, hw⟩ => ⟨by rw [he]; simp [fitsAll], hw⟩
  intro j u hu
  match j, hu with
  | 0, hu => simp [ints] at hu; subst hu; simp [Addr.add, go_sem]
  | j + 1, hu => simp [ints] at hu

def scaleQ (a num den : Int) : Int := absI a * num / den + if rUp (absI a * num / den) (absI a * num % den) den then 1 else 0
def scaleOk (a num den : Int) : Bool := fits1 a && decide (0 ≤ num) && decide (num ≤ 1000000000) && decide (1 ≤ den) && decide (den ≤ 1000000000)


theorem fits1_of {a : Int} (h : fits1 a = true) : -1000000000000000 ≤ a ∧ a ≤ 1000000000000000 := by simpa [fits1] using h
theorem absI_of {a : Int} (h : fits1 a = true) : 0 ≤ absI a ∧ absI a ≤ 1000000000000000 := by
  have := fits1_of h; unfold absI; split <;> omega

def scaleVal (a num den : Int) : Int := if scaleQ a num den ≤ 1000000000000000 then signed (scaleQ a num den) a else 0
def scaleErr (a num den : Int) : Int := if scaleQ a num den ≤ 1000000000000000 then 0 else 2

end Go.Proofs.YtjlokkjbdgcooaaGreat.Mo

/-
  Contracts of money.totalWeight and money.cutShares.
-/
namespace Go.Proofs.YtjlokkjbdgcooaaGreat.Mo
open Go.RowKit

def wt1 (x : Int) : Bool := decide (0 ≤ x ∧ x ≤ 1000000)
/-- May one split by these weights, their sum aside? -/
def wtsOk (l : List Int) : Bool := decide (l.length ≤ 20) && l.all wt1
def sumTo (l : List Int) (k : Nat) : Int := (l.take k).sum

theorem sumTo_zero (l : List Int) : sumTo l 0 = 0 := by simp [sumTo]
theorem sumTo_succ {l : List Int} {k : Nat} (h : k < l.length) : sumTo l (k + 1) = sumTo l k + l[k]?.getD 0 := by
  unfold sumTo
  rw [List.take_succ_eq_append_getElem h, List.sum_append]
  simp [h]
theorem sumTo_all {l : List Int} {k : Nat} (h : l.length ≤ k) : sumTo l k = l.sum := by
  unfold sumTo; rw [List.take_of_length_le h]
theorem wt1_at {l : List Int} (h : l.all wt1 = true) (k : Nat) : 0 ≤ l[k]?.getD 0 ∧ l[k]?.getD 0 ≤ 1000000 := by
  by_cases hk : k < l.length
  · have := List.all_eq_true.1 h l[k] (List.getElem_mem hk)
    simp [hk]
    simpa [wt1] using this
  · simp [hk]
theorem sumTo_bd {l : List Int} (h : l.all wt1 = true) : ∀ k, k ≤ l.length → 0 ≤ sumTo l k ∧ sumTo l k ≤ 1000000 * (k : Int)
  | 0, _ => by rw [sumTo_zero]; omega
  | k + 1, hk => by
    have := sumTo_bd h k (by omega)
    have h1 := wt1_at h k
    rw [sumTo_succ (by omega)]; omega
theorem sumTo_mono {l : List Int} (h : l.all wt1 = true) (i : Nat) : ∀ k, i < k → k ≤ l.length → l[i]?.getD 0 ≤ sumTo l k
  | 0, h0, _ => by omega
  | k + 1, hi, hk => by
    have h1 := wt1_at h k
    rw [sumTo_succ (by omega)]
    by_cases e : i = k
    · subst e; have := sumTo_bd h i (by omega); omega
    · have := sumTo_mono h i k (by omega) (by omega); omega

set_option maxHeartbeats 400000 in
theorem total_long (A : Option Addr) (n c : Nat) (w : World) (hn : n ≤ maxLen) (hl : 20 < n) :
    Calls Tryz.prog 210 #[.slice A n c] w fun e w' => e = .returned (.tuple #[.int .u64 0, .bool false]) ∧ w = w' := by
  unfold maxLen at hn
  go_enter Tryz.func210, Tryz.ntmps210
  go_wp2
  go_ret2
  exact ⟨rfl, rfl⟩

def AllTo (l : List Int) (k : Nat) : Prop := (l.take k).all wt1 = true
theorem allTo_succ {l : List Int} {k : Nat} (hk : k < l.length) (h : AllTo l k) (h1 : wt1 (l[k]?.getD 0) = true) : AllTo l (k + 1) := by
  unfold AllTo at h ⊢
  rw [List.take_succ_eq_append_getElem hk, List.all_append, h]
  simp [hk] at h1
  simp [h1]
theorem sumTo_allTo {l : List Int} {k : Nat} (hk : k ≤ l.length) (h : AllTo l k) : 0 ≤ sumTo l k ∧ sumTo l k ≤ 1000000 * (k : Int) := by
  have := sumTo_bd (l := l.take k) h k (by simp; omega)
  simpa [sumTo, List.take_take] using this

def totOk (l : List Int) : Bool := l.all wt1
def tot (l : List Int) : Int := if l.all wt1 then l.sum else 0
def totPos (l : List Int) : Bool := l.all wt1 && decide (0 < l.sum)
theorem tot_no {l : List Int} {k : Nat} (hk : k < l.length) (h : wt1 (l[k]?.getD 0) = false) : l.all wt1 = false := by
  rw [List.all_eq_false]
  exact ⟨l[k], List.getElem_mem hk, by simpa [hk] using h⟩

set_option maxHeartbeats 1000000 in
theorem total_anyMs (l : List Int) (A : Option Addr) (n c B : Nat) (w : World) (h : Rd w B 1 A n (ints .i64 l)) (hn : n ≤ 20) :
    Calls Tryz.prog 210 #[.slice A n c] w fun e w' => e = .returned (.tuple #[.int .u64 (tot l), .bool (totPos l)]) ∧ w = w' := by
  have hl := Lib.hid h.ints_len
  go_enter Tryz.func210, Tryz.ntmps210
  go_wp2
  go_loop [12, 4] (fun i t => ∃ k : Nat, k ≤ n ∧ i = .int .i64 k ∧ t = .int .i64 (sumTo l k) ∧ Hid (AllTo l k)) (fun i _ => n - (intOf i).toNat)
  case atStart => exact ⟨0, Nat.zero_le _, rfl, by rw [sumTo_zero], by simp [Hid, AllTo]⟩
  case round =>
    obtain ⟨k, hk, rfl, rfl, hf⟩ := hrel
    have hkl : k ≤ l.length := by have := hl.out; omega
    have hbd := sumTo_allTo hkl hf.out
    by_cases hlt : k < n
    · obtain ⟨ad, rfl, hb, hc⟩ := h.int hlt
      have hkl' : k < l.length := by have := hl.out; omega
      have HS := Lib.hid (sumTo_succ hkl')
      have HK := Lib.hid hkl'
      have HT := Lib.hid (fun h : wt1 (l[k]?.getD 0) = false => tot_no hkl' h)
      have HU := Lib.hid (fun h : wt1 (l[k]?.getD 0) = true => allTo_succ hkl' hf.out h)
      clear hkl' hkl
      generalize l[k]?.getD 0 = x at *
      by_cases h1 : x < 0
      · have hno := Lib.hid (HT.out (by simp [wt1]; omega))
        go_wp2
        go_ret2
        exact ⟨by simp [tot, totPos, hno.out], rfl⟩
      by_cases h2 : 1000000 < x
      · have hno := Lib.hid (HT.out (by simp [wt1]; omega))
        go_wp2
        go_ret2
        exact ⟨by simp [tot, totPos, hno.out], rfl⟩
      · go_wp2
        exact ⟨⟨k + 1, by omega, by go_num, by rw [HS.out], HU.out (by simp [wt1]; omega)⟩, by simp [intOf]; omega⟩
    · have hall : l.all wt1 = true := by
        have := hf.out
        unfold AllTo at this
        rwa [List.take_of_length_le (by have := hl.out; omega)] at this
      have hs : sumTo l k = l.sum := sumTo_all (by have := hl.out; omega)
      have HA := Lib.hid hall
      rw [hs] at hbd ⊢
      clear hs hall
      go_wp2
      go_ret2
      exact ⟨by simp [tot, totPos, HA.out], rfl⟩
end Go.Proofs.YtjlokkjbdgcooaaGreat.Mo
