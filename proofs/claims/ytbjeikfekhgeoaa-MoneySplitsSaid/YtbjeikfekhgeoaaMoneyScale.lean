/-
  Contract of money.Scale.
-/
import Derived.Test.YtbjeikfekhgeoaaMoneyDiv
import Derived.Test.YtbjeikfekhgeoaaMoneyFits
namespace Go.Proofs.Ytbjeikfekhgeoaa
open Go.RowKit

theorem below_drewN {B : Nat} {a w : World} (h : Below B a w) (n : Nat) : Below B a (w.drewN n) := ⟨h.os, h.tape, h.output, h.size, h.block⟩

theorem div64_any (h l y : Int) (hh0 : 0 ≤ h) (hh : h < y) (hl0 : 0 ≤ l) (hl : l < 18446744073709551616) (hy : y < 4294967296) (w : World) :
    Calls Try.prog 72 #[.int .u64 h, .int .u64 l, .int .u64 y] w fun e w' => e = .returned (.tuple #[.int .u64 ((h * 18446744073709551616 + l) / y), .int .u64 ((h * 18446744073709551616 + l) % y)]) ∧ ∃ n, w' = w.drewN n := by
  by_cases h0 : h = 0
  · subst h0
    refine (div64_zero l y hl0 hl (by omega) hy w).mono fun e w' ⟨he, hw⟩ => ⟨?_, hw⟩
    rw [he]; simp
  · exact (div64_pos h l y (by omega) hh hl0 hl hy w).mono fun e w' ⟨he, hw⟩ => ⟨he, 0, hw.symm⟩

/-- A product of two numbers that fit, taken apart in two words and divided. -/
theorem div_words (m y : Int) : (m / 18446744073709551616 * 18446744073709551616 + m % 18446744073709551616) / y = m / y ∧ (m / 18446744073709551616 * 18446744073709551616 + m % 18446744073709551616) % y = m % y := by
  have : m / 18446744073709551616 * 18446744073709551616 + m % 18446744073709551616 = m := by omega
  rw [this]; exact ⟨rfl, rfl⟩

/-- money.Fits of one amount, in the slice that the call made for it. -/
theorem fits_one (a : Int) (w : World) (T : TypeId) (c : Nat) : Calls Try.prog 15 #[.slice (some ⟨w.heap.size, 0, none⟩) 1 c] (w.alloc (.cells #[.int .i64 a] T)) fun e w' => e = .returned (.bool (fits1 a)) ∧ w.alloc (.cells #[.int .i64 a] T) = w' := by
  refine (fits_any [a] (some ⟨w.heap.size, 0, none⟩) 1 c (w.heap.size + 1) _ ⟨rfl, fun _ => ⟨_, rfl, by simp, ?_⟩⟩ (by decide)).mono fun e w' ⟨he, hw⟩ => ⟨by rw [he]; simp [fitsAll], hw⟩
  intro j u hu
  match j, hu with
  | 0, hu => simp [ints] at hu; subst hu; simp [Addr.add, go_sem]
  | j + 1, hu => simp [ints] at hu

def scaleQ (a num den : Int) : Int := absI a * num / den + if rUp (absI a * num / den) (absI a * num % den) den then 1 else 0
def scaleOk (a num den : Int) : Bool := fits1 a && decide (0 ≤ num) && decide (num ≤ 1000000000) && decide (1 ≤ den) && decide (den ≤ 1000000000)


set_option maxHeartbeats 1000000 in
theorem scale_bad (a num den : Int) (w : World) (h : scaleOk a num den = false) :
    Calls Try.prog 22 #[.int .i64 a, .int .i64 num, .int .i64 den] w fun e w' => e = .returned (.tuple #[.int .i64 0, .int .i64 1]) ∧ Below w.heap.size w w' := by
  cases hf : fits1 a
  · have Hf := Lib.hid hf
    clear hf h
    go_enter Try.func22, Try.ntmps22
    go_wp2_with fail
    refine (fits_one a w _ _).mono ?_
    rintro e w' ⟨rfl, rfl⟩
    rw [Hf.out]
    go_wp2
    go_ret2
    exact ⟨rfl, (Below.refl _ _).alloc (Nat.le_refl _) _⟩
  · have h' : num < 0 ∨ (0 ≤ num ∧ 1000000000 < num) ∨ ((0 ≤ num ∧ num ≤ 1000000000) ∧ den < 1) ∨ ((0 ≤ num ∧ num ≤ 1000000000) ∧ 1 ≤ den ∧ 1000000000 < den) := by
      simp [scaleOk, hf] at h; omega
    have Hf := Lib.hid hf
    clear hf h
    rcases h' with h1 | ⟨h1, h2⟩ | ⟨⟨h1, h2⟩, h3⟩ | ⟨⟨h1, h2⟩, h3, h4⟩
    all_goals
      go_enter Try.func22, Try.ntmps22
      go_wp2_with fail
      refine (fits_one a w _ _).mono ?_
      rintro e w' ⟨rfl, rfl⟩
      rw [Hf.out]
      go_wp2
      go_ret2
      exact ⟨rfl, (Below.refl _ _).alloc (Nat.le_refl _) _⟩

theorem fits1_of {a : Int} (h : fits1 a = true) : -1000000000000000 ≤ a ∧ a ≤ 1000000000000000 := by simpa [fits1] using h
theorem absI_of {a : Int} (h : fits1 a = true) : 0 ≤ absI a ∧ absI a ≤ 1000000000000000 := by
  have := fits1_of h; unfold absI; split <;> omega

def scaleVal (a num den : Int) : Int := if scaleQ a num den ≤ 1000000000000000 then signed (scaleQ a num den) a else 0
def scaleErr (a num den : Int) : Int := if scaleQ a num den ≤ 1000000000000000 then 0 else 2

set_option maxHeartbeats 1000000 in
theorem scale_ok (a num den : Int) (w : World) (h : scaleOk a num den = true) :
    Calls Try.prog 22 #[.int .i64 a, .int .i64 num, .int .i64 den] w fun e w' => e = .returned (.tuple #[.int .i64 (scaleVal a num den), .int .i64 (scaleErr a num den)]) ∧ Below w.heap.size w w' := by
  have h' : fits1 a = true ∧ 0 ≤ num ∧ num ≤ 1000000000 ∧ 1 ≤ den ∧ den ≤ 1000000000 := by simp [scaleOk] at h; simp [h]
  obtain ⟨hf, h1, h2, h3, h4⟩ := h'
  obtain ⟨g1, g2⟩ := fits1_of hf
  obtain ⟨g3, g4⟩ := absI_of hf
  have Hf := Lib.hid hf
  clear hf h
  have m0 : 0 ≤ absI a * num := Int.mul_nonneg g3 h1
  have m1 : absI a * num ≤ 1000000000000000 * 1000000000 := Int.mul_le_mul g4 h2 h1 (by omega)
  have HQ : Hid (scaleQ a num den = absI a * num / den + if rUp (absI a * num / den) (absI a * num % den) den then 1 else 0) := rfl
  go_enter Try.func22, Try.ntmps22
  go_wp2_with fail
  refine (fits_one a w _ _).mono ?_
  rintro e w' ⟨rfl, rfl⟩
  rw [Hf.out]
  go_wp2_with fail
  refine (size_any a _ g1 g2).mono ?_
  rintro e w' ⟨rfl, rfl⟩
  generalize absI a = b at *
  go_wp2_with fail
  refine (mul64_any b num g3 (by omega) h1 (by omega) _).mono ?_
  rintro e w' ⟨rfl, rfl⟩
  generalize hm : b * num = m at *
  have Hm := Lib.hid hm
  clear hm
  by_cases hd : m / 18446744073709551616 < den
  · go_wp2_with fail
    refine (div64_any _ _ den (by omega) hd (by omega) (by omega) (by omega) _).mono ?_
    rintro e w' ⟨rfl, n, rfl⟩
    rw [(div_words m den).1, (div_words m den).2]
    have q0 : 0 ≤ m / den := Int.ediv_nonneg m0 (by omega)
    have r0 : 0 ≤ m % den := Int.emod_nonneg _ (by omega)
    have r1 : m % den < den := Int.emod_lt_of_pos _ (by omega)
    generalize m / den = q at *
    generalize m % den = r at *
    have hB : Below w.heap.size w ((w.alloc (.cells #[.int .i64 a] 3)).drewN n) := below_drewN ((Below.refl _ _).alloc (Nat.le_refl _) _) n
    by_cases hq : q ≤ 1000000000000000
    · cases hr : rUp q r den
      · have hQ := HQ.out
        rw [hr] at hQ
        simp at hQ
        have HQ' := Lib.hid hQ
        have Hr := Lib.hid hr
        clear hQ HQ hr
        go_wp2_with fail
        refine (roundsUp_any q r den _ q0 hq r0 (by omega) (by omega) h4).mono ?_
        rintro e w' ⟨rfl, rfl⟩
        rw [Hr.out]
        go_wp2_with fail
        refine (withSign_any q a _ q0 (by omega)).mono ?_
        rintro e w' ⟨rfl, rfl⟩
        go_wp2
        go_ret2
        refine ⟨?_, hB⟩
        unfold scaleVal scaleErr
        rw [HQ'.out, if_pos hq, if_pos hq]
        rfl
      · have hQ := HQ.out
        rw [hr] at hQ
        simp at hQ
        have HQ' := Lib.hid hQ
        have Hr := Lib.hid hr
        clear hQ HQ hr
        by_cases hq1 : q + 1 ≤ 1000000000000000
        · go_wp2_with fail
          refine (roundsUp_any q r den _ q0 hq r0 (by omega) (by omega) h4).mono ?_
          rintro e w' ⟨rfl, rfl⟩
          rw [Hr.out]
          go_wp2_with fail
          refine (withSign_any (q + 1) a _ (by omega) (by omega)).mono ?_
          rintro e w' ⟨rfl, rfl⟩
          go_wp2
          go_ret2
          refine ⟨?_, hB⟩
          unfold scaleVal scaleErr
          rw [HQ'.out, if_pos hq1, if_pos hq1]
          rfl
        · go_wp2_with fail
          refine (roundsUp_any q r den _ q0 hq r0 (by omega) (by omega) h4).mono ?_
          rintro e w' ⟨rfl, rfl⟩
          rw [Hr.out]
          go_wp2
          go_ret2
          refine ⟨?_, hB⟩
          unfold scaleVal scaleErr
          rw [HQ'.out, if_neg (by omega), if_neg (by omega)]
          rfl
    · have hQ : ¬ scaleQ a num den ≤ 1000000000000000 := by
        rw [HQ.out]; split <;> omega
      have HQ' := Lib.hid hQ
      clear hQ HQ
      go_wp2
      go_ret2
      refine ⟨?_, hB⟩
      unfold scaleVal scaleErr
      rw [if_neg (by have := HQ'.out; omega), if_neg (by have := HQ'.out; omega)]
      rfl
  · have hQ : ¬ scaleQ a num den ≤ 1000000000000000 := by
      rw [HQ.out]
      have : 18446744073709551616 ≤ m / den := Int.le_ediv_of_mul_le (by omega) (by omega)
      split <;> omega
    have HQ' := Lib.hid hQ
    clear hQ HQ
    go_wp2
    go_ret2
    refine ⟨?_, (Below.refl _ _).alloc (Nat.le_refl _) _⟩
    unfold scaleVal scaleErr
    rw [if_neg (by have := HQ'.out; omega), if_neg (by have := HQ'.out; omega)]
    rfl
end Go.Proofs.Ytbjeikfekhgeoaa
