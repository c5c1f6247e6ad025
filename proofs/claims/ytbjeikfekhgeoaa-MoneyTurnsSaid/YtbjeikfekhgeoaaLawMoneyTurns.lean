/-
  The walk of the statement MoneyTurns.
-/
-- HOLE: exact moneyTurns_walk a0 a1 a2 w (bounds_i64 w0).1 (bounds_i64 w0).2 (bounds_i64 w1).1 (bounds_i64 w1).2 (bounds_i64 w2).1 (bounds_i64 w2).2
import Derived.Test.YtbjeikfekhgeoaaMoneyAlive
namespace Go.Proofs.Ytbjeikfekhgeoaa
open Go.RowKit

def scV (a num den : Int) : Int := if scaleOk a num den then scaleVal a num den else 0
def scE (a num den : Int) : Int := if scaleOk a num den then scaleErr a num den else 1

theorem scale_any (a num den : Int) (w : World) :
    Calls Try.prog 22 #[.int .i64 a, .int .i64 num, .int .i64 den] w fun e w' => e = .returned (.tuple #[.int .i64 (scV a num den), .int .i64 (scE a num den)]) ∧ Below w.heap.size w w' := by
  cases h : scaleOk a num den
  · unfold scV scE; simp only [h]; exact scale_bad a num den w h
  · unfold scV scE; simp only [h]; exact scale_ok a num den w h

theorem fits1_neg (a : Int) : fits1 (-a) = fits1 a := by
  unfold fits1; rw [decide_eq_decide]; omega
theorem scaleQ_nonneg {a num den : Int} (h : scaleOk a num den = true) : 0 ≤ scaleQ a num den := by
  simp [scaleOk] at h
  obtain ⟨g3, _⟩ := absI_of h.1.1.1.1
  have m0 : 0 ≤ absI a * num := Int.mul_nonneg g3 h.1.1.1.2
  have : 0 ≤ absI a * num / den := Int.ediv_nonneg m0 (by omega)
  unfold scaleQ; split <;> omega
theorem absI_neg (a : Int) : absI (-a) = absI a := by unfold absI; split <;> split <;> omega
theorem scale_neg (a num den : Int) : scV (-a) num den = -scV a num den ∧ scE (-a) num den = scE a num den := by
  have hq : scaleQ (-a) num den = scaleQ a num den := by unfold scaleQ; rw [absI_neg]
  have hok : scaleOk (-a) num den = scaleOk a num den := by unfold scaleOk; rw [fits1_neg]
  unfold scV scE
  rw [hok]
  cases h : scaleOk a num den
  · simp
  · simp only [if_true]
    unfold scaleVal scaleErr
    rw [hq]
    refine ⟨?_, rfl⟩
    split
    · unfold signed
      by_cases h0 : a = 0
      · subst h0
        have : scaleQ 0 num den = 0 := by
          simp [scaleOk] at h
          unfold scaleQ absI rUp; simp; omega
        rw [this]; simp
      · split <;> split <;> omega
    · omega
theorem scale_fit (a num den : Int) : -1000000000000000 ≤ scV a num den ∧ scV a num den ≤ 1000000000000000 ∧ (scE a num den ≠ 0 → scV a num den = 0) := by
  unfold scV scE
  cases h : scaleOk a num den
  · simp
  · have := scaleQ_nonneg h
    simp only [if_true]
    unfold scaleVal scaleErr signed
    split
    · split <;> simp <;> omega
    · simp
theorem scale_one (a num den : Int) (h : scaleOk a num den = true) : scaleOk a den den = true ∧ scV a den den = a ∧ scE a den den = 0 := by
  have h' := h
  simp [scaleOk] at h
  obtain ⟨⟨⟨⟨hf, h1⟩, h2⟩, h3⟩, h4⟩ := h
  have hok : scaleOk a den den = true := by simp [scaleOk, hf, h3, h4]; omega
  obtain ⟨g1, g2⟩ := fits1_of hf
  obtain ⟨g3, g4⟩ := absI_of hf
  have e1 : absI a * den / den = absI a := Int.mul_ediv_cancel _ (by omega)
  have e2 : absI a * den % den = 0 := Int.mul_emod_left _ _
  have hq : scaleQ a den den = absI a := by
    unfold scaleQ
    rw [e1, e2]
    have : rUp (absI a) 0 den = false := by unfold rUp; simp; omega
    rw [this]; simp
  refine ⟨hok, ?_, ?_⟩
  · unfold scV scaleVal; rw [if_pos hok, hq, if_pos g4]; unfold signed absI; split <;> omega
  · unfold scE scaleErr; rw [if_pos hok, hq, if_pos g4]
theorem round_mono {m m' d : Int} (hd : 0 < d) (h : m ≤ m') : (m / d + if rUp (m / d) (m % d) d then 1 else 0) ≤ m' / d + if rUp (m' / d) (m' % d) d then 1 else 0 := by
  have hq : m / d ≤ m' / d := Int.ediv_le_ediv hd h
  have e1 := Int.mul_ediv_add_emod m d
  have e2 := Int.mul_ediv_add_emod m' d
  by_cases he : m / d = m' / d
  · rw [← he] at e2 ⊢
    have : m % d ≤ m' % d := by omega
    unfold rUp
    split <;> split <;> rename_i h1 h2 <;> simp at h1 h2 <;> omega
  · split <;> split <;> omega
theorem scale_mono (a num num' den : Int) (h : scaleOk a num den = true) (hn : num ≤ num') (hn' : num' ≤ 1000000000) : scE a num den = 0 → scE a num' den = 0 → absI (scV a num den) ≤ absI (scV a num' den) := by
  have hok : scaleOk a num' den = true := by
    simp only [scaleOk, Bool.and_eq_true, decide_eq_true_eq] at h ⊢
    obtain ⟨⟨⟨⟨a1, a2⟩, a3⟩, a4⟩, a5⟩ := h
    exact ⟨⟨⟨⟨a1, by omega⟩, hn'⟩, a4⟩, a5⟩
  have q0 := scaleQ_nonneg h
  have q1 := scaleQ_nonneg hok
  unfold scV scE scaleVal scaleErr
  rw [if_pos h, if_pos h, if_pos hok, if_pos hok]
  simp [scaleOk] at h
  obtain ⟨g3, _⟩ := absI_of h.1.1.1.1
  have hm : absI a * num ≤ absI a * num' := Int.mul_le_mul_of_nonneg_left hn g3
  have hr := round_mono (d := den) (by omega) hm
  have hq : scaleQ a num den ≤ scaleQ a num' den := hr
  intro h1 h2
  split at h1
  · split at h2
    · rename_i h3 h4
      rw [if_pos h3, if_pos h4]
      unfold absI signed
      repeat' split
      all_goals omega
    · cases h2
  · cases h1

set_option maxRecDepth 100000 in
set_option maxHeartbeats 1000000 in
theorem moneyTurns_walk (a num den : Int) (w : World) (h1 : -9223372036854775808 ≤ a) (h2 : a ≤ 9223372036854775807) (h3 : -9223372036854775808 ≤ num) (h4 : num ≤ 9223372036854775807) (_h5 : -9223372036854775808 ≤ den) (_h6 : den ≤ 9223372036854775807) :
    Calls Try.prog 6 #[.int .i64 a, .int .i64 num, .int .i64 den] w fun e w' => e = .returned (.bool true) ∧ Below w.heap.size w w' := by
  have hneg : ∃ b, IntKind.i64.wrap (-a) = b ∧ scV b num den = -scV a num den ∧ scE b num den = scE a num den := by
    by_cases hm : a = -9223372036854775808
    · subst hm
      refine ⟨-9223372036854775808, by rw [IntKind.wrap_i64]; omega, ?_, rfl⟩
      have : scaleOk (-9223372036854775808) num den = false := by simp [scaleOk, fits1]
      simp [scV, this]
    · refine ⟨-a, by rw [IntKind.wrap_i64]; omega, ?_, ?_⟩
      · exact (scale_neg a num den).1
      · exact (scale_neg a num den).2
  obtain ⟨b, hb, hb1, hb2⟩ := hneg
  obtain ⟨f1, f2, f3⟩ := scale_fit a num den
  have B1 := Lib.hid hb1; have B2 := Lib.hid hb2; have F3 := Lib.hid f3
  clear hb1 hb2 f3
  by_cases hE : scE a num den = 0
  · have hok : scaleOk a num den = true := by
      cases hh : scaleOk a num den
      · simp [scE, hh] at hE
      · rfl
    have hok' := hok
    simp [scaleOk] at hok'
    obtain ⟨u1, u2, u3⟩ := scale_one a num den hok
    have HE := Lib.hid hE
    have U2 := Lib.hid u2; have U3 := Lib.hid u3
    have hmin : ∃ n', min (num + 1) 1000000000 = n' ∧ num ≤ n' ∧ n' ≤ 1000000000 := ⟨_, rfl, by omega, by omega⟩
    obtain ⟨n', hn1, hn2, hn3⟩ := hmin
    obtain ⟨k1, k2, _⟩ := scale_fit a n' den
    have HM := Lib.hid (scale_mono a num n' den hok hn2 hn3 hE)
    have hn4 : num ≤ 1000000000 := hok'.1.1.2
    have hn5 : 0 ≤ num := hok'.1.1.1.2
    clear hE hok' hok u2 u3
    go_enter Try.func6, Try.ntmps6
    go_wp2_with fail
    refine (alive_any w).mono ?_
    rintro e w1 ⟨rfl, hw1⟩
    go_wp2_with fail
    refine (scale_any a num den w1).mono ?_
    rintro e w2 ⟨rfl, hw2⟩
    rw [HE.out]
    go_wp2_with fail
    refine (scale_any b num den w2).mono ?_
    rintro e w3 ⟨rfl, hw3⟩
    rw [B1.out, B2.out, HE.out]
    generalize scV a num den = s at *
    go_wp2_with fail
    refine (scale_any a den den w3).mono ?_
    rintro e w4 ⟨rfl, hw4⟩
    rw [U2.out, U3.out]
    go_wp2_with fail
    refine (scale_any a n' den w4).mono ?_
    rintro e w5 ⟨rfl, hw5⟩
    have hB : Hid (Below w.heap.size w w5) := by
      have s1 := hw1.size
      have s2 := hw2.size
      have s3 := hw3.size
      have s4 := hw4.size
      exact (((hw1.trans (hw2.mono s1)).trans (hw3.mono (by omega))).trans (hw4.mono (by omega))).trans (hw5.mono (by omega))
    by_cases hE : scE a n' den = 0
    · have hmx : max s (-s) ≤ max (scV a n' den) (-scV a n' den) := by
        have := HM.out hE
        unfold absI at this
        split at this <;> split at this <;> omega
      rw [hE]
      generalize scV a n' den = v at *
      clear hE HM
      go_wp2
      go_ret
      exact ⟨rfl, hB.out⟩
    · have t1 : (scE a n' den == 0) = false := by rw [beq_eq_false_iff_ne]; exact hE
      have t2 : (scE a n' den != 0) = true := by rw [bne_iff_ne]; exact hE
      generalize scE a n' den = v at *
      clear hE HM
      go_wp2
      go_ret
      exact ⟨rfl, hB.out⟩
  · have t1 : (scE a num den == 0) = false := by rw [beq_eq_false_iff_ne]; exact hE
    have t2 : (scE a num den != 0) = true := by rw [bne_iff_ne]; exact hE
    have HZ := Lib.hid (F3.out hE)
    clear hE
    go_enter Try.func6, Try.ntmps6
    go_wp2_with fail
    refine (alive_any w).mono ?_
    rintro e w1 ⟨rfl, hw1⟩
    go_wp2_with fail
    refine (scale_any a num den w1).mono ?_
    rintro e w2 ⟨rfl, hw2⟩
    rw [HZ.out]
    go_wp2_with fail
    refine (scale_any b num den w2).mono ?_
    rintro e w3 ⟨rfl, hw3⟩
    rw [B1.out, B2.out, HZ.out]
    generalize scE a num den = s at *
    go_wp2
    go_ret
    exact ⟨rfl, (hw1.trans (hw2.mono hw1.size)).trans (hw3.mono (Nat.le_trans hw1.size hw2.size))⟩
end Go.Proofs.Ytbjeikfekhgeoaa
