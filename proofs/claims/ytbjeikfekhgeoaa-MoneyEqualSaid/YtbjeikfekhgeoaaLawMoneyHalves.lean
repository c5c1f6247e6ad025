/-
  The walk of the statement MoneyHalves: it returns true, whatever the amount.
-/
-- HOLE: exact moneyHalves_walk a0 w (bounds_i64 w0).1 (bounds_i64 w0).2
import Derived.Test.YtbjeikfekhgeoaaMoneyAlive
namespace Go.Proofs.Ytbjeikfekhgeoaa
open Go.RowKit

theorem half_fits (a : Int) (h : fits1 a = true) : scaleQ a 1 2 ≤ 1000000000000000 ∧ 0 ≤ scaleQ a 1 2 := by
  obtain ⟨g3, g4⟩ := absI_of h
  unfold scaleQ
  generalize absI a = b at *
  rw [Int.mul_one]
  split <;> omega
theorem half_val (a : Int) (h : fits1 a = true) : scaleErr a 1 2 = 0 ∧ (a % 2 = 0 → 2 * scaleVal a 1 2 = a) ∧ (a % 2 = 1 → scaleVal a 1 2 % 2 = 0 ∧ (2 * scaleVal a 1 2 = a + 1 ∨ 2 * scaleVal a 1 2 = a - 1)) ∧ -1000000000000000 ≤ scaleVal a 1 2 ∧ scaleVal a 1 2 ≤ 1000000000000000 := by
  obtain ⟨hq, hq0⟩ := half_fits a h
  obtain ⟨g1, g2⟩ := fits1_of h
  unfold scaleErr scaleVal
  rw [if_pos hq, if_pos hq]
  refine ⟨rfl, ?_⟩
  unfold scaleQ signed absI rUp at *
  simp only [Int.mul_one] at *
  by_cases ha : a < 0
  · simp only [ha, if_true] at *
    split <;> rename_i h1 <;> simp at h1 <;> omega
  · simp only [ha, if_false] at *
    split <;> rename_i h1 <;> simp at h1 <;> omega

theorem tmod_neg (a m : Int) (h : a < 0) : a.tmod m = -((-a) % m) := by
  obtain ⟨b, rfl⟩ : ∃ b, a = -b := ⟨-a, by omega⟩
  rw [Int.neg_tmod, Int.tmod_eq_emod_of_nonneg (by omega), Int.neg_neg]
theorem tmod_pos (a m : Int) (h : 0 ≤ a) : a.tmod m = a % m := Int.tmod_eq_emod_of_nonneg h
theorem tmod_two (a : Int) : a.tmod 2 = 0 ↔ a % 2 = 0 := by
  by_cases h : a < 0
  · rw [tmod_neg a 2 h]; omega
  · rw [tmod_pos a 2 (by omega)]

set_option maxRecDepth 100000 in
set_option maxHeartbeats 1000000 in
theorem moneyHalves_walk (a : Int) (w : World) (h1 : -9223372036854775808 ≤ a) (h2 : a ≤ 9223372036854775807) :
    Calls Try.prog 7 #[.int .i64 a] w fun e w' => e = .returned (.bool true) ∧ Below w.heap.size w w' := by
  cases hf : fits1 a
  · have Hf := Lib.hid hf
    clear hf
    go_enter Try.func7, Try.ntmps7
    go_wp2_with fail
    refine (fits_one a w _ _).mono ?_
    rintro e w' ⟨rfl, rfl⟩
    rw [Hf.out]
    go_wp2_with fail
    refine (alive_any _).mono ?_
    rintro e w1 ⟨rfl, hb⟩
    go_wp2
    go_ret
    exact ⟨rfl, ((Below.refl _ _).alloc (Nat.le_refl _) _).trans (hb.mono (by simp))⟩
  · obtain ⟨g1, g2⟩ := fits1_of hf
    obtain ⟨v0, v1, v2, v3, v4⟩ := half_val a hf
    have Hf := Lib.hid hf
    have V0 := Lib.hid v0; have V1 := Lib.hid v1; have V2 := Lib.hid v2
    have Hok : Hid (scaleOk a 1 2 = true) := by simp [Hid, scaleOk, hf]
    clear hf v0 v1 v2
    by_cases hp : a % 2 = 0
    · have t1 : (a.tmod 2 == 0) = true := by rw [beq_iff_eq]; exact (tmod_two a).2 hp
      have t2 : (2 * scaleVal a 1 2 == a) = true := by rw [beq_iff_eq]; exact V1.out hp
      have T1 := Lib.hid t1
      clear hp
      go_enter Try.func7, Try.ntmps7
      go_wp2_with fail
      refine (fits_one a w _ _).mono ?_
      rintro e w' ⟨rfl, rfl⟩
      rw [Hf.out]
      go_wp2_with fail
      refine (alive_any _).mono ?_
      rintro e w1 ⟨rfl, hb⟩
      go_wp2_with fail
      refine (scale_ok a 1 2 w1 Hok.out).mono ?_
      rintro e w2 ⟨rfl, hb2⟩
      rw [V0.out]
      generalize scaleVal a 1 2 = s at *
      go_wp2
      go_ret
      exact ⟨rfl, (((Below.refl _ _).alloc (Nat.le_refl _) _).trans (hb.mono (by simp))).trans (hb2.mono (by have := hb.size; simp at this; omega))⟩
    · have hp1 : a % 2 = 1 := by omega
      have t1 : (a.tmod 2 == 0) = false := by rw [beq_eq_false_iff_ne]; intro h; exact hp ((tmod_two a).1 h)
      obtain ⟨v5, v6⟩ := V2.out hp1
      have t2 : ((scaleVal a 1 2).tmod 2 == 0) = true := by rw [beq_iff_eq]; exact (tmod_two _).2 v5
      clear hp hp1 v5
      by_cases h5 : 2 * scaleVal a 1 2 = a + 1
      · have t3 : (2 * scaleVal a 1 2 == a + 1) = true := by rw [beq_iff_eq]; exact h5
        clear h5 v6
        go_enter Try.func7, Try.ntmps7
        go_wp2_with fail
        refine (fits_one a w _ _).mono ?_
        rintro e w' ⟨rfl, rfl⟩
        rw [Hf.out]
        go_wp2_with fail
        refine (alive_any _).mono ?_
        rintro e w1 ⟨rfl, hb⟩
        go_wp2_with fail
        refine (scale_ok a 1 2 w1 Hok.out).mono ?_
        rintro e w2 ⟨rfl, hb2⟩
        rw [V0.out]
        generalize scaleVal a 1 2 = s at *
        go_wp2
        go_ret
        exact ⟨rfl, (((Below.refl _ _).alloc (Nat.le_refl _) _).trans (hb.mono (by simp))).trans (hb2.mono (by have := hb.size; simp at this; omega))⟩
      · have t3 : (2 * scaleVal a 1 2 == a + 1) = false := by rw [beq_eq_false_iff_ne]; exact h5
        have t4 : (2 * scaleVal a 1 2 == a - 1) = true := by rw [beq_iff_eq]; omega
        clear h5 v6
        go_enter Try.func7, Try.ntmps7
        go_wp2_with fail
        refine (fits_one a w _ _).mono ?_
        rintro e w' ⟨rfl, rfl⟩
        rw [Hf.out]
        go_wp2_with fail
        refine (alive_any _).mono ?_
        rintro e w1 ⟨rfl, hb⟩
        go_wp2_with fail
        refine (scale_ok a 1 2 w1 Hok.out).mono ?_
        rintro e w2 ⟨rfl, hb2⟩
        rw [V0.out]
        generalize scaleVal a 1 2 = s at *
        go_wp2
        go_ret
        exact ⟨rfl, (((Below.refl _ _).alloc (Nat.le_refl _) _).trans (hb.mono (by simp))).trans (hb2.mono (by have := hb.size; simp at this; omega))⟩
end Go.Proofs.Ytbjeikfekhgeoaa
