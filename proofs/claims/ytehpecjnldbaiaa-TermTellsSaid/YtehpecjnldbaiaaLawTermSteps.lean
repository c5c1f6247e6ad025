/-
  The walk of the statement TermSteps.
-/
-- HOLE: exact termSteps_walk a0 a1 a2 w (bounds_i64 w1).1 (bounds_i64 w1).2 (bounds_i64 w2).1 (bounds_i64 w2).2
import Derived.Test.YtehpecjnldbaiaaTermAlive
namespace Go.Proofs.Ytehpecjnldbaiaa
open Go.RowKit

theorem shift_no {p n : Int} (h : okS p n = false) : shiftV p n = 0 ∧ shiftE p n = 1 := by unfold shiftV shiftE; simp [h]
theorem shift_yes {p n : Int} (h : okS p n = true) : shiftV p n = p + n ∧ shiftE p n = 0 := by unfold shiftV shiftE; simp [h]
theorem okS_t {p n : Int} (h : okS p n = true) : 0 ≤ p ∧ p ≤ 1199 ∧ 0 ≤ p + n ∧ p + n ≤ 1199 := by
  unfold okS okP at h; simp at h; omega

set_option maxRecDepth 100000 in
set_option maxHeartbeats 1000000 in
theorem termSteps_walk (p a b : Int) (w : World) (_ha1 : -9223372036854775808 ≤ a) (_ha2 : a ≤ 9223372036854775807) (_hb1 : -9223372036854775808 ≤ b) (_hb2 : b ≤ 9223372036854775807) :
    Calls Try.prog 6 #[.int .i64 p, .int .i64 a, .int .i64 b] w fun e w' => e = .returned (.bool true) ∧ Below w.heap.size w w' := by
  by_cases c0 : a < -2000
  · go_enter Try.func6, Try.ntmps6
    go_wp2_with fail
    refine (alive_any w).mono ?_
    rintro e w1 ⟨rfl, hb⟩
    go_wp2
    go_ret
    exact ⟨rfl, hb⟩
  by_cases c1 : 2000 < a
  · go_enter Try.func6, Try.ntmps6
    go_wp2_with fail
    refine (alive_any w).mono ?_
    rintro e w1 ⟨rfl, hb⟩
    go_wp2
    go_ret
    exact ⟨rfl, hb⟩
  by_cases c2 : b < -2000
  · go_enter Try.func6, Try.ntmps6
    go_wp2_with fail
    refine (alive_any w).mono ?_
    rintro e w1 ⟨rfl, hb⟩
    go_wp2
    go_ret
    exact ⟨rfl, hb⟩
  by_cases c3 : 2000 < b
  · go_enter Try.func6, Try.ntmps6
    go_wp2_with fail
    refine (alive_any w).mono ?_
    rintro e w1 ⟨rfl, hb⟩
    go_wp2
    go_ret
    exact ⟨rfl, hb⟩
  cases hs : okS p a
  · have k1 := fun w => shift_any p a w (by omega) (by omega)
    rw [shift_no hs |>.1, shift_no hs |>.2] at k1
    go_enter Try.func6, Try.ntmps6
    go_wp2_with fail
    refine (alive_any w).mono ?_
    rintro e w1 ⟨rfl, hb⟩
    have H1 := Lib.hid hb
    clear hb
    go_wp2_with fail
    refine (k1 w1).mono ?_
    rintro e w2 ⟨rfl, hb2⟩
    have H2 : Hid (Below w.heap.size w w2) := H1.out.trans (hb2.mono H1.out.size)
    clear hb2 H1
    go_wp2
    go_ret
    exact ⟨rfl, H2.out⟩
  · have hp := okS_t hs
    have k1 := fun w => shift_any p a w (by omega) (by omega)
    rw [shift_yes hs |>.1, shift_yes hs |>.2] at k1
    have k2 := fun w => shift_any (p + a) (-a) w (by omega) (by omega)
    have hs2 : okS (p + a) (-a) = true := by unfold okS okP; simp; omega
    rw [shift_yes hs2 |>.1, shift_yes hs2 |>.2, show p + a + -a = p by omega] at k2
    have k3 := fun w => shift_any (p + a) b w (by omega) (by omega)
    have k4 := fun w => shift_any p (a + b) w (by omega) (by omega)
    have hs3 : okS (p + a) b = okS p (a + b) := by unfold okS okP; rw [Bool.eq_iff_iff]; simp; omega
    rw [show shiftE (p + a) b = shiftE p (a + b) from by unfold shiftE; rw [hs3], show shiftV (p + a) b = shiftV p (a + b) from by unfold shiftV; rw [hs3, Int.add_assoc]] at k3
    clear hs hs2 hs3
    generalize shiftV p (a + b) = z at *
    generalize shiftE p (a + b) = g at *
    go_enter Try.func6, Try.ntmps6
    go_wp2_with fail
    refine (alive_any w).mono ?_
    rintro e w1 ⟨rfl, hb⟩
    have H1 := Lib.hid hb
    clear hb
    go_wp2_with fail
    refine (k1 w1).mono ?_
    rintro e w2 ⟨rfl, hb2⟩
    have H2 : Hid (Below w.heap.size w w2) := H1.out.trans (hb2.mono H1.out.size)
    clear hb2 H1
    go_wp2_with fail
    refine (k2 w2).mono ?_
    rintro e w3 ⟨rfl, hb3⟩
    have H3 : Hid (Below w.heap.size w w3) := H2.out.trans (hb3.mono H2.out.size)
    clear hb3 H2
    go_wp2_with fail
    refine (k3 w3).mono ?_
    rintro e w4 ⟨rfl, hb4⟩
    have H4 : Hid (Below w.heap.size w w4) := H3.out.trans (hb4.mono H3.out.size)
    clear hb4 H3
    go_wp2_with fail
    refine (k4 w4).mono ?_
    rintro e w5 ⟨rfl, hb5⟩
    have H5 : Hid (Below w.heap.size w w5) := H4.out.trans (hb5.mono H4.out.size)
    clear hb5 H4
    go_wp2
    go_ret
    exact ⟨rfl, H5.out⟩
end Go.Proofs.Ytehpecjnldbaiaa
