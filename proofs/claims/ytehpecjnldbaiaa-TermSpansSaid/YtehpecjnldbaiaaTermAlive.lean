/-
  The first call of chapter 2's statements.
-/
import Derived.Test.YtehpecjnldbaiaaTermText
namespace Go.Proofs.Ytehpecjnldbaiaa
open Go.RowKit

theorem text322 : textV 322 = .string ⟨#[50, 48, 50, 54, 45, 49, 49]⟩ := by
  have : textB 322 = [50, 48, 50, 54, 45, 49, 49] := by decide
  unfold textV; rw [this]

set_option maxRecDepth 100000 in
set_option maxHeartbeats 1000000 in
theorem alive_any (w : World) : Calls Try.prog 8 #[] w fun e w' => e = .returned (.bool true) ∧ Below w.heap.size w w' := by
  have k1 := fun w => of_any 2026 11 w
  have k2 := fun w => text_any 322 w
  have k3 := fun w => year_any 322 w
  have k4 := fun w => month_any 322 w
  rw [text322] at k2
  rw [show yearV 322 = 2026 from by decide] at k3
  rw [show monthV 322 = 11 from by decide] at k4
  rw [show ofV 2026 11 = 322 from by decide, show ofE 2026 11 = 0 from by decide] at k1
  go_enter Try.func8, Try.ntmps8
  go_wp2_with fail
  refine (k1 w).mono ?_
  rintro e w1 ⟨rfl, hb1⟩
  have H1 := Lib.hid hb1
  clear hb1
  go_wp2_with fail
  refine (k2 w1).mono ?_
  rintro e w2 ⟨rfl, hb2⟩
  have H2 : Hid (Below w.heap.size w w2) := H1.out.trans (hb2.mono H1.out.size)
  clear hb2 H1
  go_wp2_with fail
  refine (k3 w2).mono ?_
  rintro e w3 ⟨rfl, hb3⟩
  have H3 : Hid (Below w.heap.size w w3) := H2.out.trans (hb3.mono H2.out.size)
  clear hb3 H2
  go_wp2_with fail
  refine (k4 w3).mono ?_
  rintro e w4 ⟨rfl, hb4⟩
  have H4 : Hid (Below w.heap.size w w4) := H3.out.trans (hb4.mono H3.out.size)
  clear hb4 H3
  go_wp2_with fail
  refine (valid_one 322 w4).mono ?_
  rintro e w5 ⟨rfl, rfl⟩
  rw [show okP 322 = true from by decide]
  go_wp2
  go_ret
  exact ⟨rfl, H4.out.alloc H4.out.size _⟩
end Go.Proofs.Ytehpecjnldbaiaa
