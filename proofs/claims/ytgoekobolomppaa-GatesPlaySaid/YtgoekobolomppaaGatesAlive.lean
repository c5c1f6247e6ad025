/-
  The first call of chapter 5's statements.
-/
import Derived.Test.YtgoekobolomppaaGatesAll
namespace Go.Proofs.Ytgoekobolomppaa
open Go.RowKit

set_option maxRecDepth 100000 in
set_option maxHeartbeats 1000000 in
theorem alive_any (w : World) : Calls Try.prog 6 #[] w fun e w' => e = .returned (.bool true) ∧ Below w.heap.size w w' := by
  have k0 : Hid (∀ v w1, GatesAt w1 w.heap.size w.heap.size v [] → Calls Try.prog 8 #[.pointer (some ⟨w.heap.size, 0, none⟩), .int .i64 1, .int .i64 5, .int .i64 2] w1 fun e w' => e = .returned (.int .i64 11) ∧ GatesTo w1 w.heap.size w.heap.size v [] w') := fun v w1 h => set_any _ _ v [] 1 5 2 w1 h
  have k1 : Hid (∀ v w1, GatesAt w1 w.heap.size w.heap.size v [] → Calls Try.prog 8 #[.pointer (some ⟨w.heap.size, 0, none⟩), .int .i64 1, .int .i64 5, .int .i64 1] w1 fun e w' => e = .returned (.int .i64 0) ∧ GatesTo w1 w.heap.size w.heap.size v [⟨1, 5, 1⟩] w') := fun v w1 h => set_any _ _ v [] 1 5 1 w1 h
  have k2 : Hid (∀ v w1, GatesAt w1 w.heap.size w.heap.size v [⟨1, 5, 1⟩] → Calls Try.prog 14 #[.pointer (some ⟨w.heap.size, 0, none⟩), .int .i64 1, .int .i64 5] w1 fun e w' => e = .returned (.int .i64 6) ∧ Below w1.heap.size w1 w') := fun v w1 h => may_any _ _ v [⟨1, 5, 1⟩] 1 5 w1 h
  have k3 : Hid (∀ v w1, GatesAt w1 w.heap.size w.heap.size v [⟨1, 5, 1⟩] → Calls Try.prog 8 #[.pointer (some ⟨w.heap.size, 0, none⟩), .int .i64 1, .int .i64 5, .int .i64 2] w1 fun e w' => e = .returned (.int .i64 0) ∧ GatesTo w1 w.heap.size w.heap.size v [⟨1, 5, 2⟩] w') := fun v w1 h => set_any _ _ v [⟨1, 5, 1⟩] 1 5 2 w1 h
  have k4 : Hid (∀ v w1, GatesAt w1 w.heap.size w.heap.size v [⟨1, 5, 2⟩] → Calls Try.prog 8 #[.pointer (some ⟨w.heap.size, 0, none⟩), .int .i64 1, .int .i64 5, .int .i64 0] w1 fun e w' => e = .returned (.int .i64 11) ∧ GatesTo w1 w.heap.size w.heap.size v [⟨1, 5, 2⟩] w') := fun v w1 h => set_any _ _ v [⟨1, 5, 2⟩] 1 5 0 w1 h
  have k5 : Hid (∀ v w1, GatesAt w1 w.heap.size w.heap.size v [⟨1, 5, 2⟩] → Calls Try.prog 14 #[.pointer (some ⟨w.heap.size, 0, none⟩), .int .i64 1, .int .i64 6] w1 fun e w' => e = .returned (.int .i64 0) ∧ Below w1.heap.size w1 w') := fun v w1 h => may_any _ _ v [⟨1, 5, 2⟩] 1 6 w1 h
  have H0 := Lib.hid (gates_new w)
  have B0 : Hid (Below w.heap.size w (w.alloc (.cells #[.slice none 0 0] 27))) := (Below.refl _ _).alloc (Nat.le_refl _) _
  obtain ⟨w0, hw0⟩ : ∃ w0, w.alloc (.cells #[.slice none 0 0] 27) = w0 := ⟨_, rfl⟩
  have HW := Lib.hid hw0
  rw [hw0] at H0 B0
  clear hw0
  go_enter Try.func6, Try.ntmps6
  go_wp2_with fail
  rw [HW.out]
  refine (k0.out _ _ H0.out).mono ?_
  rintro e w1 ⟨rfl, ht⟩
  obtain ⟨v1, h1, b1⟩ := GatesOn.set B0.out.size H0.out B0.out ht
  have H1 := Lib.hid h1
  have B1 := Lib.hid b1
  clear h1 b1 ht H0 B0
  go_wp2_with fail
  refine (k1.out _ _ H1.out).mono ?_
  rintro e w2 ⟨rfl, ht⟩
  obtain ⟨v2, h2, b2⟩ := GatesOn.set B1.out.size H1.out B1.out ht
  have H2 := Lib.hid h2
  have B2 := Lib.hid b2
  clear h2 b2 ht H1 B1
  go_wp2_with fail
  refine (k2.out _ _ H2.out).mono ?_
  rintro e w3 ⟨rfl, ht⟩
  obtain ⟨v3, h3, b3⟩ := GatesOn.same B2.out.size H2.out B2.out ht
  have H3 := Lib.hid h3
  have B3 := Lib.hid b3
  clear h3 b3 ht H2 B2
  go_wp2_with fail
  refine (k3.out _ _ H3.out).mono ?_
  rintro e w4 ⟨rfl, ht⟩
  obtain ⟨v4, h4, b4⟩ := GatesOn.set B3.out.size H3.out B3.out ht
  have H4 := Lib.hid h4
  have B4 := Lib.hid b4
  clear h4 b4 ht H3 B3
  go_wp2_with fail
  refine (k4.out _ _ H4.out).mono ?_
  rintro e w5 ⟨rfl, ht⟩
  obtain ⟨v5, h5, b5⟩ := GatesOn.set B4.out.size H4.out B4.out ht
  have H5 := Lib.hid h5
  have B5 := Lib.hid b5
  clear h5 b5 ht H4 B4
  go_wp2_with fail
  refine (k5.out _ _ H5.out).mono ?_
  rintro e w6 ⟨rfl, ht⟩
  obtain ⟨v6, h6, b6⟩ := GatesOn.same B5.out.size H5.out B5.out ht
  have H6 := Lib.hid h6
  have B6 := Lib.hid b6
  clear h6 b6 ht H5 B5
  go_wp2_with fail
  go_ret
  exact ⟨rfl, B6.out⟩
end Go.Proofs.Ytgoekobolomppaa
