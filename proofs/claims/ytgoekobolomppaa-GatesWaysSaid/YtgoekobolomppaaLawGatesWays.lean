/-
  The walk of the statement GatesWays.
-/
-- HOLE: exact gatesWays_walk a0 a1 a2 a3 w
import Derived.Test.YtgoekobolomppaaGatesAlive
import Derived.Test.YtgoekobolomppaaGatesOne
namespace Go.Proofs.Ytgoekobolomppaa
open Go.RowKit

set_option maxRecDepth 100000 in
set_option maxHeartbeats 1000000 in
theorem ways_00 (en pe : Int) (w : World) (ho : okT en pe = true) (h1 : ¬ en < 1) (h2 : ¬ 9 < en) (kv : ∀ w, Calls Try.prog 17 #[.int .i64 pe] w fun e w' => e = .returned (.bool true) ∧ w = w') : Calls Try.prog 4 #[.int .i64 en, .int .i64 pe, .int .i64 0, .int .i64 0] w fun e w' => e = .returned (.bool true) ∧ Below w.heap.size w w' := by
  go_enter Try.func4, Try.ntmps4
  go_wp2_with fail
  refine (kv w).mono ?_
  rintro e w0 ⟨rfl, rfl⟩
  go_wp2_with fail
  refine (alive_any _).mono ?_
  rintro e w1 ⟨rfl, hb⟩
  have HB := Lib.hid hb
  have H0 := Lib.hid (gates_one w1 en pe)
  have B0 : Hid (Below w1.heap.size w1 (w1.alloc (.cells #[.slice none 0 0] 27))) := (Below.refl _ _).alloc (Nat.le_refl _) _
  obtain ⟨w2, hw2⟩ : ∃ w2, w1.alloc (.cells #[.slice none 0 0] 27) = w2 := ⟨_, rfl⟩
  have HW := Lib.hid hw2
  rw [hw2] at H0 B0
  clear hw2 hb
  go_wp2_with fail
  rw [HW.out]
  refine (set_one 0 0 0 0 ho H0.out rfl (by decide) (by decide) (by decide)).mono ?_
  rintro e u0 ⟨rfl, ht⟩
  obtain ⟨v1, h1, b1⟩ := GatesOn.set B0.out.size H0.out B0.out ht
  have H1 := Lib.hid h1
  have B1 := Lib.hid b1
  clear h1 b1 ht H0 B0
  go_wp2_with fail
  refine (state_one 0 ho H1.out).mono ?_
  rintro e u1 ⟨rfl, ht⟩
  obtain ⟨v2, h2, b2⟩ := GatesOn.same B1.out.size H1.out B1.out ht
  have H2 := Lib.hid h2
  have B2 := Lib.hid b2
  clear h2 b2 ht H1 B1
  go_wp2_with fail
  refine (may_one 0 0 ho H2.out (by decide)).mono ?_
  rintro e u2 ⟨rfl, ht⟩
  obtain ⟨v3, h3, b3⟩ := GatesOn.same B2.out.size H2.out B2.out ht
  have H3 := Lib.hid h3
  have B3 := Lib.hid b3
  clear h3 b3 ht H2 B2
  go_wp2_with fail
  go_ret
  exact ⟨rfl, HB.out.trans (B3.out.mono HB.out.size)⟩
set_option maxRecDepth 100000 in
set_option maxHeartbeats 1000000 in
theorem ways_01 (en pe : Int) (w : World) (ho : okT en pe = true) (h1 : ¬ en < 1) (h2 : ¬ 9 < en) (kv : ∀ w, Calls Try.prog 17 #[.int .i64 pe] w fun e w' => e = .returned (.bool true) ∧ w = w') : Calls Try.prog 4 #[.int .i64 en, .int .i64 pe, .int .i64 0, .int .i64 1] w fun e w' => e = .returned (.bool true) ∧ Below w.heap.size w w' := by
  go_enter Try.func4, Try.ntmps4
  go_wp2_with fail
  refine (kv w).mono ?_
  rintro e w0 ⟨rfl, rfl⟩
  go_wp2_with fail
  refine (alive_any _).mono ?_
  rintro e w1 ⟨rfl, hb⟩
  have HB := Lib.hid hb
  have H0 := Lib.hid (gates_one w1 en pe)
  have B0 : Hid (Below w1.heap.size w1 (w1.alloc (.cells #[.slice none 0 0] 27))) := (Below.refl _ _).alloc (Nat.le_refl _) _
  obtain ⟨w2, hw2⟩ : ∃ w2, w1.alloc (.cells #[.slice none 0 0] 27) = w2 := ⟨_, rfl⟩
  have HW := Lib.hid hw2
  rw [hw2] at H0 B0
  clear hw2 hb
  go_wp2_with fail
  rw [HW.out]
  refine (set_one 0 1 0 1 ho H0.out rfl (by decide) (by decide) (by decide)).mono ?_
  rintro e u0 ⟨rfl, ht⟩
  obtain ⟨v1, h1, b1⟩ := GatesOn.set B0.out.size H0.out B0.out ht
  have H1 := Lib.hid h1
  have B1 := Lib.hid b1
  clear h1 b1 ht H0 B0
  go_wp2_with fail
  refine (state_one 1 ho H1.out).mono ?_
  rintro e u1 ⟨rfl, ht⟩
  obtain ⟨v2, h2, b2⟩ := GatesOn.same B1.out.size H1.out B1.out ht
  have H2 := Lib.hid h2
  have B2 := Lib.hid b2
  clear h2 b2 ht H1 B1
  go_wp2_with fail
  refine (may_one 1 6 ho H2.out (by decide)).mono ?_
  rintro e u2 ⟨rfl, ht⟩
  obtain ⟨v3, h3, b3⟩ := GatesOn.same B2.out.size H2.out B2.out ht
  have H3 := Lib.hid h3
  have B3 := Lib.hid b3
  clear h3 b3 ht H2 B2
  go_wp2_with fail
  go_ret
  exact ⟨rfl, HB.out.trans (B3.out.mono HB.out.size)⟩
set_option maxRecDepth 100000 in
set_option maxHeartbeats 1000000 in
theorem ways_02 (en pe : Int) (w : World) (ho : okT en pe = true) (h1 : ¬ en < 1) (h2 : ¬ 9 < en) (kv : ∀ w, Calls Try.prog 17 #[.int .i64 pe] w fun e w' => e = .returned (.bool true) ∧ w = w') : Calls Try.prog 4 #[.int .i64 en, .int .i64 pe, .int .i64 0, .int .i64 2] w fun e w' => e = .returned (.bool true) ∧ Below w.heap.size w w' := by
  go_enter Try.func4, Try.ntmps4
  go_wp2_with fail
  refine (kv w).mono ?_
  rintro e w0 ⟨rfl, rfl⟩
  go_wp2_with fail
  refine (alive_any _).mono ?_
  rintro e w1 ⟨rfl, hb⟩
  have HB := Lib.hid hb
  have H0 := Lib.hid (gates_one w1 en pe)
  have B0 : Hid (Below w1.heap.size w1 (w1.alloc (.cells #[.slice none 0 0] 27))) := (Below.refl _ _).alloc (Nat.le_refl _) _
  obtain ⟨w2, hw2⟩ : ∃ w2, w1.alloc (.cells #[.slice none 0 0] 27) = w2 := ⟨_, rfl⟩
  have HW := Lib.hid hw2
  rw [hw2] at H0 B0
  clear hw2 hb
  go_wp2_with fail
  rw [HW.out]
  refine (set_one 0 2 11 0 ho H0.out rfl (by decide) (by decide) (by decide)).mono ?_
  rintro e u0 ⟨rfl, ht⟩
  obtain ⟨v1, h1, b1⟩ := GatesOn.set B0.out.size H0.out B0.out ht
  have H1 := Lib.hid h1
  have B1 := Lib.hid b1
  clear h1 b1 ht H0 B0
  go_wp2_with fail
  refine (state_one 0 ho H1.out).mono ?_
  rintro e u1 ⟨rfl, ht⟩
  obtain ⟨v2, h2, b2⟩ := GatesOn.same B1.out.size H1.out B1.out ht
  have H2 := Lib.hid h2
  have B2 := Lib.hid b2
  clear h2 b2 ht H1 B1
  go_wp2_with fail
  refine (may_one 0 0 ho H2.out (by decide)).mono ?_
  rintro e u2 ⟨rfl, ht⟩
  obtain ⟨v3, h3, b3⟩ := GatesOn.same B2.out.size H2.out B2.out ht
  have H3 := Lib.hid h3
  have B3 := Lib.hid b3
  clear h3 b3 ht H2 B2
  go_wp2_with fail
  go_ret
  exact ⟨rfl, HB.out.trans (B3.out.mono HB.out.size)⟩
set_option maxRecDepth 100000 in
set_option maxHeartbeats 1000000 in
theorem ways_10 (en pe : Int) (w : World) (ho : okT en pe = true) (h1 : ¬ en < 1) (h2 : ¬ 9 < en) (kv : ∀ w, Calls Try.prog 17 #[.int .i64 pe] w fun e w' => e = .returned (.bool true) ∧ w = w') : Calls Try.prog 4 #[.int .i64 en, .int .i64 pe, .int .i64 1, .int .i64 0] w fun e w' => e = .returned (.bool true) ∧ Below w.heap.size w w' := by
  go_enter Try.func4, Try.ntmps4
  go_wp2_with fail
  refine (kv w).mono ?_
  rintro e w0 ⟨rfl, rfl⟩
  go_wp2_with fail
  refine (alive_any _).mono ?_
  rintro e w1 ⟨rfl, hb⟩
  have HB := Lib.hid hb
  have H0 := Lib.hid (gates_one w1 en pe)
  have B0 : Hid (Below w1.heap.size w1 (w1.alloc (.cells #[.slice none 0 0] 27))) := (Below.refl _ _).alloc (Nat.le_refl _) _
  obtain ⟨w2, hw2⟩ : ∃ w2, w1.alloc (.cells #[.slice none 0 0] 27) = w2 := ⟨_, rfl⟩
  have HW := Lib.hid hw2
  rw [hw2] at H0 B0
  clear hw2 hb
  go_wp2_with fail
  rw [HW.out]
  refine (set_one 0 1 0 1 ho H0.out rfl (by decide) (by decide) (by decide)).mono ?_
  rintro e u0 ⟨rfl, ht⟩
  obtain ⟨v1, h1, b1⟩ := GatesOn.set B0.out.size H0.out B0.out ht
  have H1 := Lib.hid h1
  have B1 := Lib.hid b1
  clear h1 b1 ht H0 B0
  go_wp2_with fail
  refine (set_one 1 0 0 0 ho H1.out rfl (by decide) (by decide) (by decide)).mono ?_
  rintro e u1 ⟨rfl, ht⟩
  obtain ⟨v2, h2, b2⟩ := GatesOn.set B1.out.size H1.out B1.out ht
  have H2 := Lib.hid h2
  have B2 := Lib.hid b2
  clear h2 b2 ht H1 B1
  go_wp2_with fail
  refine (state_one 0 ho H2.out).mono ?_
  rintro e u2 ⟨rfl, ht⟩
  obtain ⟨v3, h3, b3⟩ := GatesOn.same B2.out.size H2.out B2.out ht
  have H3 := Lib.hid h3
  have B3 := Lib.hid b3
  clear h3 b3 ht H2 B2
  go_wp2_with fail
  refine (may_one 0 0 ho H3.out (by decide)).mono ?_
  rintro e u3 ⟨rfl, ht⟩
  obtain ⟨v4, h4, b4⟩ := GatesOn.same B3.out.size H3.out B3.out ht
  have H4 := Lib.hid h4
  have B4 := Lib.hid b4
  clear h4 b4 ht H3 B3
  go_wp2_with fail
  go_ret
  exact ⟨rfl, HB.out.trans (B4.out.mono HB.out.size)⟩
set_option maxRecDepth 100000 in
set_option maxHeartbeats 1000000 in
theorem ways_11 (en pe : Int) (w : World) (ho : okT en pe = true) (h1 : ¬ en < 1) (h2 : ¬ 9 < en) (kv : ∀ w, Calls Try.prog 17 #[.int .i64 pe] w fun e w' => e = .returned (.bool true) ∧ w = w') : Calls Try.prog 4 #[.int .i64 en, .int .i64 pe, .int .i64 1, .int .i64 1] w fun e w' => e = .returned (.bool true) ∧ Below w.heap.size w w' := by
  go_enter Try.func4, Try.ntmps4
  go_wp2_with fail
  refine (kv w).mono ?_
  rintro e w0 ⟨rfl, rfl⟩
  go_wp2_with fail
  refine (alive_any _).mono ?_
  rintro e w1 ⟨rfl, hb⟩
  have HB := Lib.hid hb
  have H0 := Lib.hid (gates_one w1 en pe)
  have B0 : Hid (Below w1.heap.size w1 (w1.alloc (.cells #[.slice none 0 0] 27))) := (Below.refl _ _).alloc (Nat.le_refl _) _
  obtain ⟨w2, hw2⟩ : ∃ w2, w1.alloc (.cells #[.slice none 0 0] 27) = w2 := ⟨_, rfl⟩
  have HW := Lib.hid hw2
  rw [hw2] at H0 B0
  clear hw2 hb
  go_wp2_with fail
  rw [HW.out]
  refine (set_one 0 1 0 1 ho H0.out rfl (by decide) (by decide) (by decide)).mono ?_
  rintro e u0 ⟨rfl, ht⟩
  obtain ⟨v1, h1, b1⟩ := GatesOn.set B0.out.size H0.out B0.out ht
  have H1 := Lib.hid h1
  have B1 := Lib.hid b1
  clear h1 b1 ht H0 B0
  go_wp2_with fail
  refine (set_one 1 1 0 1 ho H1.out rfl (by decide) (by decide) (by decide)).mono ?_
  rintro e u1 ⟨rfl, ht⟩
  obtain ⟨v2, h2, b2⟩ := GatesOn.set B1.out.size H1.out B1.out ht
  have H2 := Lib.hid h2
  have B2 := Lib.hid b2
  clear h2 b2 ht H1 B1
  go_wp2_with fail
  refine (state_one 1 ho H2.out).mono ?_
  rintro e u2 ⟨rfl, ht⟩
  obtain ⟨v3, h3, b3⟩ := GatesOn.same B2.out.size H2.out B2.out ht
  have H3 := Lib.hid h3
  have B3 := Lib.hid b3
  clear h3 b3 ht H2 B2
  go_wp2_with fail
  refine (may_one 1 6 ho H3.out (by decide)).mono ?_
  rintro e u3 ⟨rfl, ht⟩
  obtain ⟨v4, h4, b4⟩ := GatesOn.same B3.out.size H3.out B3.out ht
  have H4 := Lib.hid h4
  have B4 := Lib.hid b4
  clear h4 b4 ht H3 B3
  go_wp2_with fail
  go_ret
  exact ⟨rfl, HB.out.trans (B4.out.mono HB.out.size)⟩
set_option maxRecDepth 100000 in
set_option maxHeartbeats 1000000 in
theorem ways_12 (en pe : Int) (w : World) (ho : okT en pe = true) (h1 : ¬ en < 1) (h2 : ¬ 9 < en) (kv : ∀ w, Calls Try.prog 17 #[.int .i64 pe] w fun e w' => e = .returned (.bool true) ∧ w = w') : Calls Try.prog 4 #[.int .i64 en, .int .i64 pe, .int .i64 1, .int .i64 2] w fun e w' => e = .returned (.bool true) ∧ Below w.heap.size w w' := by
  go_enter Try.func4, Try.ntmps4
  go_wp2_with fail
  refine (kv w).mono ?_
  rintro e w0 ⟨rfl, rfl⟩
  go_wp2_with fail
  refine (alive_any _).mono ?_
  rintro e w1 ⟨rfl, hb⟩
  have HB := Lib.hid hb
  have H0 := Lib.hid (gates_one w1 en pe)
  have B0 : Hid (Below w1.heap.size w1 (w1.alloc (.cells #[.slice none 0 0] 27))) := (Below.refl _ _).alloc (Nat.le_refl _) _
  obtain ⟨w2, hw2⟩ : ∃ w2, w1.alloc (.cells #[.slice none 0 0] 27) = w2 := ⟨_, rfl⟩
  have HW := Lib.hid hw2
  rw [hw2] at H0 B0
  clear hw2 hb
  go_wp2_with fail
  rw [HW.out]
  refine (set_one 0 1 0 1 ho H0.out rfl (by decide) (by decide) (by decide)).mono ?_
  rintro e u0 ⟨rfl, ht⟩
  obtain ⟨v1, h1, b1⟩ := GatesOn.set B0.out.size H0.out B0.out ht
  have H1 := Lib.hid h1
  have B1 := Lib.hid b1
  clear h1 b1 ht H0 B0
  go_wp2_with fail
  refine (set_one 1 2 0 2 ho H1.out rfl (by decide) (by decide) (by decide)).mono ?_
  rintro e u1 ⟨rfl, ht⟩
  obtain ⟨v2, h2, b2⟩ := GatesOn.set B1.out.size H1.out B1.out ht
  have H2 := Lib.hid h2
  have B2 := Lib.hid b2
  clear h2 b2 ht H1 B1
  go_wp2_with fail
  refine (state_one 2 ho H2.out).mono ?_
  rintro e u2 ⟨rfl, ht⟩
  obtain ⟨v3, h3, b3⟩ := GatesOn.same B2.out.size H2.out B2.out ht
  have H3 := Lib.hid h3
  have B3 := Lib.hid b3
  clear h3 b3 ht H2 B2
  go_wp2_with fail
  refine (may_one 2 6 ho H3.out (by decide)).mono ?_
  rintro e u3 ⟨rfl, ht⟩
  obtain ⟨v4, h4, b4⟩ := GatesOn.same B3.out.size H3.out B3.out ht
  have H4 := Lib.hid h4
  have B4 := Lib.hid b4
  clear h4 b4 ht H3 B3
  go_wp2_with fail
  go_ret
  exact ⟨rfl, HB.out.trans (B4.out.mono HB.out.size)⟩
set_option maxRecDepth 100000 in
set_option maxHeartbeats 1000000 in
theorem ways_20 (en pe : Int) (w : World) (ho : okT en pe = true) (h1 : ¬ en < 1) (h2 : ¬ 9 < en) (kv : ∀ w, Calls Try.prog 17 #[.int .i64 pe] w fun e w' => e = .returned (.bool true) ∧ w = w') : Calls Try.prog 4 #[.int .i64 en, .int .i64 pe, .int .i64 2, .int .i64 0] w fun e w' => e = .returned (.bool true) ∧ Below w.heap.size w w' := by
  go_enter Try.func4, Try.ntmps4
  go_wp2_with fail
  refine (kv w).mono ?_
  rintro e w0 ⟨rfl, rfl⟩
  go_wp2_with fail
  refine (alive_any _).mono ?_
  rintro e w1 ⟨rfl, hb⟩
  have HB := Lib.hid hb
  have H0 := Lib.hid (gates_one w1 en pe)
  have B0 : Hid (Below w1.heap.size w1 (w1.alloc (.cells #[.slice none 0 0] 27))) := (Below.refl _ _).alloc (Nat.le_refl _) _
  obtain ⟨w2, hw2⟩ : ∃ w2, w1.alloc (.cells #[.slice none 0 0] 27) = w2 := ⟨_, rfl⟩
  have HW := Lib.hid hw2
  rw [hw2] at H0 B0
  clear hw2 hb
  go_wp2_with fail
  rw [HW.out]
  refine (set_one 0 1 0 1 ho H0.out rfl (by decide) (by decide) (by decide)).mono ?_
  rintro e u0 ⟨rfl, ht⟩
  obtain ⟨v1, h1, b1⟩ := GatesOn.set B0.out.size H0.out B0.out ht
  have H1 := Lib.hid h1
  have B1 := Lib.hid b1
  clear h1 b1 ht H0 B0
  go_wp2_with fail
  refine (set_one 1 2 0 2 ho H1.out rfl (by decide) (by decide) (by decide)).mono ?_
  rintro e u1 ⟨rfl, ht⟩
  obtain ⟨v2, h2, b2⟩ := GatesOn.set B1.out.size H1.out B1.out ht
  have H2 := Lib.hid h2
  have B2 := Lib.hid b2
  clear h2 b2 ht H1 B1
  go_wp2_with fail
  refine (set_one 2 0 11 2 ho H2.out rfl (by decide) (by decide) (by decide)).mono ?_
  rintro e u2 ⟨rfl, ht⟩
  obtain ⟨v3, h3, b3⟩ := GatesOn.set B2.out.size H2.out B2.out ht
  have H3 := Lib.hid h3
  have B3 := Lib.hid b3
  clear h3 b3 ht H2 B2
  go_wp2_with fail
  refine (state_one 2 ho H3.out).mono ?_
  rintro e u3 ⟨rfl, ht⟩
  obtain ⟨v4, h4, b4⟩ := GatesOn.same B3.out.size H3.out B3.out ht
  have H4 := Lib.hid h4
  have B4 := Lib.hid b4
  clear h4 b4 ht H3 B3
  go_wp2_with fail
  refine (may_one 2 6 ho H4.out (by decide)).mono ?_
  rintro e u4 ⟨rfl, ht⟩
  obtain ⟨v5, h5, b5⟩ := GatesOn.same B4.out.size H4.out B4.out ht
  have H5 := Lib.hid h5
  have B5 := Lib.hid b5
  clear h5 b5 ht H4 B4
  go_wp2_with fail
  go_ret
  exact ⟨rfl, HB.out.trans (B5.out.mono HB.out.size)⟩
set_option maxRecDepth 100000 in
set_option maxHeartbeats 1000000 in
theorem ways_21 (en pe : Int) (w : World) (ho : okT en pe = true) (h1 : ¬ en < 1) (h2 : ¬ 9 < en) (kv : ∀ w, Calls Try.prog 17 #[.int .i64 pe] w fun e w' => e = .returned (.bool true) ∧ w = w') : Calls Try.prog 4 #[.int .i64 en, .int .i64 pe, .int .i64 2, .int .i64 1] w fun e w' => e = .returned (.bool true) ∧ Below w.heap.size w w' := by
  go_enter Try.func4, Try.ntmps4
  go_wp2_with fail
  refine (kv w).mono ?_
  rintro e w0 ⟨rfl, rfl⟩
  go_wp2_with fail
  refine (alive_any _).mono ?_
  rintro e w1 ⟨rfl, hb⟩
  have HB := Lib.hid hb
  have H0 := Lib.hid (gates_one w1 en pe)
  have B0 : Hid (Below w1.heap.size w1 (w1.alloc (.cells #[.slice none 0 0] 27))) := (Below.refl _ _).alloc (Nat.le_refl _) _
  obtain ⟨w2, hw2⟩ : ∃ w2, w1.alloc (.cells #[.slice none 0 0] 27) = w2 := ⟨_, rfl⟩
  have HW := Lib.hid hw2
  rw [hw2] at H0 B0
  clear hw2 hb
  go_wp2_with fail
  rw [HW.out]
  refine (set_one 0 1 0 1 ho H0.out rfl (by decide) (by decide) (by decide)).mono ?_
  rintro e u0 ⟨rfl, ht⟩
  obtain ⟨v1, h1, b1⟩ := GatesOn.set B0.out.size H0.out B0.out ht
  have H1 := Lib.hid h1
  have B1 := Lib.hid b1
  clear h1 b1 ht H0 B0
  go_wp2_with fail
  refine (set_one 1 2 0 2 ho H1.out rfl (by decide) (by decide) (by decide)).mono ?_
  rintro e u1 ⟨rfl, ht⟩
  obtain ⟨v2, h2, b2⟩ := GatesOn.set B1.out.size H1.out B1.out ht
  have H2 := Lib.hid h2
  have B2 := Lib.hid b2
  clear h2 b2 ht H1 B1
  go_wp2_with fail
  refine (set_one 2 1 11 2 ho H2.out rfl (by decide) (by decide) (by decide)).mono ?_
  rintro e u2 ⟨rfl, ht⟩
  obtain ⟨v3, h3, b3⟩ := GatesOn.set B2.out.size H2.out B2.out ht
  have H3 := Lib.hid h3
  have B3 := Lib.hid b3
  clear h3 b3 ht H2 B2
  go_wp2_with fail
  refine (state_one 2 ho H3.out).mono ?_
  rintro e u3 ⟨rfl, ht⟩
  obtain ⟨v4, h4, b4⟩ := GatesOn.same B3.out.size H3.out B3.out ht
  have H4 := Lib.hid h4
  have B4 := Lib.hid b4
  clear h4 b4 ht H3 B3
  go_wp2_with fail
  refine (may_one 2 6 ho H4.out (by decide)).mono ?_
  rintro e u4 ⟨rfl, ht⟩
  obtain ⟨v5, h5, b5⟩ := GatesOn.same B4.out.size H4.out B4.out ht
  have H5 := Lib.hid h5
  have B5 := Lib.hid b5
  clear h5 b5 ht H4 B4
  go_wp2_with fail
  go_ret
  exact ⟨rfl, HB.out.trans (B5.out.mono HB.out.size)⟩
set_option maxRecDepth 100000 in
set_option maxHeartbeats 1000000 in
theorem ways_22 (en pe : Int) (w : World) (ho : okT en pe = true) (h1 : ¬ en < 1) (h2 : ¬ 9 < en) (kv : ∀ w, Calls Try.prog 17 #[.int .i64 pe] w fun e w' => e = .returned (.bool true) ∧ w = w') : Calls Try.prog 4 #[.int .i64 en, .int .i64 pe, .int .i64 2, .int .i64 2] w fun e w' => e = .returned (.bool true) ∧ Below w.heap.size w w' := by
  go_enter Try.func4, Try.ntmps4
  go_wp2_with fail
  refine (kv w).mono ?_
  rintro e w0 ⟨rfl, rfl⟩
  go_wp2_with fail
  refine (alive_any _).mono ?_
  rintro e w1 ⟨rfl, hb⟩
  have HB := Lib.hid hb
  have H0 := Lib.hid (gates_one w1 en pe)
  have B0 : Hid (Below w1.heap.size w1 (w1.alloc (.cells #[.slice none 0 0] 27))) := (Below.refl _ _).alloc (Nat.le_refl _) _
  obtain ⟨w2, hw2⟩ : ∃ w2, w1.alloc (.cells #[.slice none 0 0] 27) = w2 := ⟨_, rfl⟩
  have HW := Lib.hid hw2
  rw [hw2] at H0 B0
  clear hw2 hb
  go_wp2_with fail
  rw [HW.out]
  refine (set_one 0 1 0 1 ho H0.out rfl (by decide) (by decide) (by decide)).mono ?_
  rintro e u0 ⟨rfl, ht⟩
  obtain ⟨v1, h1, b1⟩ := GatesOn.set B0.out.size H0.out B0.out ht
  have H1 := Lib.hid h1
  have B1 := Lib.hid b1
  clear h1 b1 ht H0 B0
  go_wp2_with fail
  refine (set_one 1 2 0 2 ho H1.out rfl (by decide) (by decide) (by decide)).mono ?_
  rintro e u1 ⟨rfl, ht⟩
  obtain ⟨v2, h2, b2⟩ := GatesOn.set B1.out.size H1.out B1.out ht
  have H2 := Lib.hid h2
  have B2 := Lib.hid b2
  clear h2 b2 ht H1 B1
  go_wp2_with fail
  refine (set_one 2 2 11 2 ho H2.out rfl (by decide) (by decide) (by decide)).mono ?_
  rintro e u2 ⟨rfl, ht⟩
  obtain ⟨v3, h3, b3⟩ := GatesOn.set B2.out.size H2.out B2.out ht
  have H3 := Lib.hid h3
  have B3 := Lib.hid b3
  clear h3 b3 ht H2 B2
  go_wp2_with fail
  refine (state_one 2 ho H3.out).mono ?_
  rintro e u3 ⟨rfl, ht⟩
  obtain ⟨v4, h4, b4⟩ := GatesOn.same B3.out.size H3.out B3.out ht
  have H4 := Lib.hid h4
  have B4 := Lib.hid b4
  clear h4 b4 ht H3 B3
  go_wp2_with fail
  refine (may_one 2 6 ho H4.out (by decide)).mono ?_
  rintro e u4 ⟨rfl, ht⟩
  obtain ⟨v5, h5, b5⟩ := GatesOn.same B4.out.size H4.out B4.out ht
  have H5 := Lib.hid h5
  have B5 := Lib.hid b5
  clear h5 b5 ht H4 B4
  go_wp2_with fail
  go_ret
  exact ⟨rfl, HB.out.trans (B5.out.mono HB.out.size)⟩

set_option maxRecDepth 100000 in
set_option maxHeartbeats 1000000 in
theorem gatesWays_walk (en pe f t : Int) (w : World) : Calls Try.prog 4 #[.int .i64 en, .int .i64 pe, .int .i64 f, .int .i64 t] w fun e w' => e = .returned (.bool true) ∧ Below w.heap.size w w' := by
  by_cases h1 : en < 1
  · skip
    go_enter Try.func4, Try.ntmps4
    go_wp2_with fail
    refine (alive_any _).mono ?_
    rintro e w1 ⟨rfl, hb⟩
    go_wp2_with fail
    go_ret
    exact ⟨rfl, hb⟩
  by_cases h2 : 9 < en
  · skip
    go_enter Try.func4, Try.ntmps4
    go_wp2_with fail
    refine (alive_any _).mono ?_
    rintro e w1 ⟨rfl, hb⟩
    go_wp2_with fail
    go_ret
    exact ⟨rfl, hb⟩
  have kv := fun w => refValid_any pe w
  cases hp : okP pe
  · rw [hp] at kv
    clear hp
    go_enter Try.func4, Try.ntmps4
    go_wp2_with fail
    refine (kv w).mono ?_
    rintro e w0 ⟨rfl, rfl⟩
    go_wp2_with fail
    refine (alive_any _).mono ?_
    rintro e w1 ⟨rfl, hb⟩
    go_wp2_with fail
    go_ret
    exact ⟨rfl, hb⟩
  rw [hp] at kv
  have ho : okT en pe = true := by rw [okT_p h1 h2]; exact hp
  clear hp
  by_cases h3 : f < 0
  · skip
    go_enter Try.func4, Try.ntmps4
    go_wp2_with fail
    refine (kv w).mono ?_
    rintro e w0 ⟨rfl, rfl⟩
    go_wp2_with fail
    refine (alive_any _).mono ?_
    rintro e w1 ⟨rfl, hb⟩
    go_wp2_with fail
    go_ret
    exact ⟨rfl, hb⟩
  by_cases h4 : 2 < f
  · skip
    go_enter Try.func4, Try.ntmps4
    go_wp2_with fail
    refine (kv w).mono ?_
    rintro e w0 ⟨rfl, rfl⟩
    go_wp2_with fail
    refine (alive_any _).mono ?_
    rintro e w1 ⟨rfl, hb⟩
    go_wp2_with fail
    go_ret
    exact ⟨rfl, hb⟩
  by_cases h5 : t < 0
  · skip
    go_enter Try.func4, Try.ntmps4
    go_wp2_with fail
    refine (kv w).mono ?_
    rintro e w0 ⟨rfl, rfl⟩
    go_wp2_with fail
    refine (alive_any _).mono ?_
    rintro e w1 ⟨rfl, hb⟩
    go_wp2_with fail
    go_ret
    exact ⟨rfl, hb⟩
  by_cases h6 : 2 < t
  · skip
    go_enter Try.func4, Try.ntmps4
    go_wp2_with fail
    refine (kv w).mono ?_
    rintro e w0 ⟨rfl, rfl⟩
    go_wp2_with fail
    refine (alive_any _).mono ?_
    rintro e w1 ⟨rfl, hb⟩
    go_wp2_with fail
    go_ret
    exact ⟨rfl, hb⟩
  obtain rfl | rfl | rfl : f = 0 ∨ f = 1 ∨ f = 2 := by omega
  · obtain rfl | rfl | rfl : t = 0 ∨ t = 1 ∨ t = 2 := by omega
    · exact ways_00 en pe w ho h1 h2 kv
    · exact ways_01 en pe w ho h1 h2 kv
    · exact ways_02 en pe w ho h1 h2 kv
  · obtain rfl | rfl | rfl : t = 0 ∨ t = 1 ∨ t = 2 := by omega
    · exact ways_10 en pe w ho h1 h2 kv
    · exact ways_11 en pe w ho h1 h2 kv
    · exact ways_12 en pe w ho h1 h2 kv
  · obtain rfl | rfl | rfl : t = 0 ∨ t = 1 ∨ t = 2 := by omega
    · exact ways_20 en pe w ho h1 h2 kv
    · exact ways_21 en pe w ho h1 h2 kv
    · exact ways_22 en pe w ho h1 h2 kv
end Go.Proofs.Ytgoekobolomppaa
