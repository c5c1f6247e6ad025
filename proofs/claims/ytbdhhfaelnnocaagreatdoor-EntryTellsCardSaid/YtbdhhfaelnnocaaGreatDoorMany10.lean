/-
  Several texts, one behind the other: what each holds stands ahead of it.
-/
import Derived.Test.YtbdhhfaelnnocaaGreatDoorEntryParse
import Derived.Test.YtbdhhfaelnnocaaGreatDoorEntryTotal

/-
  Contracts of the statements' alive and Small.
-/
namespace Go.Proofs.YtbdhhfaelnnocaaGreatDoor
open Go.RowKit Go.Sort

def aliveJ : Jrn := ⟨7, 1, 322, ⟨#[65, 49]⟩, [⟨100, 5, 0⟩, ⟨200, -5, 2⟩], false⟩
theorem alive_ok : checkE aliveJ = 0 := by kernel_rfl
theorem alive_text : textJ aliveJ = [55, 32, 49, 32, 50, 48, 50, 54, 45, 49, 49, 32, 65, 49, 32, 108, 105, 118, 101, 32, 49, 48, 48, 58, 53, 58, 48, 32, 50, 48, 48, 58, 45, 53, 58, 50] := by
  have h1 : textB 322 = [50, 48, 50, 54, 45, 49, 49] := by kernel_rfl
  unfold textJ partsJ
  simp only [aliveJ, h1, List.map_cons, List.map_nil, lineT, refT, stateT, Lib.itoa]
  simp [Lib.decDigits, Lib.join, List.intercalate]
theorem alive_parse : parseJ (textJ aliveJ) = some aliveJ := parseJ_of alive_ok rfl
theorem alive_total : totalJ aliveJ = 5 := by kernel_rfl
theorem alive_64 : aliveJ.ok64 := checkE_64 alive_ok

set_option maxRecDepth 100000 in
set_option maxHeartbeats 2000000 in
theorem alive_any (w : World) (G : Glob w) :
    Calls Tryz.prog 5 #[] w fun e w' => e = .returned (.bool true) ∧ Below w.heap.size w w' := by
  obtain ⟨W2, hW2⟩ : ∃ W2, (w.alloc (.cells #[.int .i64 100, .int .i64 5, .int .i64 0, .int .i64 200, .int .i64 (-5), .int .i64 2] 34)).alloc (.cells #[.int .i64 7, .int .i64 1, .int .i64 322, .string ⟨#[65, 49]⟩, .slice (some ⟨w.heap.size, 0, none⟩) 2 2, .bool false] 24) = W2 := ⟨_, rfl⟩
  have HW2 := Lib.hid hW2
  have hb2 : Below w.heap.size w W2 := by rw [← hW2]; exact ((Below.refl _ _).alloc (Nat.le_refl _) _).alloc (by simp) _
  have hz2 : W2.heap.size = w.heap.size + 2 := by rw [← hW2]; simp
  have hrd : Rd W2 W2.heap.size 3 (some ⟨w.heap.size, 0, none⟩) 2 (lins aliveJ.lines) := by
    refine ⟨rfl, fun _ => ⟨_, rfl, by show w.heap.size < _; omega, fun k u hu => ?_⟩⟩
    have h0 := cells_new w [.int .i64 100, .int .i64 5, .int .i64 0, .int .i64 200, .int .i64 (-5), .int .i64 2] 34 k u hu
    rw [← hW2]
    rw [Addr.add_lit] at h0 ⊢
    exact ((((Below.refl _ _).alloc (Nat.le_refl _) _).cell (p := ⟨w.heap.size, 0 + k, none⟩) (by simp)).trans h0)
  have hjb : W2.heap[w.heap.size + 1]? = some (.cells #[.int .i64 7, .int .i64 1, .int .i64 322, .string ⟨#[65, 49]⟩, .slice (some ⟨w.heap.size, 0, none⟩) 2 2, .bool false] 24 (0, 0)) := by
    rw [← hW2]
    have := heap_new (w.alloc (.cells #[.int .i64 100, .int .i64 5, .int .i64 0, .int .i64 200, .int .i64 (-5), .int .i64 2] 34)) (.cells #[.int .i64 7, .int .i64 1, .int .i64 322, .string ⟨#[65, 49]⟩, .slice (some ⟨w.heap.size, 0, none⟩) 2 2, .bool false] 24)
    rw [show (w.alloc (.cells #[.int .i64 100, .int .i64 5, .int .i64 0, .int .i64 200, .int .i64 (-5), .int .i64 2] 34)).heap.size = w.heap.size + 1 by simp] at this
    exact this
  have G2 : Glob W2 := G.below hb2
  have kt := entryText_any aliveJ (some ⟨w.heap.size, 0, none⟩) 2 2 _ W2 G2 hrd (Nat.le_refl _) (by unfold maxLen; omega) (by show (2 : Nat) ≤ _; unfold maxLen; omega) alive_64
  rw [alive_ok, if_pos rfl] at kt
  have KT := Lib.hid kt
  have HRD := Lib.hid hrd
  have HJB := Lib.hid hjb
  have HG2 := Lib.hid G2
  have HB2 := Lib.hid hb2
  have HZ2 := Lib.hid hz2
  clear hW2 hb2 hz2 hrd hjb G2 G kt
  go_enter Tryz.func5, Tryz.ntmps5
  go_wp2_with fail
  rw [HW2.out]
  refine KT.out.mono ?_
  rintro e w3 ⟨rfl, hb3⟩
  have kp := Lib.hid (entryParse_any (textJ aliveJ) w3 (HG2.out.below hb3) (by rw [alive_text]; decide))
  have HB3 := Lib.hid hb3
  have hz3 := hb3.size
  clear hb3
  go_wp2_with fail
  refine kp.out.mono ?_
  rintro e w4 h4
  unfold ParseEnd at h4
  rw [alive_parse] at h4
  have h4 : (∃ A c, e = .returned (.tuple #[.agg #[.int .i64 7, .int .i64 1, .int .i64 322, .string ⟨#[65, 49]⟩, .slice A 2 c, .bool false], .int .i64 0]) ∧ w4.ownsRow w3.heap.size 34 3 (.slice A 2 c) 2 (lins aliveJ.lines)) ∧ Below w3.heap.size w3 w4 := h4
  obtain ⟨⟨A, c, rfl, hown⟩, hb4⟩ := h4
  have HBW : Hid (Below W2.heap.size W2 w4) := HB3.out.trans (hb4.mono hz3)
  have hz4 := hb4.size
  obtain ⟨W5, hW5⟩ : ∃ W5, w4.alloc (.cells #[.int .i64 7, .int .i64 1, .int .i64 322, .string ⟨#[65, 49]⟩, .slice A 2 c, .bool false] 24) = W5 := ⟨_, rfl⟩
  have HW5 := Lib.hid hW5
  have hb5 : Below w4.heap.size w4 W5 := by rw [← hW5]; exact (Below.refl _ _).alloc (Nat.le_refl _) _
  have hb25 : Below W2.heap.size W2 W5 := HBW.out.trans (hb5.mono HBW.out.size)
  have hj4 := (HBW.out.block _ (lt_of_blk HJB.out)).trans HJB.out
  have hlt4 := lt_of_blk hj4
  have hk5 : W5.heap[w4.heap.size]? = some (.cells #[.int .i64 7, .int .i64 1, .int .i64 322, .string ⟨#[65, 49]⟩, .slice A 2 c, .bool false] 24 (0, 0)) := by rw [← hW5]; exact heap_new w4 _
  have hown5 : W5.ownsRow w3.heap.size 34 3 (.slice A 2 c) 2 (lins aliveJ.lines) := own_kept hown fun k hk _ => hb5.block k hk
  have ks := Lib.hid (same_any aliveJ aliveJ (some ⟨w.heap.size, 0, none⟩) A 2 2 2 c _ _ W5 (HRD.out.far hb25 (Nat.le_refl _)) (rd_of_own hown5) hb25.size (Nat.le_refl _) (by unfold maxLen; omega) (by unfold maxLen; omega))
  rw [sameJ_self] at ks
  have KTT : Hid (∀ w6, Below W5.heap.size W5 w6 → Calls Tryz.prog 13 #[aliveJ.val (some ⟨w.heap.size, 0, none⟩) 2 2] w6 fun e w' => e = .returned (.int .i64 5) ∧ Below w6.heap.size w6 w') := fun w6 hb6 => by
    have := total_any aliveJ (some ⟨w.heap.size, 0, none⟩) 2 2 _ w6 (HRD.out.far (hb25.trans (hb6.mono hb25.size)) (Nat.le_refl _)) (Nat.le_trans hb25.size hb6.size) (by unfold maxLen; omega) (by show (2 : Nat) ≤ _; unfold maxLen; omega)
    rwa [alive_total] at this
  have HJ4 := Lib.hid hj4
  have HK5 := Lib.hid hk5
  have HJ5 := Lib.hid ((hb5.block _ hlt4).trans hj4)
  have HB45 : Hid (w.heap.size + 1 < W5.heap.size) := Nat.lt_of_lt_of_le hlt4 hb5.size
  have HB5 : Hid (Below w.heap.size w W5) := HB2.out.trans (hb25.mono HB2.out.size)
  have t1 : ((bs (textJ aliveJ)).toList == [55, 32, 49, 32, 50, 48, 50, 54, 45, 49, 49, 32, 65, 49, 32, 108, 105, 118, 101, 32, 49, 48, 48, 58, 53, 58, 48, 32, 50, 48, 48, 58, 45, 53, 58, 50]) = true := by rw [lit_beq, alive_text]; simp
  obtain ⟨y0, y1, y2, y3, y4, y5⟩ := six_cells HJ4.out
  generalize bs (textJ aliveJ) = TX at *
  clear hj4 hk5 hown5 hown hb25 hb5 hb4 hW5 kp KT
  unfold Jrn.val at *
  simp only [aliveJ] at *
  go_wp2_with fail
  rw [HW5.out]
  refine ks.out.mono ?_
  rintro e w6 ⟨rfl, hb6⟩
  have kt := Lib.hid (KTT.out w6 hb6)
  have hlt5 : w.heap.size + 1 < w6.heap.size := by have := hb6.size; have := HB45.out; omega
  have hj6 := (hb6.block _ (by have := HB45.out; omega)).trans HJ5.out
  have hk6 := (hb6.block _ (lt_of_blk HK5.out)).trans HK5.out
  obtain ⟨y0, y1, y2, y3, y4, y5⟩ := six_cells hj6
  obtain ⟨_, _, _, _, x4, _⟩ := six_cells hk6
  have HB6 := Lib.hid hb6
  clear hb6 hj6 hk6 ks KTT
  go_wp2_with fail
  refine kt.out.mono ?_
  rintro e w7 ⟨rfl, hb7⟩
  have HB7 := Lib.hid hb7
  clear hb7
  go_wp2_with fail
  go_ret
  exact ⟨rfl, HB5.out.trans ((HB6.out.trans (HB7.out.mono HB6.out.size)).mono HB5.out.size)⟩
end Go.Proofs.YtbdhhfaelnnocaaGreatDoor

/-
  Contract of the statements' Small, at one journal.
-/
namespace Go.Proofs.YtbdhhfaelnnocaaGreatDoor
open Go.RowKit Go.Sort

def smallB (j : Jrn) (n : Nat) : Bool := decide (j.ref.size ≤ 60) && decide (n ≤ 30)
set_option maxRecDepth 100000 in
set_option maxHeartbeats 1000000 in
theorem small_one (j : Jrn) (A : Option Addr) (n c b : Nat) (w : World) (h : JAt w b j A n c) :
    Calls Tryz.prog 4 #[.slice (some ⟨b, 0, none⟩) 1 1] w fun e w' => e = .returned (.bool (smallB j n)) ∧ w = w' := by
  obtain ⟨_, _, _, c3, c4, _⟩ := six_cells h
  have HS : Hid (smallB j n = (decide (j.ref.size ≤ 60) && decide (n ≤ 30))) := rfl
  rw [HS.out]
  generalize j.ref = ref at *
  clear h HS
  by_cases h1 : 60 < ref.size
  · rw [show decide (ref.size ≤ 60) = false by simp; omega, Bool.false_and]
    go_enter Tryz.func4, Tryz.ntmps4
    go_wp2_with fail
    refine wp_loop_rounds 2 ?_
    rw [rounds_succ]
    go_wp2_with fail
    go_ret
    exact ⟨rfl, rfl⟩
  by_cases h2 : 30 < n
  · rw [show decide (n ≤ 30) = false by simp; omega, Bool.and_false]
    go_enter Tryz.func4, Tryz.ntmps4
    go_wp2_with fail
    refine wp_loop_rounds 2 ?_
    rw [rounds_succ]
    go_wp2_with fail
    go_ret
    exact ⟨rfl, rfl⟩
  · rw [show decide (n ≤ 30) = true by simp; omega, show decide (ref.size ≤ 60) = true by simp; omega]
    go_enter Tryz.func4, Tryz.ntmps4
    go_wp2_with fail
    refine wp_loop_rounds 2 ?_
    rw [rounds_succ]
    go_wp2_with fail
    rw [rounds_succ]
    go_wp2_with fail
    go_ret
    exact ⟨rfl, rfl⟩
/-- Small at the call's own block. -/
theorem small_two (j : Jrn) (A : Option Addr) (n c : Nat) (w : World) (o : Obj) (T : TypeId) (hT : T = 24) :
    Calls Tryz.prog 4 #[.slice (some ⟨w.heap.size + 1, 0, none⟩) 1 1] ((w.alloc o).alloc (.cells #[.int .i64 j.id, .int .i64 j.ent, .int .i64 j.per, .string j.ref, .slice A n c, .bool j.void] T)) fun e w' => e = .returned (.bool (smallB j n)) ∧ (w.alloc o).alloc (.cells #[.int .i64 j.id, .int .i64 j.ent, .int .i64 j.per, .string j.ref, .slice A n c, .bool j.void] T) = w' := by
  subst hT
  refine small_one j A n c (w.heap.size + 1) _ ?_
  have := heap_new (w.alloc o) (.cells #[.int .i64 j.id, .int .i64 j.ent, .int .i64 j.per, .string j.ref, .slice A n c, .bool j.void] 24)
  rw [show (w.alloc o).heap.size = w.heap.size + 1 by simp] at this
  exact this
end Go.Proofs.YtbdhhfaelnnocaaGreatDoor
