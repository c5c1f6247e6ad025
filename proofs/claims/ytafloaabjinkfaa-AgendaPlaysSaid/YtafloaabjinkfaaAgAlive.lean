/-
  The statements' helper alive, of agenda.
-/
import Derived.Test.YtafloaabjinkfaaAgNext
namespace Go.Proofs.Ytafloaabjinkfaa
open Go.RowKit Go.Sort

/-- A new row of items, of which an agenda is told. -/
theorem rd_itms (w : World) (l : List Itm) : Rd (w.alloc (.cells (itms l).toArray 33)) (w.heap.size + 1) 3 (some ⟨w.heap.size, 0, none⟩) l.length (itms l) :=
  ⟨itms_len l, fun _ => ⟨_, rfl, by simp, cells_new w (itms l) 33⟩⟩
theorem agPut_new (l : List Itm) (c B b : Nat) (v : Value) (L : List Itm) (w : World) (h : AgAt w B b v L) (hn : l.length ≤ 1000000) (hnc : l.length ≤ c) :
    Calls Try.prog 8 #[.pointer (some ⟨b, 0, none⟩), .slice (some ⟨w.heap.size, 0, none⟩) l.length c] (w.alloc (.cells (itms l).toArray 33)) fun e w' => e = .returned (.int .i64 (putsI L l).length) ∧ AgTo w B b v (putsI L l) w' := by
  have hb : Below w.heap.size w (w.alloc (.cells (itms l).toArray 33)) := (Below.refl _ _).alloc (Nat.le_refl _) _
  refine (agPut_any l _ l.length c (w.heap.size + 1) B b v L _ (h.below hb) (rd_itms w l) (by simp) hn hnc ?_).mono fun e w' ⟨he, T⟩ => ⟨he, AgTo.trans (But.of_below hb) (fun _ h => .inl h) T⟩
  intro _ ad e hi
  injection e with e
  subst e
  exact Nat.lt_irrefl _ (h.ltB _ hi)
/-- An agenda whose memory is new since w0. -/
def AgOn (w0 : World) (b : Nat) (L : List Itm) (w : World) : Prop := ∃ v, AgAt w w0.heap.size b v L ∧ Below w0.heap.size w0 w
theorem AgOn.to {w0 w w' : World} {b : Nat} {v : Value} {L L' : List Itm} (h : AgAt w w0.heap.size b v L) (hb : Below w0.heap.size w0 w) (t : AgTo w w0.heap.size b v L' w') : AgOn w0 b L' w' := by
  have hb2 := t.bel h hb.size
  obtain ⟨v', h1, _⟩ := t
  exact ⟨v', h1, hb.trans hb2⟩

def al8 : List Itm := [⟨5, 0, 1⟩, ⟨3, 0, 2⟩, ⟨3, 9, 3⟩]
theorem al8_puts : putsI [] al8 = [⟨3, 9, 3⟩, ⟨3, 0, 2⟩, ⟨5, 0, 1⟩] := by decide
theorem al8_due : dueI 9 [⟨3, 0, 2⟩, ⟨5, 0, 1⟩] = [⟨3, 0, 2⟩, ⟨5, 0, 1⟩] ∧ laterI 9 [⟨3, 0, 2⟩, ⟨5, 0, 1⟩] = [] := by decide
set_option maxRecDepth 100000 in
set_option maxHeartbeats 2000000 in
theorem alive8_any (w : World) : Calls Try.prog 6 #[] w fun e w' => e = .returned (.bool true) ∧ Below w.heap.size w w' := by
  obtain ⟨W1, hW1⟩ : ∃ W1, w.alloc (.cells #[.slice none 0 0] 28) = W1 := ⟨_, rfl⟩
  have hA := ag_new w
  rw [hW1] at hA
  have hb1 : Below w.heap.size w W1 := by rw [← hW1]; exact (Below.refl _ _).alloc (Nat.le_refl _) _
  have hz1 : W1.heap.size = w.heap.size + 1 := by rw [← hW1]; simp
  have KP : Calls Try.prog 8 #[.pointer (some ⟨w.heap.size, 0, none⟩), .slice (some ⟨w.heap.size + 1, 0, none⟩) 3 3] (W1.alloc (.cells #[.int .i64 5, .int .i64 0, .int .i64 1, .int .i64 3, .int .i64 0, .int .i64 2, .int .i64 3, .int .i64 9, .int .i64 3] 33)) fun e w' => e = .returned (.int .i64 3) ∧ AgTo W1 w.heap.size w.heap.size (.slice none 0 0) [⟨3, 9, 3⟩, ⟨3, 0, 2⟩, ⟨5, 0, 1⟩] w' := by
    have := agPut_new al8 3 w.heap.size w.heap.size (.slice none 0 0) [] W1 hA (by decide) (by decide)
    rw [al8_puts, hz1, show al8.length = 3 from rfl, show (itms al8).toArray = #[.int .i64 5, .int .i64 0, .int .i64 1, .int .i64 3, .int .i64 0, .int .i64 2, .int .i64 3, .int .i64 9, .int .i64 3] from rfl] at this
    exact this
  have KP := Lib.hid KP
  have HW := Lib.hid hW1; have HA := Lib.hid hA; have HB1 := Lib.hid hb1; have HZ1 := Lib.hid hz1
  clear hW1 hA hb1 hz1
  go_enter Try.func6, Try.ntmps6
  go_wp2_with fail
  rw [HW.out]
  go_wp2_with fail
  refine KP.out.mono ?_
  rintro e w2 ⟨rfl, T⟩
  have hb2 := HB1.out.trans (T.bel HA.out (by have := HZ1.out; omega))
  obtain ⟨v2, h2, _⟩ := T
  have HB2 := Lib.hid hb2
  have KN := Lib.hid (agNext_some h2)
  have HH2 := Lib.hid h2
  clear hb2 h2
  go_wp2_with fail
  refine KN.out.mono ?_
  rintro e w3 ⟨rfl, T⟩
  have hb3 := HB2.out.trans (T.to.bel HH2.out HB2.out.size)
  obtain ⟨v3, h3, _⟩ := T
  have HB3 := Lib.hid hb3
  have HH3 := Lib.hid h3
  clear hb3 h3
  go_wp2_with fail
  obtain ⟨W4, hW4⟩ : ∃ W4, w3.alloc (.cells #[.int .i64 3, .int .i64 9, .int .i64 3] 33) = W4 := ⟨_, rfl⟩
  have hx := heap_new w3 (.cells #[.int .i64 3, .int .i64 9, .int .i64 3] 33)
  rw [hW4] at hx
  have hb34 : Below w3.heap.size w3 W4 := by rw [← hW4]; exact (Below.refl _ _).alloc (Nat.le_refl _) _
  have hb4 := HB3.out.trans (hb34.mono HB3.out.size)
  have h4 := HH3.out.below hb34
  have KD := agDue_any 9 h4
  rw [al8_due.1, al8_due.2] at KD
  rw [hW4]
  have KD := Lib.hid KD; have HB4 := Lib.hid hb4; have HH4 := Lib.hid h4; have HX := Lib.hid hx
  have HAP : Hid (¬ InAg w.heap.size v3 w3.heap.size) := fun h => Nat.lt_irrefl _ (HH3.out.ltB _ h)
  clear hW4 hx hb34 hb4 h4
  refine KD.out.mono ?_
  rintro e w5 ⟨A, c, rfl, hown, T⟩
  have hb5 := HB4.out.trans (T.to.bel HH4.out HB4.out.size)
  obtain ⟨v5, h5, hbut, _⟩ := T
  have hx5 := (hbut.block _ (lt_of_blk HX.out) HAP.out).trans HX.out
  have x2 := cell_of hx5 2
  simp only [List.getElem?_toArray, List.getElem?_cons_zero, List.getElem?_cons_succ] at x2
  obtain ⟨g, cap, hv, _, _⟩ := hown.form (by decide)
  injection hv with hv _ _
  subst hv
  have d2 := own_cell (j := 2) (u := .int .i64 2) hown rfl
  have d5 := own_cell (j := 5) (u := .int .i64 1) hown rfl
  have KL := Lib.hid (agLen_any h5)
  have HB5 := Lib.hid hb5
  clear hown hb5 h5 hbut hx5
  go_wp2_with fail
  refine KL.out.mono ?_
  rintro e w6 ⟨rfl, rfl⟩
  go_wp2_with fail
  go_ret
  exact ⟨rfl, HB5.out⟩
end Go.Proofs.Ytafloaabjinkfaa
