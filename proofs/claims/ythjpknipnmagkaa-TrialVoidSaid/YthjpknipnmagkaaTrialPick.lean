/-
  Contracts of trial's mayBe, covers, lines.
-/
import Derived.Test.YthjpknipnmagkaaMany2
import Derived.BigQuiet
namespace Go.Proofs.Ythjpknipnmagkaa
open Go.RowKit

/-- What a balance is of. -/
structure OfT where
  ent : Int
  frm : Int
  til : Int
def OfT.val (o : OfT) : Value := .agg #[.int .i64 o.ent, .int .i64 o.frm, .int .i64 o.til]
def mayO (o : OfT) : Bool := inB o.ent 1 9 && (okP o.frm && okP o.til) && decide (o.frm ≤ o.til)
def covO (o : OfT) (j : Jrn) : Bool := !j.void && decide (j.ent = o.ent) && decide (o.frm ≤ j.per) && decide (j.per ≤ o.til)
set_option maxRecDepth 100000 in
set_option maxHeartbeats 1000000 in
theorem mayBe_any' (o : OfT) (w : World) : Calls Try.prog 44 #[o.val] w fun e w' => e = .returned (.bool (mayO o)) ∧ Below w.heap.size w w' := by
  obtain ⟨W, hW⟩ : ∃ W, w.alloc (.cells #[.int .i64 o.ent, .int .i64 o.frm, .int .i64 o.til] 55) = W := ⟨_, rfl⟩
  have hb : Below w.heap.size w W := by rw [← hW]; exact (Below.refl _ _).alloc (Nat.le_refl _) _
  have HW := Lib.hid hW; have HB := Lib.hid hb
  have x0 : W.cell? ⟨w.heap.size, 0, none⟩ = some (.int .i64 o.ent) := by rw [← hW]; exact box_cell 0
  have x1 : W.cell? ⟨w.heap.size, 1, none⟩ = some (.int .i64 o.frm) := by rw [← hW]; exact box_cell 1
  have x2 : W.cell? ⟨w.heap.size, 2, none⟩ = some (.int .i64 o.til) := by rw [← hW]; exact box_cell 2
  have hz : W.heap.size = w.heap.size + 1 := by rw [← hW]; simp
  obtain ⟨W2, hW2⟩ : ∃ W2, W.alloc (.cells #[.int .i64 o.frm, .int .i64 o.til] 3) = W2 := ⟨_, rfl⟩
  have HW2 := Lib.hid hW2
  have kv := valid_two o.frm o.til W (T := 3)
  rw [hW2, hz] at kv
  have KV := Lib.hid kv
  have hb2 : Below w.heap.size w W2 := by rw [← hW2]; exact hb.alloc (by omega) _
  have HB2 := Lib.hid hb2
  have y1 : W2.cell? ⟨w.heap.size, 1, none⟩ = some (.int .i64 o.frm) := by rw [← hW2]; exact ((Below.refl W.heap.size W).alloc (Nat.le_refl _) _).cell (p := ⟨w.heap.size, 1, none⟩) (by show w.heap.size < W.heap.size; omega) |>.trans x1
  have y2 : W2.cell? ⟨w.heap.size, 2, none⟩ = some (.int .i64 o.til) := by rw [← hW2]; exact ((Below.refl W.heap.size W).alloc (Nat.le_refl _) _).cell (p := ⟨w.heap.size, 2, none⟩) (by show w.heap.size < W.heap.size; omega) |>.trans x2
  clear hW hb hW2 hb2 kv
  unfold OfT.val
  obtain ⟨ent, frm, til⟩ := o
  dsimp only at *
  go_enter Try.func44, Try.ntmps44
  by_cases h1 : 1 ≤ ent
  · by_cases h2 : ent ≤ 9
    · go_wp2_with fail
      rw [HW.out, HW2.out]
      refine KV.out.mono ?_
      rintro e w3 ⟨rfl, rfl⟩
      cases hv : (okP frm && okP til)
      · go_wp2_with fail
        go_ret
        exact ⟨ret_bool (by unfold mayO; dsimp only; rw [hv]; simp), HB2.out⟩
      · by_cases h3 : frm ≤ til
        · go_wp2_with fail
          go_ret
          exact ⟨ret_bool (by unfold mayO inB; dsimp only; rw [hv, decide_eq_true h1, decide_eq_true h2]; simp [h3]), HB2.out⟩
        · go_wp2_with fail
          go_ret
          exact ⟨ret_bool (by unfold mayO inB; dsimp only; rw [hv, decide_eq_true h1, decide_eq_true h2]; simp [h3]), HB2.out⟩
    · go_wp2_with fail
      go_ret
      rw [HW.out]
      exact ⟨ret_bool (by unfold mayO inB; dsimp only; rw [decide_eq_false (show ¬ ent ≤ 9 by omega)]; simp), HB.out⟩
  · go_wp2_with fail
    go_ret
    rw [HW.out]
    exact ⟨ret_bool (by unfold mayO inB; dsimp only; rw [decide_eq_false (show ¬ 1 ≤ ent by omega)]; simp), HB.out⟩

theorem cell_two {W : World} {b i : Nat} {v : Value} (o : Obj) (h : W.cell? ⟨b, i, none⟩ = some v) : (W.alloc o).cell? ⟨b, i, none⟩ = some v := ((Below.refl W.heap.size W).alloc (Nat.le_refl _) o).cell (p := ⟨b, i, none⟩) (block_of_cell h) |>.trans h
set_option maxRecDepth 100000 in
set_option maxHeartbeats 1000000 in
theorem covers_any (o : OfT) (j : Jrn) (A : Option Addr) (n c : Nat) (w : World) : Calls Try.prog 73 #[o.val, j.val A n c] w fun e w' => e = .returned (.bool (covO o j)) ∧ Below w.heap.size w w' := by
  obtain ⟨W, hW⟩ : ∃ W, w.alloc (.cells #[.int .i64 o.ent, .int .i64 o.frm, .int .i64 o.til] 55) = W := ⟨_, rfl⟩
  have hz : W.heap.size = w.heap.size + 1 := by rw [← hW]; simp
  obtain ⟨W2, hW2⟩ : ∃ W2, W.alloc (.cells #[.int .i64 j.id, .int .i64 j.ent, .int .i64 j.per, .string j.ref, .slice A n c, .bool j.void] 38) = W2 := ⟨_, rfl⟩
  have hb2 : Below w.heap.size w W2 := by rw [← hW2, ← hW]; exact ((Below.refl _ _).alloc (Nat.le_refl _) _).alloc (by simp) _
  have HW := Lib.hid hW; have HW2 := Lib.hid hW2; have HB2 := Lib.hid hb2
  clear hW hb2 hW2
  unfold OfT.val Jrn.val
  obtain ⟨ent, frm, til⟩ := o
  obtain ⟨jid, jent, jper, jref, jl, void⟩ := j
  dsimp only at *
  have HC : Hid (∀ a b c d : Bool, (!void) = a → (jent == ent) = b → decide (frm ≤ jper) = c → decide (jper ≤ til) = d → covO ⟨ent, frm, til⟩ ⟨jid, jent, jper, jref, jl, void⟩ = (a && b && c && d)) := by
    rintro a b c d rfl rfl rfl rfl
    unfold covO
    dsimp only
    rw [show decide (jent = ent) = (jent == ent) by rw [Bool.eq_iff_iff]; simp]
  go_enter Try.func73, Try.ntmps73
  cases void
  · by_cases h1 : jent = ent
    · have e1 : (jent == ent) = true := beq_iff_eq.2 h1
      have H1 := Lib.hid h1
      clear h1
      by_cases h2 : frm ≤ jper
      · by_cases h3 : jper ≤ til
        · go_wp2_with fail
          go_ret
          rw [HW.out, HW2.out]
          exact ⟨ret_bool (by rw [HC.out true true true true rfl e1 (decide_eq_true h2) (decide_eq_true h3)]; rfl), HB2.out⟩
        · go_wp2_with fail
          go_ret
          rw [HW.out, HW2.out]
          exact ⟨ret_bool (by rw [HC.out true true true false rfl e1 (decide_eq_true h2) (decide_eq_false (by omega))]; rfl), HB2.out⟩
      · go_wp2_with fail
        go_ret
        rw [HW.out, HW2.out]
        exact ⟨ret_bool (by rw [HC.out true true false _ rfl e1 (decide_eq_false (by omega)) rfl]; rfl), HB2.out⟩
    · have e1 : (jent == ent) = false := beq_eq_false_iff_ne.2 h1
      have H1 := Lib.hid h1
      clear h1
      go_wp2_with fail
      go_ret
      rw [HW.out, HW2.out]
      exact ⟨ret_bool (by rw [HC.out true false _ _ rfl e1 rfl rfl]; rfl), HB2.out⟩
  · go_wp2_with fail
    go_ret
    rw [HW.out, HW2.out]
    exact ⟨ret_bool (by rw [HC.out false _ _ _ rfl rfl rfl rfl]; simp), HB2.out⟩

set_option maxRecDepth 100000 in
set_option maxHeartbeats 1000000 in
theorem linesO_any (o : OfT) (j : Jrn) (A : Option Addr) (n c : Nat) (w : World) : Calls Try.prog 46 #[o.val, j.val A n c] w fun e w' => e = .returned (if covO o j = true then .slice A n c else .slice none 0 0) ∧ Below w.heap.size w w' := by
  obtain ⟨W, hW⟩ : ∃ W, w.alloc (.cells #[.int .i64 o.ent, .int .i64 o.frm, .int .i64 o.til] 55) = W := ⟨_, rfl⟩
  have hz : W.heap.size = w.heap.size + 1 := by rw [← hW]; simp
  obtain ⟨W2, hW2⟩ : ∃ W2, W.alloc (.cells #[.int .i64 j.id, .int .i64 j.ent, .int .i64 j.per, .string j.ref, .slice A n c, .bool j.void] 38) = W2 := ⟨_, rfl⟩
  have hb2 : Below w.heap.size w W2 := by rw [← hW2, ← hW]; exact ((Below.refl _ _).alloc (Nat.le_refl _) _).alloc (by simp) _
  have hx4 : W2.cell? ⟨w.heap.size + 1, 4, none⟩ = some (.slice A n c) := by
    have : W2.cell? ⟨W.heap.size, 4, none⟩ = some (.slice A n c) := by rw [← hW2]; exact box_cell 4
    rwa [hz] at this
  have HW := Lib.hid hW; have HW2 := Lib.hid hW2; have HB2 := Lib.hid hb2
  have HX := Lib.hid hx4
  have KC := Lib.hid (covers_any o j A n c W2)
  clear hW hb2 hW2 hx4
  generalize covO o j = cv at *
  unfold OfT.val Jrn.val at *
  go_enter Try.func46, Try.ntmps46
  go_wp2_with fail
  rw [HW.out, HW2.out]
  refine KC.out.mono ?_
  rintro e w3 ⟨rfl, hb3⟩
  have HB3 := Lib.hid (HB2.out.trans (hb3.mono HB2.out.size))
  have hz2 : W2.heap.size = w.heap.size + 2 := by rw [← HW2.out]; simp [hz]
  have hx3 := (hb3.cell (p := ⟨w.heap.size + 1, 4, none⟩) (by show w.heap.size + 1 < W2.heap.size; omega)).trans HX.out
  clear hb3 KC
  cases cv
  · go_wp2_with fail
    go_ret
    exact ⟨rfl, HB3.out⟩
  · go_wp2_with fail
    go_ret
    exact ⟨rfl, HB3.out⟩
end Go.Proofs.Ythjpknipnmagkaa

