/-
  Several texts, one behind the other: what each holds stands ahead of it.
-/
import Derived.Test.YtjlokkjbdgcooaaGreatMany2
import Derived.Test.YtjlokkjbdgcooaaGreatOwn
import Derived.BigQuiet

/-
  Journals: whether they may be. No code.
-/
namespace Go.Proofs.YtjlokkjbdgcooaaGreat
open Go.RowKit

structure Jrn where
  id : Int
  ent : Int
  per : Int
  ref : ByteArray
  lines : List Lin
  void : Bool
/-- A journal as a value; its lines lie at A. -/
def Jrn.val (j : Jrn) (A : Option Addr) (n c : Nat) : Value := .agg #[.int .i64 j.id, .int .i64 j.ent, .int .i64 j.per, .string j.ref, .slice A n c, .bool j.void]
def inB (n a b : Int) : Bool := decide (a ≤ n) && decide (n ≤ b)
def refB (c : UInt8) : Bool := decide (65 ≤ c.toNat ∧ c.toNat ≤ 90) || decide (48 ≤ c.toNat ∧ c.toNat ≤ 57)
def refAll (l : List UInt8) : Bool := l.all refB
def refOk (l : List UInt8) : Bool := decide (l.length ≤ 8) && refAll l
def lineOk (ent : Int) (l : Lin) : Bool := inB l.acct 1 9999 && !(l.amt == 0) && inB l.part 0 9 && !(l.part == ent)
def frontOk (j : Jrn) : Bool := inB j.id 1 999999 && inB j.ent 1 9 && okP j.per && refOk j.ref.data.toList
def linesAll (ent : Int) (l : List Lin) : Bool := l.all (lineOk ent)
def linesOk (j : Jrn) : Bool := inB j.lines.length 2 8 && linesAll j.ent j.lines
def fitsL (l : List Lin) : Bool := l.all fun x => fits1 x.amt
def sumA (l : List Lin) : Int := l.foldl (fun n x => n + x.amt) 0
def checkE (j : Jrn) : Int := if (frontOk j && linesOk j) = true then if fitsL j.lines = true then if sumA j.lines = 0 then 0 else 3 else 2 else 1

theorem inB_iff {n a b : Int} : inB n a b = true ↔ a ≤ n ∧ n ≤ b := by unfold inB; simp
theorem all_step {α : Type} {f : α → Bool} {l : List α} {k : Nat} {x : α} (h : (l.take k).all f = true) (hx : l[k]? = some x) (h1 : f x = true) : (l.take (k + 1)).all f = true := by
  obtain ⟨hk, rfl⟩ := List.getElem?_eq_some_iff.1 hx
  rw [List.take_succ_eq_append_getElem hk, List.all_append, h]
  simp [h1]
theorem all_no {α : Type} {f : α → Bool} {l : List α} {k : Nat} {x : α} (hx : l[k]? = some x) (h1 : f x = false) : l.all f = false := by
  obtain ⟨hk, rfl⟩ := List.getElem?_eq_some_iff.1 hx
  exact List.all_eq_false.2 ⟨_, List.getElem_mem hk, by simp [h1]⟩
theorem all_end {α : Type} {f : α → Bool} {l : List α} {k : Nat} (h : (l.take k).all f = true) (hk : l.length ≤ k) : l.all f = true := by rwa [List.take_of_length_le hk] at h
theorem sumA_step {l : List Lin} {k : Nat} {x : Lin} (hx : l[k]? = some x) : sumA (l.take (k + 1)) = sumA (l.take k) + x.amt := by
  obtain ⟨hk, rfl⟩ := List.getElem?_eq_some_iff.1 hx
  unfold sumA
  rw [List.take_succ_eq_append_getElem hk, List.foldl_append]; rfl
theorem fits1_iff {a : Int} : fits1 a = true ↔ -1000000000000000 ≤ a ∧ a ≤ 1000000000000000 := by unfold fits1; simp
theorem sumA_bound {l : List Lin} : ∀ (k : Nat), k ≤ l.length → (l.take k).all (fun x => fits1 x.amt) = true → -(1000000000000000 * (k : Int)) ≤ sumA (l.take k) ∧ sumA (l.take k) ≤ 1000000000000000 * (k : Int)
  | 0, _, _ => by simp [sumA]
  | k + 1, hk, h => by
    rw [List.take_succ_eq_append_getElem (by omega), List.all_append, Bool.and_eq_true] at h
    have ih := sumA_bound k (by omega) h.1
    have h2 := fits1_iff.1 (show fits1 (l[k]'(by omega)).amt = true by simpa using h.2)
    rw [sumA_step (List.getElem?_eq_getElem (by omega))]
    omega
theorem refAll_step {l : List UInt8} {k : Nat} {x : UInt8} (h : refAll (l.take k) = true) (hx : l[k]? = some x) (h1 : refB x = true) : refAll (l.take (k + 1)) = true := all_step h hx h1
theorem refAll_no {l : List UInt8} {k : Nat} {x : UInt8} (hx : l[k]? = some x) (h1 : refB x = false) : refAll l = false := all_no hx h1
theorem refAll_end {l : List UInt8} {k : Nat} (h : refAll (l.take k) = true) (hk : l.length ≤ k) : refAll l = true := all_end h hk
theorem linesAll_step {e : Int} {l : List Lin} {k : Nat} {x : Lin} (h : linesAll e (l.take k) = true) (hx : l[k]? = some x) (h1 : lineOk e x = true) : linesAll e (l.take (k + 1)) = true := all_step h hx h1
theorem linesAll_no {e : Int} {l : List Lin} {k : Nat} {x : Lin} (hx : l[k]? = some x) (h1 : lineOk e x = false) : linesAll e l = false := all_no hx h1
theorem linesAll_end {e : Int} {l : List Lin} {k : Nat} (h : linesAll e (l.take k) = true) (hk : l.length ≤ k) : linesAll e l = true := all_end h hk
theorem fitsL_step {l : List Lin} {k : Nat} {x : Lin} (h : fitsL (l.take k) = true) (hx : l[k]? = some x) (h1 : fits1 x.amt = true) : fitsL (l.take (k + 1)) = true := all_step h hx h1
theorem fitsL_no {l : List Lin} {k : Nat} {x : Lin} (hx : l[k]? = some x) (h1 : fits1 x.amt = false) : fitsL l = false := all_no (f := fun y : Lin => fits1 y.amt) hx h1
theorem fitsL_end {l : List Lin} {k : Nat} (h : fitsL (l.take k) = true) (hk : l.length ≤ k) : fitsL l = true := all_end h hk
/-- A journal in a block of its own. -/
def Jrn.cells (j : Jrn) (A : Option Addr) (n c : Nat) : Array Value := #[.int .i64 j.id, .int .i64 j.ent, .int .i64 j.per, .string j.ref, .slice A n c, .bool j.void]
theorem box_cell {w : World} {cs : Array Value} {T : TypeId} (i : Nat) : (w.alloc (.cells cs T)).cell? ⟨w.heap.size, i, none⟩ = cs[i]? := cell_of (heap_new w _) i
def Lin.ok64 (l : Lin) : Prop := (-9223372036854775808 ≤ l.acct ∧ l.acct ≤ 9223372036854775807) ∧ (-9223372036854775808 ≤ l.amt ∧ l.amt ≤ 9223372036854775807) ∧ (-9223372036854775808 ≤ l.part ∧ l.part ≤ 9223372036854775807)
def Jrn.ok64 (j : Jrn) : Prop := (-9223372036854775808 ≤ j.id ∧ j.id ≤ 9223372036854775807) ∧ (-9223372036854775808 ≤ j.ent ∧ j.ent ≤ 9223372036854775807) ∧ (-9223372036854775808 ≤ j.per ∧ j.per ≤ 9223372036854775807) ∧ ∀ l ∈ j.lines, l.ok64
def zeroJ : Jrn := ⟨0, 0, 0, ⟨#[]⟩, [], false⟩
/-- A journal in its block. -/
def JAt (w : World) (q : Nat) (j : Jrn) (A : Option Addr) (n c : Nat) : Prop := w.heap[q]? = some (.cells #[.int .i64 j.id, .int .i64 j.ent, .int .i64 j.per, .string j.ref, .slice A n c, .bool j.void] 111 (0, 0))
theorem six_cells {w : World} {b : Nat} {a0 a1 a2 a3 a4 a5 : Value} {T : TypeId} (h : w.heap[b]? = some (.cells #[a0, a1, a2, a3, a4, a5] T (0, 0))) :
    w.cell? ⟨b, 0, none⟩ = some a0 ∧ w.cell? ⟨b, 1, none⟩ = some a1 ∧ w.cell? ⟨b, 2, none⟩ = some a2 ∧ w.cell? ⟨b, 3, none⟩ = some a3 ∧ w.cell? ⟨b, 4, none⟩ = some a4 ∧ w.cell? ⟨b, 5, none⟩ = some a5 :=
  ⟨cell_of h 0, cell_of h 1, cell_of h 2, cell_of h 3, cell_of h 4, cell_of h 5⟩
theorem below_six {B b : Nat} {w w' : World} (h : Below B w w') (hb : B ≤ b) (v0 v1 v2 v3 v4 v5 : Value) : Below B w ((((((w'.setCell ⟨b, 0, none⟩ v0).setCell ⟨b, 1, none⟩ v1).setCell ⟨b, 2, none⟩ v2).setCell ⟨b, 3, none⟩ v3).setCell ⟨b, 4, none⟩ v4).setCell ⟨b, 5, none⟩ v5) :=
  (((((h.setCell hb v0).setCell hb v1).setCell hb v2).setCell hb v3).setCell hb v4).setCell hb v5

theorem own_six {w : World} {B n c b : Nat} {A : Option Addr} {xs : List Value} {T : TypeId} {size : Nat} (h : w.ownsRow B T size (.slice A n c) n xs) (hb : b < B) (v0 v1 v2 v3 v4 v5 : Value) : ((((((w.setCell ⟨b, 0, none⟩ v0).setCell ⟨b, 1, none⟩ v1).setCell ⟨b, 2, none⟩ v2).setCell ⟨b, 3, none⟩ v3).setCell ⟨b, 4, none⟩ v4).setCell ⟨b, 5, none⟩ v5).ownsRow B T size (.slice A n c) n xs := by
  refine own_kept h fun k hk ho => ?_
  have hge := own_ge h k ho
  have e : ∀ (w : World) (i : Nat) (v : Value), (w.setCell ⟨b, i, none⟩ v).heap[k]? = w.heap[k]? := fun w i v => Below.heap_setCell _ _ _ _ (by show k ≠ b; omega)
  rw [e, e, e, e, e, e]
end Go.Proofs.YtjlokkjbdgcooaaGreat

/-
  What stays where some blocks are written. No code.
-/
namespace Go.Proofs.YtjlokkjbdgcooaaGreat
open Go.RowKit

/-- All blocks but those of S stay. -/
structure But (S : Nat → Prop) (w w' : World) : Prop where
  os : w'.os = w.os
  tape : w'.tape = w.tape
  output : w'.output = w.output
  size : w.heap.size ≤ w'.heap.size
  block : ∀ k, k < w.heap.size → ¬ S k → w'.heap[k]? = w.heap[k]?
theorem But.refl (S : Nat → Prop) (w : World) : But S w w := ⟨rfl, rfl, rfl, Nat.le_refl _, fun _ _ _ => rfl⟩
theorem But.trans {S : Nat → Prop} {a b c : World} (h : But S a b) (k : But S b c) : But S a c :=
  ⟨k.os.trans h.os, k.tape.trans h.tape, k.output.trans h.output, Nat.le_trans h.size k.size, fun i hi hs => (k.block i (Nat.lt_of_lt_of_le hi h.size) hs).trans (h.block i hi hs)⟩
theorem But.wide {S T : Nat → Prop} {a b : World} (h : But S a b) (hs : ∀ k, k < a.heap.size → S k → T k) : But T a b := ⟨h.os, h.tape, h.output, h.size, fun i hi ht => h.block i hi fun hx => ht (hs i hi hx)⟩
theorem But.of_below {S : Nat → Prop} {a b : World} (h : Below a.heap.size a b) : But S a b := ⟨h.os, h.tape, h.output, h.size, fun i hi _ => h.block i hi⟩
theorem But.below {S : Nat → Prop} {a b : World} {B : Nat} (h : But S a b) (hs : ∀ k, k < a.heap.size → S k → B ≤ k) (hB : B ≤ a.heap.size) : Below B a b :=
  ⟨h.os, h.tape, h.output, h.size, fun i hi => h.block i (Nat.lt_of_lt_of_le hi hB) fun hx => by have := hs i (Nat.lt_of_lt_of_le hi hB) hx; omega⟩
/-- Of two ways one behind the other, the second of which writes blocks of its own beside. -/
theorem But.more {S T : Nat → Prop} {a b c : World} (h : But S a b) (k : But T b c) (hs : ∀ i, i < a.heap.size → T i → S i) : But S a c :=
  ⟨k.os.trans h.os, k.tape.trans h.tape, k.output.trans h.output, Nat.le_trans h.size k.size, fun i hi hn => (k.block i (Nat.lt_of_lt_of_le hi h.size) fun hx => hn (hs i hi hx)).trans (h.block i hi hn)⟩
theorem But.of_grown {a b : World} {row : Option Nat} (h : a.grownBy b row) : But (fun k => row = some k) a b := ⟨h.os, h.tape, h.output, h.size, fun i hi hn => h.block i hi fun e => hn e.symm⟩
end Go.Proofs.YtjlokkjbdgcooaaGreat

/-
  Contracts of trial's mayBe, covers, lines.
-/
namespace Go.Proofs.YtjlokkjbdgcooaaGreat
open Go.RowKit

/-- What a balance is of. -/
structure OfT where
  ent : Int
  frm : Int
  til : Int
def OfT.val (o : OfT) : Value := .agg #[.int .i64 o.ent, .int .i64 o.frm, .int .i64 o.til]
def mayO (o : OfT) : Bool := inB o.ent 1 9 && (okP o.frm && okP o.til) && decide (o.frm ≤ o.til)
def covO (o : OfT) (j : Jrn) : Bool := !j.void && decide (j.ent = o.ent) && decide (o.frm ≤ j.per) && decide (j.per ≤ o.til)
set_option maxRecDepth 100000 in
set_option maxHeartbeats 1000000 in
theorem mayBe_any' (o : OfT) (w : World) : Calls Tryz.prog 117 #[o.val] w fun e w' => e = .returned (.bool (mayO o)) ∧ Below w.heap.size w w' := by
  obtain ⟨W, hW⟩ : ∃ W, w.alloc (.cells #[.int .i64 o.ent, .int .i64 o.frm, .int .i64 o.til] 80) = W := ⟨_, rfl⟩
  have hb : Below w.heap.size w W := by rw [← hW]; exact (Below.refl _ _).alloc (Nat.le_refl _) _
  have HW := Lib.hid hW; have HB := Lib.hid hb
  have x0 : W.cell? ⟨w.heap.size, 0, none⟩ = some (.int .i64 o.ent) := by rw [← hW]; exact box_cell 0
  have x1 : W.cell? ⟨w.heap.size, 1, none⟩ = some (.int .i64 o.frm) := by rw [← hW]; exact box_cell 1
  have x2 : W.cell? ⟨w.heap.size, 2, none⟩ = some (.int .i64 o.til) := by rw [← hW]; exact box_cell 2
  have hz : W.heap.size = w.heap.size + 1 := by rw [← hW]; simp
  obtain ⟨W2, hW2⟩ : ∃ W2, W.alloc (.cells #[.int .i64 o.frm, .int .i64 o.til] 3) = W2 := ⟨_, rfl⟩
  have HW2 := Lib.hid hW2
  have kv := valid_two o.frm o.til W (T := 3)
  rw [hW2, hz] at kv
  have KV := Lib.hid kv
  have hb2 : Below w.heap.size w W2 := by rw [← hW2]; exact hb.alloc (by omega) _
  have HB2 := Lib.hid hb2
  have y1 : W2.cell? ⟨w.heap.size, 1, none⟩ = some (.int .i64 o.frm) := by rw [← hW2]; exact ((Below.refl W.heap.size W).alloc (Nat.le_refl _) _).cell (p := ⟨w.heap.size, 1, none⟩) (by show w.heap.size < W.heap.size; omega) |>.trans x1
  have y2 : W2.cell? ⟨w.heap.size, 2, none⟩ = some (.int .i64 o.til) := by rw [← hW2]; exact ((Below.refl W.heap.size W).alloc (Nat.le_refl _) _).cell (p := ⟨w.heap.size, 2, none⟩) (by show w.heap.size < W.heap.size; omega) |>.trans x2
  clear hW hb hW2 hb2 kv
  unfold OfT.val
  obtain ⟨ent, frm, til⟩ := o
  dsimp only at *
  go_enter Tryz.func117, Tryz.ntmps117
  by_cases h1 : 1 ≤ ent
  · by_cases h2 : ent ≤ 9
    · go_wp2_with fail
      rw [HW.out, HW2.out]
      refine KV.out.mono ?_
      rintro e w3 ⟨rfl, rfl⟩
      cases hv : (okP frm && okP til)
      · go_wp2_with fail
        go_ret
        exact ⟨ret_bool (by unfold mayO; dsimp only; rw [hv]; simp), HB2.out⟩
      · by_cases h3 : frm ≤ til
        · go_wp2_with fail
          go_ret
          exact ⟨ret_bool (by unfold mayO inB; dsimp only; rw [hv, decide_eq_true h1, decide_eq_true h2]; simp [h3]), HB2.out⟩
        · go_wp2_with fail
          go_ret
          exact ⟨ret_bool (by unfold mayO inB; dsimp only; rw [hv, decide_eq_true h1, decide_eq_true h2]; simp [h3]), HB2.out⟩
    · go_wp2_with fail
      go_ret
      rw [HW.out]
      exact ⟨ret_bool (by unfold mayO inB; dsimp only; rw [decide_eq_false (show ¬ ent ≤ 9 by omega)]; simp), HB.out⟩
  · go_wp2_with fail
    go_ret
    rw [HW.out]
    exact ⟨ret_bool (by unfold mayO inB; dsimp only; rw [decide_eq_false (show ¬ 1 ≤ ent by omega)]; simp), HB.out⟩

theorem cell_two {W : World} {b i : Nat} {v : Value} (o : Obj) (h : W.cell? ⟨b, i, none⟩ = some v) : (W.alloc o).cell? ⟨b, i, none⟩ = some v := ((Below.refl W.heap.size W).alloc (Nat.le_refl _) o).cell (p := ⟨b, i, none⟩) (block_of_cell h) |>.trans h
set_option maxRecDepth 100000 in
set_option maxHeartbeats 1000000 in
theorem covers_any (o : OfT) (j : Jrn) (A : Option Addr) (n c : Nat) (w : World) : Calls Tryz.prog 169 #[o.val, j.val A n c] w fun e w' => e = .returned (.bool (covO o j)) ∧ Below w.heap.size w w' := by
  obtain ⟨W, hW⟩ : ∃ W, w.alloc (.cells #[.int .i64 o.ent, .int .i64 o.frm, .int .i64 o.til] 80) = W := ⟨_, rfl⟩
  have hz : W.heap.size = w.heap.size + 1 := by rw [← hW]; simp
  obtain ⟨W2, hW2⟩ : ∃ W2, W.alloc (.cells #[.int .i64 j.id, .int .i64 j.ent, .int .i64 j.per, .string j.ref, .slice A n c, .bool j.void] 111) = W2 := ⟨_, rfl⟩
  have hb2 : Below w.heap.size w W2 := by rw [← hW2, ← hW]; exact ((Below.refl _ _).alloc (Nat.le_refl _) _).alloc (by simp) _
  have HW := Lib.hid hW; have HW2 := Lib.hid hW2; have HB2 := Lib.hid hb2
  clear hW hb2 hW2
  unfold OfT.val Jrn.val
  obtain ⟨ent, frm, til⟩ := o
  obtain ⟨jid, jent, jper, jref, jl, void⟩ := j
  dsimp only at *
  have HC : Hid (∀ a b c d : Bool, (!void) = a → (jent == ent) = b → decide (frm ≤ jper) = c → decide (jper ≤ til) = d → covO ⟨ent, frm, til⟩ ⟨jid, jent, jper, jref, jl, void⟩ = (a && b && c && d)) := by
    rintro a b c d rfl rfl rfl rfl
    unfold covO
    dsimp only
    rw [show decide (jent = ent) = (jent == ent) by rw [Bool.eq_iff_iff]; simp]
  go_enter Tryz.func169, Tryz.ntmps169
  cases void
  · by_cases h1 : jent = ent
    · have e1 : (jent == ent) = true := beq_iff_eq.2 h1
      have H1 := Lib.hid h1
      clear h1
      by_cases h2 : frm ≤ jper
      · by_cases h3 : jper ≤ til
        · go_wp2_with fail
          go_ret
          rw [HW.out, HW2.out]
          exact ⟨ret_bool (by rw [HC.out true true true true rfl e1 (decide_eq_true h2) (decide_eq_true h3)]; rfl), HB2.out⟩
        · go_wp2_with fail
          go_ret
          rw [HW.out, HW2.out]
          exact ⟨ret_bool (by rw [HC.out true true true false rfl e1 (decide_eq_true h2) (decide_eq_false (by omega))]; rfl), HB2.out⟩
      · go_wp2_with fail
        go_ret
        rw [HW.out, HW2.out]
        exact ⟨ret_bool (by rw [HC.out true true false _ rfl e1 (decide_eq_false (by omega)) rfl]; rfl), HB2.out⟩
    · have e1 : (jent == ent) = false := beq_eq_false_iff_ne.2 h1
      have H1 := Lib.hid h1
      clear h1
      go_wp2_with fail
      go_ret
      rw [HW.out, HW2.out]
      exact ⟨ret_bool (by rw [HC.out true false _ _ rfl e1 rfl rfl]; rfl), HB2.out⟩
  · go_wp2_with fail
    go_ret
    rw [HW.out, HW2.out]
    exact ⟨ret_bool (by rw [HC.out false _ _ _ rfl rfl rfl rfl]; simp), HB2.out⟩

set_option maxRecDepth 100000 in
set_option maxHeartbeats 1000000 in
theorem linesO_any (o : OfT) (j : Jrn) (A : Option Addr) (n c : Nat) (w : World) : Calls Tryz.prog 119 #[o.val, j.val A n c] w fun e w' => e = .returned (if covO o j = true then .slice A n c else .slice none 0 0) ∧ Below w.heap.size w w' := by
  obtain ⟨W, hW⟩ : ∃ W, w.alloc (.cells #[.int .i64 o.ent, .int .i64 o.frm, .int .i64 o.til] 80) = W := ⟨_, rfl⟩
  have hz : W.heap.size = w.heap.size + 1 := by rw [← hW]; simp
  obtain ⟨W2, hW2⟩ : ∃ W2, W.alloc (.cells #[.int .i64 j.id, .int .i64 j.ent, .int .i64 j.per, .string j.ref, .slice A n c, .bool j.void] 111) = W2 := ⟨_, rfl⟩
  have hb2 : Below w.heap.size w W2 := by rw [← hW2, ← hW]; exact ((Below.refl _ _).alloc (Nat.le_refl _) _).alloc (by simp) _
  have hx4 : W2.cell? ⟨w.heap.size + 1, 4, none⟩ = some (.slice A n c) := by
    have : W2.cell? ⟨W.heap.size, 4, none⟩ = some (.slice A n c) := by rw [← hW2]; exact box_cell 4
    rwa [hz] at this
  have HW := Lib.hid hW; have HW2 := Lib.hid hW2; have HB2 := Lib.hid hb2
  have HX := Lib.hid hx4
  have KC := Lib.hid (covers_any o j A n c W2)
  clear hW hb2 hW2 hx4
  generalize covO o j = cv at *
  unfold OfT.val Jrn.val at *
  go_enter Tryz.func119, Tryz.ntmps119
  go_wp2_with fail
  rw [HW.out, HW2.out]
  refine KC.out.mono ?_
  rintro e w3 ⟨rfl, hb3⟩
  have HB3 := Lib.hid (HB2.out.trans (hb3.mono HB2.out.size))
  have hz2 : W2.heap.size = w.heap.size + 2 := by rw [← HW2.out]; simp [hz]
  have hx3 := (hb3.cell (p := ⟨w.heap.size + 1, 4, none⟩) (by show w.heap.size + 1 < W2.heap.size; omega)).trans HX.out
  clear hb3 KC
  cases cv
  · go_wp2_with fail
    go_ret
    exact ⟨rfl, HB3.out⟩
  · go_wp2_with fail
    go_ret
    exact ⟨rfl, HB3.out⟩
end Go.Proofs.YtjlokkjbdgcooaaGreat
