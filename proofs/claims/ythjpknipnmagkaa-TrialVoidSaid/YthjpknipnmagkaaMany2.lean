/-
  Several texts, one behind the other: what each holds stands ahead of it.
-/
import Derived.Test.YthjpknipnmagkaaMany1
import Derived.Test.YthjpknipnmagkaaOwn

/-
  Journals: whether they may be. No code.
-/
namespace Go.Proofs.Ythjpknipnmagkaa
open Go.RowKit

structure Jrn where
  id : Int
  ent : Int
  per : Int
  ref : ByteArray
  lines : List Lin
  void : Bool
/-- A journal as a value; its lines lie at A. -/
def Jrn.val (j : Jrn) (A : Option Addr) (n c : Nat) : Value := .agg #[.int .i64 j.id, .int .i64 j.ent, .int .i64 j.per, .string j.ref, .slice A n c, .bool j.void]
def inB (n a b : Int) : Bool := decide (a ≤ n) && decide (n ≤ b)
def refB (c : UInt8) : Bool := decide (65 ≤ c.toNat ∧ c.toNat ≤ 90) || decide (48 ≤ c.toNat ∧ c.toNat ≤ 57)
def refAll (l : List UInt8) : Bool := l.all refB
def refOk (l : List UInt8) : Bool := decide (l.length ≤ 8) && refAll l
def lineOk (ent : Int) (l : Lin) : Bool := inB l.acct 1 9999 && !(l.amt == 0) && inB l.part 0 9 && !(l.part == ent)
def frontOk (j : Jrn) : Bool := inB j.id 1 999999 && inB j.ent 1 9 && okP j.per && refOk j.ref.data.toList
def linesAll (ent : Int) (l : List Lin) : Bool := l.all (lineOk ent)
def linesOk (j : Jrn) : Bool := inB j.lines.length 2 8 && linesAll j.ent j.lines
def fitsL (l : List Lin) : Bool := l.all fun x => fits1 x.amt
def sumA (l : List Lin) : Int := l.foldl (fun n x => n + x.amt) 0
def checkE (j : Jrn) : Int := if (frontOk j && linesOk j) = true then if fitsL j.lines = true then if sumA j.lines = 0 then 0 else 3 else 2 else 1

theorem inB_iff {n a b : Int} : inB n a b = true ↔ a ≤ n ∧ n ≤ b := by unfold inB; simp
theorem all_step {α : Type} {f : α → Bool} {l : List α} {k : Nat} {x : α} (h : (l.take k).all f = true) (hx : l[k]? = some x) (h1 : f x = true) : (l.take (k + 1)).all f = true := by
  obtain ⟨hk, rfl⟩ := List.getElem?_eq_some_iff.1 hx
  rw [List.take_succ_eq_append_getElem hk, List.all_append, h]
  simp [h1]
theorem all_no {α : Type} {f : α → Bool} {l : List α} {k : Nat} {x : α} (hx : l[k]? = some x) (h1 : f x = false) : l.all f = false := by
  obtain ⟨hk, rfl⟩ := List.getElem?_eq_some_iff.1 hx
  exact List.all_eq_false.2 ⟨_, List.getElem_mem hk, by simp [h1]⟩
theorem all_end {α : Type} {f : α → Bool} {l : List α} {k : Nat} (h : (l.take k).all f = true) (hk : l.length ≤ k) : l.all f = true := by rwa [List.take_of_length_le hk] at h
theorem sumA_step {l : List Lin} {k : Nat} {x : Lin} (hx : l[k]? = some x) : sumA (l.take (k + 1)) = sumA (l.take k) + x.amt := by
  obtain ⟨hk, rfl⟩ := List.getElem?_eq_some_iff.1 hx
  unfold sumA
  rw [List.take_succ_eq_append_getElem hk, List.foldl_append]; rfl
theorem fits1_iff {a : Int} : fits1 a = true ↔ -1000000000000000 ≤ a ∧ a ≤ 1000000000000000 := by unfold fits1; simp
theorem sumA_bound {l : List Lin} : ∀ (k : Nat), k ≤ l.length → (l.take k).all (fun x => fits1 x.amt) = true → -(1000000000000000 * (k : Int)) ≤ sumA (l.take k) ∧ sumA (l.take k) ≤ 1000000000000000 * (k : Int)
  | 0, _, _ => by simp [sumA]
  | k + 1, hk, h => by
    rw [List.take_succ_eq_append_getElem (by omega), List.all_append, Bool.and_eq_true] at h
    have ih := sumA_bound k (by omega) h.1
    have h2 := fits1_iff.1 (show fits1 (l[k]'(by omega)).amt = true by simpa using h.2)
    rw [sumA_step (List.getElem?_eq_getElem (by omega))]
    omega
theorem refAll_step {l : List UInt8} {k : Nat} {x : UInt8} (h : refAll (l.take k) = true) (hx : l[k]? = some x) (h1 : refB x = true) : refAll (l.take (k + 1)) = true := all_step h hx h1
theorem refAll_no {l : List UInt8} {k : Nat} {x : UInt8} (hx : l[k]? = some x) (h1 : refB x = false) : refAll l = false := all_no hx h1
theorem refAll_end {l : List UInt8} {k : Nat} (h : refAll (l.take k) = true) (hk : l.length ≤ k) : refAll l = true := all_end h hk
theorem linesAll_step {e : Int} {l : List Lin} {k : Nat} {x : Lin} (h : linesAll e (l.take k) = true) (hx : l[k]? = some x) (h1 : lineOk e x = true) : linesAll e (l.take (k + 1)) = true := all_step h hx h1
theorem linesAll_no {e : Int} {l : List Lin} {k : Nat} {x : Lin} (hx : l[k]? = some x) (h1 : lineOk e x = false) : linesAll e l = false := all_no hx h1
theorem linesAll_end {e : Int} {l : List Lin} {k : Nat} (h : linesAll e (l.take k) = true) (hk : l.length ≤ k) : linesAll e l = true := all_end h hk
theorem fitsL_step {l : List Lin} {k : Nat} {x : Lin} (h : fitsL (l.take k) = true) (hx : l[k]? = some x) (h1 : fits1 x.amt = true) : fitsL (l.take (k + 1)) = true := all_step h hx h1
theorem fitsL_no {l : List Lin} {k : Nat} {x : Lin} (hx : l[k]? = some x) (h1 : fits1 x.amt = false) : fitsL l = false := all_no (f := fun y : Lin => fits1 y.amt) hx h1
theorem fitsL_end {l : List Lin} {k : Nat} (h : fitsL (l.take k) = true) (hk : l.length ≤ k) : fitsL l = true := all_end h hk
/-- A journal in a block of its own. -/
def Jrn.cells (j : Jrn) (A : Option Addr) (n c : Nat) : Array Value := #[.int .i64 j.id, .int .i64 j.ent, .int .i64 j.per, .string j.ref, .slice A n c, .bool j.void]
theorem box_cell {w : World} {cs : Array Value} {T : TypeId} (i : Nat) : (w.alloc (.cells cs T)).cell? ⟨w.heap.size, i, none⟩ = cs[i]? := cell_of (heap_new w _) i
def Lin.ok64 (l : Lin) : Prop := (-9223372036854775808 ≤ l.acct ∧ l.acct ≤ 9223372036854775807) ∧ (-9223372036854775808 ≤ l.amt ∧ l.amt ≤ 9223372036854775807) ∧ (-9223372036854775808 ≤ l.part ∧ l.part ≤ 9223372036854775807)
def Jrn.ok64 (j : Jrn) : Prop := (-9223372036854775808 ≤ j.id ∧ j.id ≤ 9223372036854775807) ∧ (-9223372036854775808 ≤ j.ent ∧ j.ent ≤ 9223372036854775807) ∧ (-9223372036854775808 ≤ j.per ∧ j.per ≤ 9223372036854775807) ∧ ∀ l ∈ j.lines, l.ok64
def zeroJ : Jrn := ⟨0, 0, 0, ⟨#[]⟩, [], false⟩
/-- A journal in its block. -/
def JAt (w : World) (q : Nat) (j : Jrn) (A : Option Addr) (n c : Nat) : Prop := w.heap[q]? = some (.cells #[.int .i64 j.id, .int .i64 j.ent, .int .i64 j.per, .string j.ref, .slice A n c, .bool j.void] 38 (0, 0))
theorem six_cells {w : World} {b : Nat} {a0 a1 a2 a3 a4 a5 : Value} {T : TypeId} (h : w.heap[b]? = some (.cells #[a0, a1, a2, a3, a4, a5] T (0, 0))) :
    w.cell? ⟨b, 0, none⟩ = some a0 ∧ w.cell? ⟨b, 1, none⟩ = some a1 ∧ w.cell? ⟨b, 2, none⟩ = some a2 ∧ w.cell? ⟨b, 3, none⟩ = some a3 ∧ w.cell? ⟨b, 4, none⟩ = some a4 ∧ w.cell? ⟨b, 5, none⟩ = some a5 :=
  ⟨cell_of h 0, cell_of h 1, cell_of h 2, cell_of h 3, cell_of h 4, cell_of h 5⟩
theorem below_six {B b : Nat} {w w' : World} (h : Below B w w') (hb : B ≤ b) (v0 v1 v2 v3 v4 v5 : Value) : Below B w ((((((w'.setCell ⟨b, 0, none⟩ v0).setCell ⟨b, 1, none⟩ v1).setCell ⟨b, 2, none⟩ v2).setCell ⟨b, 3, none⟩ v3).setCell ⟨b, 4, none⟩ v4).setCell ⟨b, 5, none⟩ v5) :=
  (((((h.setCell hb v0).setCell hb v1).setCell hb v2).setCell hb v3).setCell hb v4).setCell hb v5

theorem own_six {w : World} {B n c b : Nat} {A : Option Addr} {xs : List Value} {T : TypeId} {size : Nat} (h : w.ownsRow B T size (.slice A n c) n xs) (hb : b < B) (v0 v1 v2 v3 v4 v5 : Value) : ((((((w.setCell ⟨b, 0, none⟩ v0).setCell ⟨b, 1, none⟩ v1).setCell ⟨b, 2, none⟩ v2).setCell ⟨b, 3, none⟩ v3).setCell ⟨b, 4, none⟩ v4).setCell ⟨b, 5, none⟩ v5).ownsRow B T size (.slice A n c) n xs := by
  refine own_kept h fun k hk ho => ?_
  have hge := own_ge h k ho
  have e : ∀ (w : World) (i : Nat) (v : Value), (w.setCell ⟨b, i, none⟩ v).heap[k]? = w.heap[k]? := fun w i v => Below.heap_setCell _ _ _ _ (by show k ≠ b; omega)
  rw [e, e, e, e, e, e]
end Go.Proofs.Ythjpknipnmagkaa

/-
  What stays where some blocks are written. No code.
-/
namespace Go.Proofs.Ythjpknipnmagkaa
open Go.RowKit

/-- All blocks but those of S stay. -/
structure But (S : Nat → Prop) (w w' : World) : Prop where
  os : w'.os = w.os
  tape : w'.tape = w.tape
  output : w'.output = w.output
  size : w.heap.size ≤ w'.heap.size
  block : ∀ k, k < w.heap.size → ¬ S k → w'.heap[k]? = w.heap[k]?
theorem But.refl (S : Nat → Prop) (w : World) : But S w w := ⟨rfl, rfl, rfl, Nat.le_refl _, fun _ _ _ => rfl⟩
theorem But.trans {S : Nat → Prop} {a b c : World} (h : But S a b) (k : But S b c) : But S a c :=
  ⟨k.os.trans h.os, k.tape.trans h.tape, k.output.trans h.output, Nat.le_trans h.size k.size, fun i hi hs => (k.block i (Nat.lt_of_lt_of_le hi h.size) hs).trans (h.block i hi hs)⟩
theorem But.wide {S T : Nat → Prop} {a b : World} (h : But S a b) (hs : ∀ k, k < a.heap.size → S k → T k) : But T a b := ⟨h.os, h.tape, h.output, h.size, fun i hi ht => h.block i hi fun hx => ht (hs i hi hx)⟩
theorem But.of_below {S : Nat → Prop} {a b : World} (h : Below a.heap.size a b) : But S a b := ⟨h.os, h.tape, h.output, h.size, fun i hi _ => h.block i hi⟩
theorem But.below {S : Nat → Prop} {a b : World} {B : Nat} (h : But S a b) (hs : ∀ k, k < a.heap.size → S k → B ≤ k) (hB : B ≤ a.heap.size) : Below B a b :=
  ⟨h.os, h.tape, h.output, h.size, fun i hi => h.block i (Nat.lt_of_lt_of_le hi hB) fun hx => by have := hs i (Nat.lt_of_lt_of_le hi hB) hx; omega⟩
/-- Of two ways one behind the other, the second of which writes blocks of its own beside. -/
theorem But.more {S T : Nat → Prop} {a b c : World} (h : But S a b) (k : But T b c) (hs : ∀ i, i < a.heap.size → T i → S i) : But S a c :=
  ⟨k.os.trans h.os, k.tape.trans h.tape, k.output.trans h.output, Nat.le_trans h.size k.size, fun i hi hn => (k.block i (Nat.lt_of_lt_of_le hi h.size) fun hx => hn (hs i hi hx)).trans (h.block i hi hn)⟩
theorem But.of_grown {a b : World} {row : Option Nat} (h : a.grownBy b row) : But (fun k => row = some k) a b := ⟨h.os, h.tape, h.output, h.size, fun i hi hn => h.block i hi fun e => hn e.symm⟩
end Go.Proofs.Ythjpknipnmagkaa
