/-
  Several texts, one behind the other: what each holds stands ahead of it.
-/
import Derived.Test.YthjpknipnmagkaaMany6
import Derived.Test.YthjpknipnmagkaaEntryCheck2
import Derived.Test.YthjpknipnmagkaaOwn

/-
  What a journal that may be keeps. No code.
-/
namespace Go.Proofs.Ythjpknipnmagkaa
open Go.RowKit

theorem checkE_ok {j : Jrn} (h : checkE j = 0) : frontOk j = true ∧ linesOk j = true ∧ fitsL j.lines = true ∧ sumA j.lines = 0 := by
  unfold checkE at h
  split at h
  · rename_i h1
    rw [Bool.and_eq_true] at h1
    split at h
    · rename_i h2
      split at h
      · exact ⟨h1.1, h1.2, h2, by assumption⟩
      · cases h
    · cases h
  · cases h
end Go.Proofs.Ythjpknipnmagkaa

/-
  A journal undone. No code.
-/
namespace Go.Proofs.Ythjpknipnmagkaa
open Go.RowKit

def negL (l : Lin) : Lin := ⟨l.acct, -l.amt, l.part⟩
def turnL (l : List Lin) : List Lin := l.map negL
def revJ (j : Jrn) (id per : Int) : Jrn := ⟨id, j.ent, per, ⟨#[]⟩, turnL j.lines, false⟩
def revE (j : Jrn) (id per : Int) : Int := if checkE j = 0 then checkE (revJ j id per) else checkE j
def revV (j : Jrn) (id per : Int) : Jrn := if revE j id per = 0 then revJ j id per else zeroJ
theorem turnL_len (l : List Lin) : (turnL l).length = l.length := by simp [turnL]
theorem turnL_take (l : List Lin) (k : Nat) : turnL (l.take k) = (turnL l).take k := by simp [turnL, List.map_take]
theorem turnL_at {l : List Lin} {k : Nat} {x : Lin} (h : l[k]? = some x) : (turnL l)[k]? = some (negL x) := by simp [turnL, h]
theorem turnL_step {l : List Lin} {k : Nat} {x : Lin} (h : l[k]? = some x) : turnL (l.take (k + 1)) = turnL (l.take k) ++ [negL x] := by
  obtain ⟨hk, rfl⟩ := List.getElem?_eq_some_iff.1 h
  rw [List.take_succ_eq_append_getElem hk]
  unfold turnL
  rw [List.map_append]
  rfl
theorem negL_two (l : Lin) : negL (negL l) = l := by unfold negL; simp
theorem turnL_two (l : List Lin) : turnL (turnL l) = l := by
  unfold turnL
  rw [List.map_map]
  exact (List.map_congr_left fun x _ => negL_two x).trans (List.map_id _)
theorem sumA_cons (x : Lin) (l : List Lin) : sumA (x :: l) = x.amt + sumA l := by
  have h : ∀ (l : List Lin) (n : Int), l.foldl (fun n x => n + x.amt) n = n + sumA l := by
    intro l
    induction l with
    | nil => intro n; simp [sumA]
    | cons y l ih =>
      intro n
      unfold sumA
      rw [List.foldl_cons, List.foldl_cons, ih, ih]
      omega
  show (x :: l).foldl (fun n x => n + x.amt) 0 = _
  rw [List.foldl_cons, h]
  omega
theorem sumA_turn : ∀ l : List Lin, sumA (turnL l) = - sumA l
  | [] => rfl
  | x :: l => by
    have ih := sumA_turn l
    show sumA (negL x :: turnL l) = _
    rw [sumA_cons, sumA_cons, ih]
    unfold negL
    simp only
    omega
theorem fitsL_turn {l : List Lin} (h : fitsL l = true) : fitsL (turnL l) = true := by
  unfold fitsL turnL at *
  rw [List.all_eq_true] at h ⊢
  intro y hy
  obtain ⟨x, hx, rfl⟩ := List.mem_map.1 hy
  have := fits1_iff.1 (h x hx)
  rw [fits1_iff]
  unfold negL
  simp only
  omega
theorem lineOk_neg (e : Int) (l : Lin) : lineOk e (negL l) = lineOk e l := by
  have : (-l.amt == 0) = (l.amt == 0) := by rw [Bool.eq_iff_iff]; simp
  unfold lineOk negL
  simp only
  rw [this]
theorem linesAll_turn (e : Int) : ∀ l : List Lin, linesAll e (turnL l) = linesAll e l
  | [] => rfl
  | x :: l => by
    have ih := linesAll_turn e l
    unfold linesAll turnL at *
    rw [List.map_cons, List.all_cons, List.all_cons, lineOk_neg, ih]
theorem linesOk_turn {j : Jrn} (id per : Int) : linesOk (revJ j id per) = linesOk j := by
  unfold linesOk revJ
  simp only
  rw [turnL_len, linesAll_turn]
theorem refOk_none : refOk (⟨#[]⟩ : ByteArray).data.toList = true := by decide
/-- What was undone is told by its number and its period alone. -/
theorem checkE_rev {j : Jrn} (h : checkE j = 0) (id per : Int) : checkE (revJ j id per) = if (inB id 1 999999 && okP per) = true then 0 else 1 := by
  obtain ⟨h1, h2, h3, h4⟩ := checkE_ok h
  have he : inB j.ent 1 9 = true := by
    unfold frontOk at h1
    simp only [Bool.and_eq_true] at h1
    exact h1.1.1.2
  have hf : frontOk (revJ j id per) = (inB id 1 999999 && okP per) := by
    unfold frontOk revJ
    simp only
    rw [he, refOk_none]
    simp
  unfold checkE
  rw [hf, linesOk_turn, h2, Bool.and_true]
  have h5 : fitsL (revJ j id per).lines = true := fitsL_turn h3
  have h6 : sumA (revJ j id per).lines = 0 := by
    show sumA (turnL j.lines) = 0
    rw [sumA_turn, h4]; rfl
  rw [h5, h6]
  rfl
theorem revE_two {j : Jrn} {id per : Int} (h : revE j id per = 0) : checkE j = 0 ∧ checkE (revJ j id per) = 0 := by
  unfold revE at h
  split at h
  · exact ⟨by assumption, h⟩
  · rename_i hne; exact absurd h hne
/-- Undone twice it is as it was, without its reference, not void. -/
theorem rev_back {j : Jrn} {id per : Int} (h : revE j id per = 0) : revE (revJ j id per) j.id j.per = 0 ∧ revJ (revJ j id per) j.id j.per = ⟨j.id, j.ent, j.per, ⟨#[]⟩, j.lines, false⟩ := by
  obtain ⟨h1, h2⟩ := revE_two h
  have e : revJ (revJ j id per) j.id j.per = ⟨j.id, j.ent, j.per, ⟨#[]⟩, j.lines, false⟩ := by
    unfold revJ
    simp only [turnL_two]
  refine ⟨?_, e⟩
  unfold revE
  rw [if_pos h2, checkE_rev h2]
  have hf := (checkE_ok h1).1
  unfold frontOk at hf
  simp only [Bool.and_eq_true] at hf
  rw [hf.1.1.1, hf.1.2]
  rfl
end Go.Proofs.Ythjpknipnmagkaa

/-
  What stays where blocks of S are written. No code.
-/
namespace Go.Proofs.Ythjpknipnmagkaa
open Go.RowKit

/-- Blocks out of S stay. -/
structure Kp (S : Nat → Prop) (w w' : World) : Prop where
  os : w'.os = w.os
  tape : w'.tape = w.tape
  output : w'.output = w.output
  size : w.heap.size ≤ w'.heap.size
  block : ∀ k, k < w.heap.size → ¬ S k → w'.heap[k]? = w.heap[k]?
section
variable {S T : Nat → Prop} {a b c : World}
theorem Kp.refl (S : Nat → Prop) (w : World) : Kp S w w := ⟨rfl, rfl, rfl, Nat.le_refl _, fun _ _ _ => rfl⟩
theorem Kp.trans (h : Kp S a b) (k : Kp S b c) : Kp S a c := ⟨k.os.trans h.os, k.tape.trans h.tape, k.output.trans h.output, Nat.le_trans h.size k.size, fun i hi hs => (k.block i (Nat.lt_of_lt_of_le hi h.size) hs).trans (h.block i hi hs)⟩
theorem Kp.mono (h : Kp S a b) (hs : ∀ k, S k → T k) : Kp T a b := ⟨h.os, h.tape, h.output, h.size, fun i hi ht => h.block i hi fun h => ht (hs i h)⟩
theorem Kp.of_below (h : Below a.heap.size a b) : Kp S a b := ⟨h.os, h.tape, h.output, h.size, fun i hi _ => h.block i hi⟩
theorem Kp.of_drew (h : Drew a b) : Kp S a b := by obtain ⟨k, rfl⟩ := h; exact ⟨rfl, rfl, rfl, Nat.le_refl _, fun _ _ _ => rfl⟩
theorem Kp.setCell (h : Kp S a b) {p : Addr} (hp : S p.block) (v : Value) : Kp S a (b.setCell p v) := by
  have hk := (Below.refl p.block b).setCell (p := p) (Nat.le_refl _) v
  exact ⟨hk.os.trans h.os, hk.tape.trans h.tape, hk.output.trans h.output, Nat.le_trans h.size hk.size, fun i hi hs => (Below.heap_setCell _ _ _ _ (fun e => hs (by rw [e]; exact hp))).trans (h.block i hi hs)⟩
theorem Kp.alloc (h : Kp S a b) (o : Obj) : Kp S a (b.alloc o) := h.trans (Kp.of_below ((Below.refl _ _).alloc (Nat.le_refl _) o))
theorem Kp.below {B : Nat} (h : Kp S a b) (hS : ∀ k, S k → B ≤ k) (hB : B ≤ a.heap.size) : Below B a b :=
  ⟨h.os, h.tape, h.output, h.size, fun i hi => h.block i (by omega) fun hs => by have := hS i hs; omega⟩
/-- What S holds need not have been there. -/
theorem Kp.fresh (h : Kp S a b) (hb : Kp S b c) (hS : ∀ k, S k → T k ∨ a.heap.size ≤ k) : Kp T a c := by
  have := h.trans hb
  exact ⟨this.os, this.tape, this.output, this.size, fun i hi ht => this.block i hi fun hs => by
    rcases hS i hs with h1 | h1
    · exact ht h1
    · omega⟩
end
theorem Kp.grown {S : Nat → Prop} {a b : World} {row : Option Nat} (h : a.grownBy b row) (hr : ∀ k, row = some k → S k) : Kp S a b :=
  ⟨h.os, h.tape, h.output, h.size, fun k hk hs => h.block k hk fun e => hs (hr k e.symm)⟩
end Go.Proofs.Ythjpknipnmagkaa
