/-
  A journal with one amount put anew. No code.
-/
import Derived.Test.YtakjiehncoankaaDoorPartsMath
namespace Go.Proofs.YtakjiehncoankaaDoor
open Go.RowKit

/-- The journal with the amount v in its line k, which holds x. -/
def amtJ (j : Jrn) (k : Nat) (x : Lin) (v : Int) : Jrn := ⟨j.id, j.ent, j.per, j.ref, j.lines.set k ⟨x.acct, v, x.part⟩, j.void⟩
theorem sumA_append : ∀ a b : List Lin, sumA (a ++ b) = sumA a + sumA b
  | [], b => by simp [sumA]
  | x :: a, b => by
    have := sumA_append a b
    rw [List.cons_append, sumA_cons, sumA_cons, this]
    omega
theorem set_parts {l : List Lin} {k : Nat} {x : Lin} (hx : l[k]? = some x) : ∃ a b, l = a ++ x :: b ∧ ∀ y, l.set k y = a ++ y :: b := by
  obtain ⟨hk, rfl⟩ := List.getElem?_eq_some_iff.1 hx
  have h : ∀ y, l.set k y = l.take k ++ y :: l.drop (k + 1) := fun y => by rw [List.set_eq_take_append_cons_drop, if_pos hk]
  refine ⟨l.take k, l.drop (k + 1), ?_, h⟩
  rw [← h, List.set_getElem_self]
theorem check_amt {j : Jrn} {k : Nat} {x : Lin} (h : checkE j = 0) (hx : j.lines[k]? = some x) (v : Int) :
    checkE (amtJ j k x v) = if v = 0 then 1 else if fits1 v = true then if v = x.amt then 0 else 3 else 2 := by
  obtain ⟨h1, h2, h3, h4⟩ := checkE_ok h
  obtain ⟨a, b, hl, hs⟩ := set_parts hx
  unfold linesOk at h2
  rw [Bool.and_eq_true] at h2
  have hf : frontOk (amtJ j k x v) = true := h1
  have hn : (amtJ j k x v).lines.length = j.lines.length := by unfold amtJ; simp
  have hall := h2.2
  have hfit := h3
  have hsum := h4
  rw [hl] at hall hfit hsum
  unfold linesAll at hall
  unfold fitsL at hfit
  rw [List.all_append, List.all_cons, Bool.and_eq_true, Bool.and_eq_true] at hall hfit
  rw [sumA_append, sumA_cons] at hsum
  have hlo : linesOk (amtJ j k x v) = !(v == 0) := by
    unfold linesOk
    rw [hn, h2.1, Bool.true_and]
    show linesAll j.ent (j.lines.set k ⟨x.acct, v, x.part⟩) = _
    rw [hs]
    unfold linesAll
    rw [List.all_append, List.all_cons, hall.1, hall.2.2, Bool.true_and, Bool.and_true]
    have := hall.2.1
    unfold lineOk at this ⊢
    simp only [Bool.and_eq_true] at this
    dsimp only
    rw [this.1.1.1, this.1.2, this.2]
    simp
  have hft : fitsL (amtJ j k x v).lines = fits1 v := by
    show fitsL (j.lines.set k ⟨x.acct, v, x.part⟩) = _
    rw [hs]
    unfold fitsL
    rw [List.all_append, List.all_cons, hfit.1, hfit.2.2, Bool.true_and, Bool.and_true]
  have hsu : sumA (amtJ j k x v).lines = v - x.amt := by
    show sumA (j.lines.set k ⟨x.acct, v, x.part⟩) = _
    rw [hs, sumA_append, sumA_cons]
    dsimp only
    omega
  unfold checkE
  rw [hf, hlo, hft, hsu, Bool.true_and]
  by_cases h0 : v = 0
  · subst h0; simp
  · rw [if_pos (by simpa using h0), if_neg h0]
    have e : (v - x.amt = 0) ↔ (v = x.amt) := by omega
    simp only [e]
/-- An amount of one more. -/
theorem check_up {j : Jrn} {k : Nat} {x : Lin} (h : checkE j = 0) (hx : j.lines[k]? = some x) :
    checkE (amtJ j k x (x.amt + 1)) = if x.amt = 1000000000000000 then 2 else if x.amt = -1 then 1 else 3 := by
  have hfx := fits1_iff.1 (List.all_eq_true.1 (checkE_ok h).2.2.1 x (List.mem_of_getElem? hx))
  rw [check_amt h hx]
  by_cases h1 : x.amt = 1000000000000000
  · have : fits1 (x.amt + 1) = false := by rw [h1]; decide
    rw [this, if_neg (by omega), if_pos h1]
    rfl
  · have : fits1 (x.amt + 1) = true := fits1_iff.2 (by omega)
    rw [this, if_neg h1]
    by_cases h2 : x.amt = -1
    · rw [if_pos (by omega), if_pos h2]
    · rw [if_neg (by omega), if_neg h2, if_pos rfl, if_neg (by omega)]
/-- An amount beyond the bound. -/
theorem check_big {j : Jrn} {k : Nat} {x : Lin} (h : checkE j = 0) (hx : j.lines[k]? = some x) {v : Int} (hv : 1000000000000000 < v) : checkE (amtJ j k x v) = 2 := by
  have : fits1 v = false := by
    cases hq : fits1 v
    · rfl
    · have := fits1_iff.1 hq; omega
  rw [check_amt h hx, this, if_neg (by omega)]
  rfl
/-- No entity: whatever else. -/
theorem check_none {j : Jrn} (h : j.ent = 0) : checkE j = 1 := front_no_ent (by omega)
end Go.Proofs.YtakjiehncoankaaDoor
