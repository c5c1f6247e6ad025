/-
  What the reference's SetGate makes, row by row. No code.
-/
import Derived.Test.YtgoekobolomppaaGatesMath
namespace Go.Proofs.Ytgoekobolomppaa
open Go.RowKit

/-- One row of the reference's loop: what was made, whether x is in it. -/
def refIn (x : Trio) (acc : List Trio) (d : Bool) (y : Trio) : List Trio := if d = false ∧ x.key < y.key then acc ++ [x] else acc
def refD (x : Trio) (d : Bool) (y : Trio) : Bool := d || decide (x.key < y.key)
def refOut (x : Trio) (acc : List Trio) (d : Bool) (y : Trio) : List Trio := if y.key = x.key then refIn x acc d y else refIn x acc d y ++ [y]
def refAll (x : Trio) : List Trio → Bool → List Trio → List Trio × Bool
  | acc, d, [] => (acc, d)
  | acc, d, y :: r => refAll x (refOut x acc d y) (refD x d y) r
def refEnd (x : Trio) (p : List Trio × Bool) : List Trio := if p.2 = false then p.1 ++ [x] else p.1

theorem refAll_append (x : Trio) : ∀ (l m : List Trio) (acc : List Trio) (d : Bool), refAll x acc d (l ++ m) = refAll x (refAll x acc d l).1 (refAll x acc d l).2 m
  | [], m, acc, d => rfl
  | y :: l, m, acc, d => by rw [List.cons_append, refAll, refAll, refAll_append x l m]
theorem refAll_step {x : Trio} {l : List Trio} {k : Nat} {y : Trio} (hy : l[k]? = some y) (acc : List Trio) (d : Bool) :
    refAll x acc d (l.take (k + 1)) = (refOut x (refAll x acc d (l.take k)).1 (refAll x acc d (l.take k)).2 y, refD x (refAll x acc d (l.take k)).2 y) := by
  obtain ⟨hl, rfl⟩ := List.getElem?_eq_some_iff.1 hy
  rw [List.take_succ_eq_append_getElem hl, refAll_append]
  rfl
theorem refAll_done (x : Trio) : ∀ (l acc : List Trio), refAll x acc true l = (acc ++ l.filter fun y => decide (y.key ≠ x.key), true)
  | [], acc => by simp [refAll]
  | y :: l, acc => by
    have h1 : refD x true y = true := rfl
    rw [refAll, h1, refAll_done x l]
    by_cases h : y.key = x.key
    · simp [refOut, refIn, h]
    · simp [refOut, refIn, h]
theorem filter_gt {l : List Trio} {k : Int} (h : ∀ y ∈ l, k < y.key) : (l.filter fun y => decide (y.key < k)) = [] ∧ (l.filter fun y => decide (k < y.key)) = l ∧ (l.filter fun y => decide (y.key ≠ k)) = l := by
  refine ⟨?_, ?_, ?_⟩
  · rw [List.filter_eq_nil_iff]
    intro a ha
    have := h a ha
    simp; omega
  · rw [List.filter_eq_self]
    intro a ha
    have := h a ha
    simp; omega
  · rw [List.filter_eq_self]
    intro a ha
    have := h a ha
    simp; omega
theorem refAll_not (x : Trio) : ∀ (l acc : List Trio), l.Pairwise (fun a b => a.key < b.key) → refEnd x (refAll x acc false l) = acc ++ ((l.filter fun y => decide (y.key < x.key)) ++ x :: (l.filter fun y => decide (x.key < y.key)))
  | [], acc, _ => by simp [refAll, refEnd]
  | y :: l, acc, h => by
    rw [List.pairwise_cons] at h
    rcases Int.lt_trichotomy y.key x.key with hy | hy | hy
    · have h1 : refD x false y = false := by simp [refD]; omega
      have h2 : refOut x acc false y = acc ++ [y] := by
        unfold refOut refIn
        rw [if_neg (by omega), if_neg (by omega)]
      rw [refAll, h1, h2, refAll_not x l _ h.2]
      have t1 : decide (y.key < x.key) = true := by simp [hy]
      have t2 : decide (x.key < y.key) = false := by simp; omega
      simp [t1, t2]
    · have h1 : refD x false y = false := by simp [refD]; omega
      have h2 : refOut x acc false y = acc := by
        unfold refOut refIn
        rw [if_pos hy, if_neg (by omega)]
      rw [refAll, h1, h2, refAll_not x l _ h.2]
      have t1 : decide (y.key < x.key) = false := by simp; omega
      have t2 : decide (x.key < y.key) = false := by simp; omega
      simp [t1, t2]
    · have h1 : refD x false y = true := by simp [refD]; omega
      have h2 : refOut x acc false y = acc ++ [x] ++ [y] := by
        unfold refOut refIn
        rw [if_neg (by omega), if_pos ⟨rfl, hy⟩]
      obtain ⟨f1, f2, f3⟩ := filter_gt (l := l) (k := x.key) fun a ha => by have := h.1 a ha; omega
      rw [refAll, h1, h2, refAll_done]
      have t1 : decide (y.key < x.key) = false := by simp; omega
      have t2 : decide (x.key < y.key) = true := by simp; omega
      rw [f3]
      simp [refEnd, t1, t2, f1, f2]
theorem new_filter (k : Int) : ∀ (l : List Trio), l.Pairwise (fun a b => a.key < b.key) → l.take (posT l k) = (l.filter fun y => decide (y.key < k)) ∧ restT l k = (l.filter fun y => decide (k < y.key))
  | [], _ => by simp [posT, restT]
  | b :: l, h => by
    rw [List.pairwise_cons] at h
    have ih := new_filter k l h.2
    unfold restT at ih ⊢
    rw [posT_cons]
    rcases Int.lt_trichotomy b.key k with hb | hb | hb
    · have t1 : decide (b.key < k) = true := by simp [hb]
      have t2 : decide (k < b.key) = false := by simp; omega
      have hf : findT (b :: l) k = findT l k := by
        unfold findT
        rw [List.find?_cons]
        have : (b.key == k) = false := by simp; omega
        rw [this]
      rw [if_pos hb, hf]
      constructor
      · rw [List.take_succ_cons, ih.1]; simp [t1]
      · rw [show posT l k + 1 + (if (findT l k).isSome = true then 1 else 0) = (posT l k + if (findT l k).isSome = true then 1 else 0) + 1 by omega, List.drop_succ_cons, ih.2]
        simp [t2]
    · obtain ⟨f1, f2, _⟩ := filter_gt (l := l) (k := k) fun a ha => by have := h.1 a ha; omega
      have t1 : decide (b.key < k) = false := by simp; omega
      have t2 : decide (k < b.key) = false := by simp; omega
      have hf : findT (b :: l) k = some b := by
        unfold findT
        rw [List.find?_cons]
        have : (b.key == k) = true := by simp [hb]
        rw [this]
      rw [if_neg (by omega), hf]
      simp [t1, t2, f1, f2]
    · obtain ⟨f1, f2, _⟩ := filter_gt (l := l) (k := k) fun a ha => by have := h.1 a ha; omega
      have t1 : decide (b.key < k) = false := by simp; omega
      have t2 : decide (k < b.key) = true := by simp; omega
      have hf : findT (b :: l) k = none := by
        unfold findT
        rw [List.find?_eq_none]
        intro a ha
        rcases List.mem_cons.1 ha with rfl | ha
        · simp; omega
        · have := h.1 a ha; simp; omega
      rw [if_neg (by omega), hf]
      simp [t1, t2, f1, f2]
theorem refSet_new {l : List Trio} (h : l.Pairwise fun a b => a.key < b.key) (e p s : Int) : (if (refAll ⟨e, p, s⟩ [] (decide (s = 0)) l).2 = false then (refAll ⟨e, p, s⟩ [] (decide (s = 0)) l).1 ++ [⟨e, p, s⟩] else (refAll ⟨e, p, s⟩ [] (decide (s = 0)) l).1) = newT l e p s := by
  obtain ⟨h1, h2⟩ := new_filter (e * 2000 + p) l h
  unfold newT
  rw [h1, h2]
  by_cases hs : s = 0
  · rw [decide_eq_true hs, refAll_done]
    simp only [hs, if_true, List.nil_append]
    rw [if_neg (by simp)]
    -- what is not it stands ahead of it or behind it
    show (l.filter fun y => decide (y.key ≠ e * 2000 + p)) = _
    clear h1 h2 hs
    induction l with
    | nil => rfl
    | cons b l ih =>
      rw [List.pairwise_cons] at h
      rcases Int.lt_trichotomy b.key (e * 2000 + p) with hb | hb | hb
      · have t1 : decide (b.key < e * 2000 + p) = true := by simp [hb]
        have t2 : decide (e * 2000 + p < b.key) = false := by simp; omega
        have t3 : decide (b.key ≠ e * 2000 + p) = true := by simp; omega
        simp only [List.filter_cons, t1, t2, t3]
        rw [ih h.2]; rfl
      · have t1 : decide (b.key < e * 2000 + p) = false := by simp; omega
        have t2 : decide (e * 2000 + p < b.key) = false := by simp; omega
        have t3 : decide (b.key ≠ e * 2000 + p) = false := by simp; omega
        simp only [List.filter_cons, t1, t2, t3]
        rw [ih h.2]; rfl
      · obtain ⟨f1, f2, f3⟩ := filter_gt (l := l) (k := e * 2000 + p) fun a ha => by have := h.1 a ha; omega
        have t1 : decide (b.key < e * 2000 + p) = false := by simp; omega
        have t2 : decide (e * 2000 + p < b.key) = true := by simp; omega
        have t3 : decide (b.key ≠ e * 2000 + p) = true := by simp; omega
        simp only [List.filter_cons, t1, t2, t3, f1, f2, f3]
        rfl
  · rw [decide_eq_false hs]
    have := refAll_not ⟨e, p, s⟩ l [] h
    unfold refEnd at this
    rw [this, if_neg hs]
    rfl
theorem refAll_len (x : Trio) : ∀ (l acc : List Trio) (d : Bool), (refAll x acc d l).1.length ≤ acc.length + 2 * l.length
  | [], acc, d => by simp [refAll]
  | y :: l, acc, d => by
    rw [refAll]
    have h1 := refAll_len x l (refOut x acc d y) (refD x d y)
    have h2 : (refOut x acc d y).length ≤ acc.length + 2 := by
      unfold refOut refIn
      split <;> split <;> simp
    simp at h1 ⊢
    omega
end Go.Proofs.Ytgoekobolomppaa
