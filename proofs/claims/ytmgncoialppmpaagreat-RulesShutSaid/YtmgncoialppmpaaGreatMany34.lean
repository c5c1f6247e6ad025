/-
  Several texts, one behind the other: what each holds stands ahead of it.
-/
import Derived.Test.YtmgncoialppmpaaGreatMany23
import Derived.Test.YtmgncoialppmpaaGreatMany30
import Derived.Test.YtmgncoialppmpaaGreatRulesMake7

/-
  What stays where gates, or a chart, are written; a journal of a book is found by its number.
-/
namespace Go.Proofs.YtmgncoialppmpaaGreat
open Go.RowKit

section
variable {w w' : World} {c g b B : Nat} {C C2 : List Acc} {G G2 : List Trio} {v : Value}
theorem gates_box {k : Nat} {cs : Array Value} {T : TypeId} (hT : GatesAt w B g v G) (hto : GatesTo w B g v G2 w') (hb : w.heap[k]? = some (.cells cs T (0, 0))) (h1 : 117 ≠ T) (h2 : 113 ≠ T) : w'.heap[k]? = some (.cells cs T (0, 0)) := by
  obtain ⟨v', _, k3, _⟩ := hto
  refine (k3.block k (lt_of_blk hb) ?_).trans hb
  rintro (rfl | e)
  · have := hb.symm.trans hT.blk
    simp at this
    exact h1 this.2.symm
  · exact own_ne hT.own hb h2 e
theorem gates_lins {A : Option Addr} {n k m : Nat} {xs : List Value} (hT : GatesAt w B g v G) (hto : GatesTo w B g v G2 w') (h : w.ownsRow m 64 3 (.slice A n k) n xs) : w'.ownsRow m 64 3 (.slice A n k) n xs := by
  obtain ⟨v', _, k3, _⟩ := hto
  refine own_kept h fun k hk hi => k3.block k hk ?_
  rintro (rfl | e)
  · exact own_ne h hT.blk (by decide) hi
  · exact own_own_ne h hT.own (by decide) k hi e
theorem gates_bel {w0 : World} (hT : GatesAt w B g v G) (hto : GatesTo w B g v G2 w') (h0 : w0.heap.size ≤ B) (hb : Below w0.heap.size w0 w) : Below w0.heap.size w0 w' := by
  obtain ⟨v', _, k3, _⟩ := hto
  refine hb.trans (k3.below (fun k _ hi => ?_) hb.size)
  rcases hi with rfl | e
  · have := hT.low; omega
  · have := own_ge hT.own k e; omega
theorem chart_box {k : Nat} {cs : Array Value} {T : TypeId} (hT : ChartAt w B c v C) (hto : ChartTo w B c v C2 w') (hb : w.heap[k]? = some (.cells cs T (0, 0))) (h1 : 159 ≠ T) (h2 : 112 ≠ T) : w'.heap[k]? = some (.cells cs T (0, 0)) := by
  obtain ⟨v', _, k3, _⟩ := hto
  refine (k3.block k (lt_of_blk hb) ?_).trans hb
  rintro (rfl | e)
  · have := hb.symm.trans hT.blk
    simp at this
    exact h1 this.2.symm
  · exact own_ne hT.own hb h2 e
theorem chart_lins {A : Option Addr} {n k m : Nat} {xs : List Value} (hT : ChartAt w B c v C) (hto : ChartTo w B c v C2 w') (h : w.ownsRow m 64 3 (.slice A n k) n xs) : w'.ownsRow m 64 3 (.slice A n k) n xs := by
  obtain ⟨v', _, k3, _⟩ := hto
  refine own_kept h fun k hk hi => k3.block k hk ?_
  rintro (rfl | e)
  · exact own_ne h hT.blk (by decide) hi
  · exact own_own_ne h hT.own (by decide) k hi e
theorem chart_bel {w0 : World} (hT : ChartAt w B c v C) (hto : ChartTo w B c v C2 w') (h0 : w0.heap.size ≤ B) (hb : Below w0.heap.size w0 w) : Below w0.heap.size w0 w' := by
  obtain ⟨v', _, k3, _⟩ := hto
  refine hb.trans (k3.below (fun k _ hi => ?_) hb.size)
  rcases hi with rfl | e
  · have := hT.low; omega
  · have := own_ge hT.own k e; omega
end
theorem oldJ_self {M : List Jrn} {j : Jrn} (h : Rise Jrn.id M) (hj : j ∈ M) : oldJ M j.id = j := by
  obtain ⟨i, hi⟩ := List.mem_iff_getElem?.1 hj
  unfold oldJ
  rw [findK_of h hi]
  rfl
theorem idxW_any (k : Int) {n : Nat} (hn : 0 < n) (h30 : n ≤ 1000) : ∃ i : Nat, i < n ∧ (wrap64 (k.tmod (n : Int) + n)).tmod (n : Int) = (i : Int) := by
  have h1 := Int.tmod_lt_of_pos k (b := (n : Int)) (by omega)
  have h2 : -(n : Int) < k.tmod n := by
    have := Int.lt_tmod_of_pos k (b := (n : Int)) (by omega)
    omega
  rw [show wrap64 (k.tmod (n : Int) + n) = k.tmod (n : Int) + n from by unfold wrap64; omega]
  refine ⟨((k.tmod (n : Int) + n).tmod (n : Int)).toNat, ?_, ?_⟩
  · have h3 := Int.tmod_lt_of_pos (k.tmod (n : Int) + n) (b := (n : Int)) (by omega)
    have h4 := Int.tmod_nonneg (a := k.tmod (n : Int) + n) (n : Int) (by omega)
    omega
  · have h4 := Int.tmod_nonneg (a := k.tmod (n : Int) + n) (n : Int) (by omega)
    omega
theorem made_q {l0 : List Acc} {l1 : List Trio} {n2 : Nat} {w w' : World} {c g b : Nat} {C : List Acc} {G : List Trio} {l r : List JR} {Ac Ag Ab : Option Addr} (h : Made l0 l1 n2 w c g b C G l r Ac Ag Ab w') : QRd w' w'.heap.size C G r Ac Ag Ab :=
  ⟨h.rdC, h.rdG, h.rdM, by have := h.lenC; omega, h.goodG, h.goodM, h.lenM⟩
end Go.Proofs.YtmgncoialppmpaaGreat

/-
  A period that is shut, and opened again. No code.
-/
namespace Go.Proofs.YtmgncoialppmpaaGreat
open Go.RowKit

theorem find_none_of {l : List Trio} {k : Int} (h : ∀ a ∈ l, a.key ≠ k) : findT l k = none := by
  unfold findT
  rw [List.find?_eq_none]
  intro a ha
  have := h a ha
  simpa using this
theorem findT_append (l m : List Trio) (k : Int) : findT (l ++ m) k = (findT l k).or (findT m k) := by
  unfold findT
  rw [List.find?_append]
theorem findT_filter {l : List Trio} {k : Int} {q : Trio → Bool} (h : ∀ a ∈ l, a.key = k → q a = true) : findT (l.filter q) k = findT l k := by
  unfold findT
  induction l with
  | nil => rfl
  | cons a l ih =>
    have ih := ih fun b hb => h b (by simp [hb])
    by_cases hk : a.key = k
    · have hq := h a (by simp) hk
      rw [List.filter_cons_of_pos hq, List.find?_cons_of_pos (by simpa using hk), List.find?_cons_of_pos (by simpa using hk)]
    · rw [List.find?_cons_of_neg (by simpa using hk)]
      by_cases hq : q a = true
      · rw [List.filter_cons_of_pos hq, List.find?_cons_of_neg (by simpa using hk), ih]
      · rw [List.filter_cons_of_neg hq, ih]
theorem findT_new {l : List Trio} (h : l.Pairwise fun a b => a.key < b.key) (e p s k : Int) : findT (newT l e p s) k = if k = e * 2000 + p then (if s = 0 then none else some ⟨e, p, s⟩) else findT l k := by
  obtain ⟨h1, h2⟩ := new_filter (e * 2000 + p) l h
  unfold newT
  rw [h1, h2, findT_append, findT_append]
  by_cases hk : k = e * 2000 + p
  · rw [if_pos hk, find_none_of (l := l.filter _) (fun a ha => by have := (List.mem_filter.1 ha).2; simp at this; omega), find_none_of (l := l.filter _) (fun a ha => by have := (List.mem_filter.1 ha).2; simp at this; omega)]
    by_cases hs : s = 0
    · simp [hs, findT]
    · simp [hs, findT, Trio.key, hk]
  · rw [if_neg hk]
    have hm : findT (if s = 0 then [] else [⟨e, p, s⟩]) k = none := find_none_of fun a ha => by
      by_cases hs : s = 0
      · simp [hs] at ha
      · simp [hs] at ha; subst ha; show e * 2000 + p ≠ k; omega
    rw [hm]
    by_cases hlt : k < e * 2000 + p
    · rw [findT_filter (fun a _ ha => by simp; omega), find_none_of (l := l.filter _) (fun a ha => by have := (List.mem_filter.1 ha).2; simp at this; omega)]
      simp
    · rw [find_none_of (l := l.filter _) (fun a ha => by have := (List.mem_filter.1 ha).2; simp at this; omega), findT_filter (fun a _ ha => by simp; omega)]
      simp
theorem key_eq {e p e2 p2 : Int} (h : okT e p = true) (h2 : okT e2 p2 = true) (hk : e2 * 2000 + p2 = e * 2000 + p) : e2 = e ∧ p2 = p := by
  have := okT_t h; have := okT_t h2
  omega
theorem stT_new {l : List Trio} (h : l.Pairwise fun a b => a.key < b.key) {e p e2 p2 : Int} (s : Int) (ho : okT e p = true) : stT (newT l e p s) e2 p2 = if e2 = e ∧ p2 = p then s else stT l e2 p2 := by
  unfold stT
  rw [findT_new h]
  by_cases h2 : okT e2 p2 = true
  · rw [if_pos h2, if_pos h2]
    by_cases hk : e2 * 2000 + p2 = e * 2000 + p
    · rw [if_pos hk, if_pos (key_eq ho h2 hk)]
      by_cases hs : s = 0 <;> simp [hs, zOf]
    · rw [if_neg hk, if_neg (fun hh => hk (by rw [hh.1, hh.2]))]
  · rw [if_neg h2, if_neg h2, if_neg]
    rintro ⟨rfl, rfl⟩
    exact h2 ho
theorem mayT_open {l : List Trio} {e p : Int} (h : mayT l e p = 0) : okT e p = true ∧ stT l e p = 0 := by
  unfold mayT at h
  by_cases ho : okT e p = true
  · rw [if_pos ho] at h
    by_cases hs : stT l e p = 0
    · exact ⟨ho, hs⟩
    · rw [if_neg hs] at h; cases h
  · rw [if_neg ho] at h; cases h
/-- Shut, and opened again. -/
theorem shut_one {l : List Trio} {e p : Int} (h : GoodT l) (hm : mayT l e p = 0) : setE l e p 1 = 0 ∧ mayT (setT l e p 1) e p = 6 := by
  obtain ⟨ho, hs⟩ := mayT_open hm
  obtain ⟨h1, h2⟩ := setE_goes (l := l) (s := 1) ho (by omega) (by omega) (by rw [hs]; omega)
  refine ⟨h1, ?_⟩
  rw [h2]
  unfold mayT
  have hs1 : stT (newT l e p 1) e p = 1 := by rw [stT_new h.1 1 ho, if_pos ⟨rfl, rfl⟩]
  rw [if_pos ho, hs1]
  rfl
theorem open_again {l : List Trio} {e p : Int} (h : GoodT l) (h1 : GoodT (setT l e p 1)) (hm : mayT l e p = 0) : setE (setT l e p 1) e p 0 = 0 ∧ ∀ e2 p2, mayT (setT (setT l e p 1) e p 0) e2 p2 = mayT l e2 p2 := by
  obtain ⟨ho, hs⟩ := mayT_open hm
  obtain ⟨_, h2⟩ := setE_goes (l := l) (s := 1) ho (by omega) (by omega) (by rw [hs]; omega)
  rw [h2] at h1 ⊢
  have hs1 : stT (newT l e p 1) e p = 1 := by rw [stT_new h.1 1 ho, if_pos ⟨rfl, rfl⟩]
  obtain ⟨h3, h4⟩ := setE_goes (l := newT l e p 1) (s := 0) ho (by omega) (by omega) (by rw [hs1]; omega)
  refine ⟨h3, fun e2 p2 => ?_⟩
  rw [h4]
  unfold mayT
  rw [stT_new h1.1 0 ho]
  by_cases hk : e2 = e ∧ p2 = p
  · rw [if_pos hk, hk.1, hk.2, hs]
  · rw [if_neg hk, stT_new h.1 1 ho, if_neg hk]
theorem rPost_gates {C : List Acc} {G G2 : List Trio} {M : List Jrn} (h : ∀ e p, mayT G2 e p = mayT G e p) (j : Jrn) : rPostE C G2 M j = rPostE C G M j := by
  unfold rPostE postsE
  rw [h]
theorem rVoid_gates {G G2 : List Trio} {M : List Jrn} (h : ∀ e p, mayT G2 e p = mayT G e p) (id : Int) : rVoidE G2 M id = rVoidE G M id := by
  unfold rVoidE voidsE
  rw [h]
/-- What was OK is ErrClosed as soon as its period is shut. -/
theorem rPost_closed {C : List Acc} {G G2 : List Trio} {M : List Jrn} {j : Jrn} (h : rPostE C G M j = 0) (h6 : mayT G2 j.ent j.per = 6) : rPostE C G2 M j = 6 := by
  unfold rPostE postsE at *
  simp only [firstE, if_true] at *
  have h1 : checkE j = 0 := by
    by_cases h1 : checkE j = 0
    · exact h1
    · rw [if_neg h1] at h; exact absurd h h1
  rw [if_pos h1] at h ⊢
  have h2 : liveECh C (accts j.lines) = 0 := by
    by_cases h1 : liveECh C (accts j.lines) = 0
    · exact h1
    · rw [if_neg h1] at h; exact absurd h h1
  rw [if_pos h2, h6]
  rfl
theorem rVoid_open {G : List Trio} {M : List Jrn} {id : Int} (h : rVoidE G M id = 0) : liveE M id = 0 ∧ mayT G (oldJ M id).ent (oldJ M id).per = 0 := by
  unfold rVoidE voidsE at *
  simp only [firstE, if_true] at *
  have h1 : liveE M id = 0 := by
    by_cases h1 : liveE M id = 0
    · exact h1
    · rw [if_neg h1] at h; exact absurd h h1
  rw [if_pos h1] at h
  refine ⟨h1, ?_⟩
  by_cases h2 : mayT G (oldJ M id).ent (oldJ M id).per = 0
  · exact h2
  · rw [if_neg h2] at h; exact absurd h h2
theorem rVoid_closed {G2 : List Trio} {M : List Jrn} {id : Int} (h : liveE M id = 0) (h6 : mayT G2 (oldJ M id).ent (oldJ M id).per = 6) : rVoidE G2 M id = 6 := by
  unfold rVoidE voidsE
  simp only [firstE, if_true]
  rw [if_pos h, h6]
  rfl
end Go.Proofs.YtmgncoialppmpaaGreat
