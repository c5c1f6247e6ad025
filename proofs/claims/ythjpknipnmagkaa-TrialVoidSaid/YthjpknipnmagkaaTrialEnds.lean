/-
  What Balances and Partners tell, each in one form.
-/
import Derived.Test.YthjpknipnmagkaaTrialPart
import Derived.Test.YthjpknipnmagkaaMany8
namespace Go.Proofs.Ythjpknipnmagkaa
open Go.RowKit
open Mo

theorem rise_lenB : ∀ (R l : List Bal), (R.Pairwise fun x y => x.acct < y.acct) → (∀ x ∈ R, ∃ y ∈ l, y.acct = x.acct) → R.length ≤ l.length
  | [], _, _, _ => Nat.zero_le _
  | x :: r, l, hr, h => by
    have h2 := List.pairwise_cons.1 hr
    obtain ⟨y, hy, e⟩ := h x (List.mem_cons_self ..)
    have ih := rise_lenB r (l.filter fun z => z.acct != x.acct) h2.2 fun z hz => by
      obtain ⟨u, hu, e2⟩ := h z (List.mem_cons_of_mem _ hz)
      have := h2.1 z hz
      exact ⟨u, List.mem_filter.2 ⟨hu, by simp; omega⟩, e2⟩
    have hlt : (l.filter fun z => z.acct != x.acct).length < l.length := List.length_filter_lt_length_iff_exists.2 ⟨y, hy, by simp [e]⟩
    rw [List.length_cons]
    omega
theorem PlusOf.from_ {l R : List Bal} (h : PlusOf l R) : ∀ x ∈ R, ∃ y ∈ l, y.acct = x.acct := fun x hx => by
  have h1 := (h.mem x).1 hx
  by_cases hy : ∃ y ∈ l, y.acct = x.acct
  · exact hy
  · rw [sumB_out fun y hm e => hy ⟨y, hm, e⟩] at h1
    omega
theorem PlusOf.lenB {l R : List Bal} (h : PlusOf l R) : R.length ≤ l.length := rise_lenB R l h.rise h.from_
def balE (o : OfT) (M : List Jrn) : Int := if mayO o = true then (if plusB (balsOf (gathL (pkL o) M)) = true then 0 else 2) else 1
def BalIs (L : List Bal) (E : Int) (R : List Bal) : Prop := (E = 0 → PlusOf L R) ∧ (E ≠ 0 → R = [])
theorem BalIs.unique {L L' R R' : List Bal} {E : Int} (h : BalIs L E R) (h' : BalIs L' E R') (he : ∀ a, sumB a L = sumB a L') : R = R' := by
  by_cases hE : E = 0
  · exact (h.1 hE).unique (h'.1 hE) he
  · rw [h.2 hE, h'.2 hE]
theorem BalIs.len {L R : List Bal} {E : Int} (h : BalIs L E R) : R.length ≤ L.length := by
  by_cases hE : E = 0
  · exact (h.1 hE).lenB
  · rw [h.2 hE]; exact Nat.zero_le _
theorem balEnd_is {w : World} {o : OfT} {M : List Jrn} {e : Ending} {w' : World} (h : BalEnd w o M e w') : ∃ A c R, e = .returned (.tuple #[.slice A (List.length R) c, .int .i64 (balE o M)]) ∧ BalIs (balsOf (gathL (pkL o) M)) (balE o M) R ∧ (w'.ownsRow w.heap.size 68 2 (.slice A (List.length R) c) (List.length R) (bals R)) ∧ Below w.heap.size w w' := by
  unfold balE
  rcases h with ⟨h1, rfl, h3⟩ | ⟨h1, h2, ⟨h3, rfl⟩ | ⟨h3, A, c, R, hR, rfl, hown⟩⟩
  · rw [h1, if_neg (by decide)]
    exact ⟨none, 0, [], rfl, ⟨fun h => (by cases h), fun _ => rfl⟩, World.ownsRow_nil _ _ _ _, h3⟩
  · rw [h1, if_pos rfl, h3, if_neg (by decide)]
    exact ⟨none, 0, [], rfl, ⟨fun h => (by cases h), fun _ => rfl⟩, World.ownsRow_nil _ _ _ _, h2⟩
  · rw [h1, if_pos rfl, h3, if_pos rfl]
    exact ⟨A, c, R, rfl, ⟨fun _ => hR, fun h => absurd rfl h⟩, hown, h2⟩
def prtR (o : OfT) (M : List Jrn) : List Pair := if balE o M = 0 then prsK (fun p => partSum p (gathL (pkP o) M)) 10 else []
theorem partEnd_is {w : World} {o : OfT} {M : List Jrn} {e : Ending} {w' : World} (h : PartEnd w o M e w') : ∃ A c, e = .returned (.tuple #[.slice A (prtR o M).length c, .int .i64 (balE o M)]) ∧ (w'.ownsRow w.heap.size 109 2 (.slice A (prtR o M).length c) (prtR o M).length (pairs (prtR o M))) ∧ Below w.heap.size w w' := by
  unfold prtR balE
  obtain ⟨hb, ⟨h1, rfl⟩ | ⟨h1, h3, rfl⟩ | ⟨h1, h3, A, c, R, rfl, rfl, hown⟩⟩ := h
  · rw [h1, if_neg (show ¬ (false = true) by decide), if_neg (show ¬ ((1 : Int) = 0) by decide)]
    exact ⟨none, 0, rfl, World.ownsRow_nil _ _ _ _, hb⟩
  · rw [h1, if_pos rfl, h3, if_neg (show ¬ (false = true) by decide), if_neg (show ¬ ((2 : Int) = 0) by decide)]
    exact ⟨none, 0, rfl, World.ownsRow_nil _ _ _ _, hb⟩
  · rw [h1, if_pos rfl, h3, if_pos rfl, if_pos rfl]
    exact ⟨A, c, rfl, hown, hb⟩
theorem prtR_len (o : OfT) (M : List Jrn) : (prtR o M).length ≤ 10 := by
  unfold prtR
  split
  · exact prsK_len _ _
  · exact Nat.zero_le _
/-- Journals that count nothing may be left out. -/
theorem gathL_filter (o : OfT) : ∀ M : List Jrn, gathL (pkL o) (M.filter (covO o)) = gathL (pkL o) M
  | [] => rfl
  | j :: r => by
    have ih := gathL_filter o r
    unfold gathL at ih ⊢
    rw [List.filter_cons, List.flatMap_cons]
    cases hc : covO o j
    · rw [if_neg (by decide), ih]
      have : pkL o j = [] := by unfold pkL; rw [hc]; rfl
      rw [this, List.nil_append]
    · rw [if_pos rfl, List.flatMap_cons, ih]
theorem gathP_filter (o : OfT) (M : List Jrn) : gathL (pkP o) (M.filter (covO o)) = gathL (pkP o) M := by
  have e : ∀ M : List Jrn, gathL (pkP o) M = partL (gathL (pkL o) M) := fun M => by
    unfold gathL partL pkP partL
    rw [List.filter_flatMap]
  rw [e, e, gathL_filter]
theorem balE_filter (o : OfT) (M : List Jrn) : balE o (M.filter (covO o)) = balE o M := by unfold balE; rw [gathL_filter]
theorem prtR_filter (o : OfT) (M : List Jrn) : prtR o (M.filter (covO o)) = prtR o M := by unfold prtR; rw [balE_filter, gathP_filter]
/-- Fewer journals may be in a book, too. -/
theorem GoodM.filter {M : List Jrn} (h : GoodM M) (p : Jrn → Bool) : GoodM (M.filter p) := by
  refine ⟨List.Pairwise.sublist List.filter_sublist h.rise, fun j hj => h.ok j (List.mem_filter.1 hj).1, Nat.le_trans (List.length_filter_le _ _) h.len, fun j hj => ?_⟩
  refine taken_of_leaves fun b hb => ?_
  exact leaves_of_taken (h.free j (List.mem_filter.1 hj).1) b (List.mem_filter.1 hb).1
end Go.Proofs.Ythjpknipnmagkaa

