/-
  Several texts, one behind the other: what each holds stands ahead of it.
-/
import Derived.Test.YtjlokkjbdgcooaaGreatTrialPart
import Derived.Test.YtjlokkjbdgcooaaGreatMany11

/-
  What Balances and Partners tell, each in one form.
-/
namespace Go.Proofs.YtjlokkjbdgcooaaGreat
open Go.RowKit
open Mo

theorem rise_lenB : ∀ (R l : List Bal), (R.Pairwise fun x y => x.acct < y.acct) → (∀ x ∈ R, ∃ y ∈ l, y.acct = x.acct) → R.length ≤ l.length
  | [], _, _, _ => Nat.zero_le _
  | x :: r, l, hr, h => by
    have h2 := List.pairwise_cons.1 hr
    obtain ⟨y, hy, e⟩ := h x (List.mem_cons_self ..)
    have ih := rise_lenB r (l.filter fun z => z.acct != x.acct) h2.2 fun z hz => by
      obtain ⟨u, hu, e2⟩ := h z (List.mem_cons_of_mem _ hz)
      have := h2.1 z hz
      exact ⟨u, List.mem_filter.2 ⟨hu, by simp; omega⟩, e2⟩
    have hlt : (l.filter fun z => z.acct != x.acct).length < l.length := List.length_filter_lt_length_iff_exists.2 ⟨y, hy, by simp [e]⟩
    rw [List.length_cons]
    omega
theorem PlusOf.from_ {l R : List Bal} (h : PlusOf l R) : ∀ x ∈ R, ∃ y ∈ l, y.acct = x.acct := fun x hx => by
  have h1 := (h.mem x).1 hx
  by_cases hy : ∃ y ∈ l, y.acct = x.acct
  · exact hy
  · rw [sumB_out fun y hm e => hy ⟨y, hm, e⟩] at h1
    omega
theorem PlusOf.lenB {l R : List Bal} (h : PlusOf l R) : R.length ≤ l.length := rise_lenB R l h.rise h.from_
def balE (o : OfT) (M : List Jrn) : Int := if mayO o = true then (if plusB (balsOf (gathL (pkL o) M)) = true then 0 else 2) else 1
def BalIs (L : List Bal) (E : Int) (R : List Bal) : Prop := (E = 0 → PlusOf L R) ∧ (E ≠ 0 → R = [])
theorem BalIs.unique {L L' R R' : List Bal} {E : Int} (h : BalIs L E R) (h' : BalIs L' E R') (he : ∀ a, sumB a L = sumB a L') : R = R' := by
  by_cases hE : E = 0
  · exact (h.1 hE).unique (h'.1 hE) he
  · rw [h.2 hE, h'.2 hE]
theorem BalIs.len {L R : List Bal} {E : Int} (h : BalIs L E R) : R.length ≤ L.length := by
  by_cases hE : E = 0
  · exact (h.1 hE).lenB
  · rw [h.2 hE]; exact Nat.zero_le _
theorem balEnd_is {w : World} {o : OfT} {M : List Jrn} {e : Ending} {w' : World} (h : BalEnd w o M e w') : ∃ A c R, e = .returned (.tuple #[.slice A (List.length R) c, .int .i64 (balE o M)]) ∧ BalIs (balsOf (gathL (pkL o) M)) (balE o M) R ∧ (w'.ownsRow w.heap.size 161 2 (.slice A (List.length R) c) (List.length R) (bals R)) ∧ Below w.heap.size w w' := by
  unfold balE
  rcases h with ⟨h1, rfl, h3⟩ | ⟨h1, h2, ⟨h3, rfl⟩ | ⟨h3, A, c, R, hR, rfl, hown⟩⟩
  · rw [h1, if_neg (by decide)]
    exact ⟨none, 0, [], rfl, ⟨fun h => (by cases h), fun _ => rfl⟩, World.ownsRow_nil _ _ _ _, h3⟩
  · rw [h1, if_pos rfl, h3, if_neg (by decide)]
    exact ⟨none, 0, [], rfl, ⟨fun h => (by cases h), fun _ => rfl⟩, World.ownsRow_nil _ _ _ _, h2⟩
  · rw [h1, if_pos rfl, h3, if_pos rfl]
    exact ⟨A, c, R, rfl, ⟨fun _ => hR, fun h => absurd rfl h⟩, hown, h2⟩
def prtR (o : OfT) (M : List Jrn) : List Pair := if balE o M = 0 then prsK (fun p => partSum p (gathL (pkP o) M)) 10 else []
theorem partEnd_is {w : World} {o : OfT} {M : List Jrn} {e : Ending} {w' : World} (h : PartEnd w o M e w') : ∃ A c, e = .returned (.tuple #[.slice A (prtR o M).length c, .int .i64 (balE o M)]) ∧ (w'.ownsRow w.heap.size 177 2 (.slice A (prtR o M).length c) (prtR o M).length (pairs (prtR o M))) ∧ Below w.heap.size w w' := by
  unfold prtR balE
  obtain ⟨hb, ⟨h1, rfl⟩ | ⟨h1, h3, rfl⟩ | ⟨h1, h3, A, c, R, rfl, rfl, hown⟩⟩ := h
  · rw [h1, if_neg (show ¬ (false = true) by decide), if_neg (show ¬ ((1 : Int) = 0) by decide)]
    exact ⟨none, 0, rfl, World.ownsRow_nil _ _ _ _, hb⟩
  · rw [h1, if_pos rfl, h3, if_neg (show ¬ (false = true) by decide), if_neg (show ¬ ((2 : Int) = 0) by decide)]
    exact ⟨none, 0, rfl, World.ownsRow_nil _ _ _ _, hb⟩
  · rw [h1, if_pos rfl, h3, if_pos rfl, if_pos rfl]
    exact ⟨A, c, rfl, hown, hb⟩
theorem prtR_len (o : OfT) (M : List Jrn) : (prtR o M).length ≤ 10 := by
  unfold prtR
  split
  · exact prsK_len _ _
  · exact Nat.zero_le _
/-- Journals that count nothing may be left out. -/
theorem gathL_filter (o : OfT) : ∀ M : List Jrn, gathL (pkL o) (M.filter (covO o)) = gathL (pkL o) M
  | [] => rfl
  | j :: r => by
    have ih := gathL_filter o r
    unfold gathL at ih ⊢
    rw [List.filter_cons, List.flatMap_cons]
    cases hc : covO o j
    · rw [if_neg (by decide), ih]
      have : pkL o j = [] := by unfold pkL; rw [hc]; rfl
      rw [this, List.nil_append]
    · rw [if_pos rfl, List.flatMap_cons, ih]
theorem gathP_filter (o : OfT) (M : List Jrn) : gathL (pkP o) (M.filter (covO o)) = gathL (pkP o) M := by
  have e : ∀ M : List Jrn, gathL (pkP o) M = partL (gathL (pkL o) M) := fun M => by
    unfold gathL partL pkP partL
    rw [List.filter_flatMap]
  rw [e, e, gathL_filter]
theorem balE_filter (o : OfT) (M : List Jrn) : balE o (M.filter (covO o)) = balE o M := by unfold balE; rw [gathL_filter]
theorem prtR_filter (o : OfT) (M : List Jrn) : prtR o (M.filter (covO o)) = prtR o M := by unfold prtR; rw [balE_filter, gathP_filter]
/-- Fewer journals may be in a book, too. -/
theorem GoodM.filter {M : List Jrn} (h : GoodM M) (p : Jrn → Bool) : GoodM (M.filter p) := by
  refine ⟨List.Pairwise.sublist List.filter_sublist h.rise, fun j hj => h.ok j (List.mem_filter.1 hj).1, Nat.le_trans (List.length_filter_le _ _) h.len, fun j hj => ?_⟩
  refine taken_of_leaves fun b hb => ?_
  exact leaves_of_taken (h.free j (List.mem_filter.1 hj).1) b (List.mem_filter.1 hb).1
end Go.Proofs.YtjlokkjbdgcooaaGreat

/-
  Some periods and those behind them: their sums together. No code.
-/
namespace Go.Proofs.YtjlokkjbdgcooaaGreat
open Go.RowKit
open Mo

theorem sumB_balsOf_append (a : Int) (l m : List Lin) : sumB a (balsOf (l ++ m)) = sumB a (balsOf l) + sumB a (balsOf m) := by
  unfold balsOf
  rw [List.map_append, sumB_append]
theorem sum_parts (ent frm mid til : Int) (h1 : frm ≤ mid) (h2 : mid < til) (a : Int) : ∀ M : List Jrn,
    sumB a (balsOf (gathL (pkL ⟨ent, frm, mid⟩) M)) + sumB a (balsOf (gathL (pkL ⟨ent, mid + 1, til⟩) M)) = sumB a (balsOf (gathL (pkL ⟨ent, frm, til⟩) M))
  | [] => rfl
  | j :: r => by
    have ih := sum_parts ent frm mid til h1 h2 a r
    unfold gathL at ih ⊢
    rw [List.flatMap_cons, List.flatMap_cons, List.flatMap_cons, sumB_balsOf_append, sumB_balsOf_append, sumB_balsOf_append, ← ih]
    have hj : sumB a (balsOf (pkL ⟨ent, frm, mid⟩ j)) + sumB a (balsOf (pkL ⟨ent, mid + 1, til⟩ j)) = sumB a (balsOf (pkL ⟨ent, frm, til⟩ j)) := by
      unfold pkL covO
      dsimp only
      by_cases e0 : (!j.void && decide (j.ent = ent)) = true
      · rw [e0]
        simp only [Bool.true_and, Bool.and_eq_true, decide_eq_true_eq]
        by_cases e1 : frm ≤ j.per
        · by_cases e2 : j.per ≤ mid
          · rw [if_pos ⟨e1, e2⟩, if_neg (by omega), if_pos ⟨e1, by omega⟩]
            simp [balsOf, sumB]
          · by_cases e3 : j.per ≤ til
            · rw [if_neg (by omega), if_pos ⟨by omega, e3⟩, if_pos ⟨e1, e3⟩]
              simp [balsOf, sumB]
            · rw [if_neg (by omega), if_neg (by omega), if_neg (by omega)]
              simp [balsOf, sumB]
        · rw [if_neg (by omega), if_neg (by omega), if_neg (by omega)]
          simp [balsOf, sumB]
      · rw [Bool.not_eq_true] at e0
        rw [e0]
        simp [balsOf, sumB]
    omega
theorem sub_parts {ent frm mid til : Int} {M : List Jrn} (h1 : frm ≤ mid) (h2 : mid < til) : (∀ x ∈ gathL (pkL ⟨ent, frm, mid⟩) M, x ∈ gathL (pkL ⟨ent, frm, til⟩) M) ∧ (∀ x ∈ gathL (pkL ⟨ent, mid + 1, til⟩) M, x ∈ gathL (pkL ⟨ent, frm, til⟩) M) := by
  constructor
  · intro x hx
    obtain ⟨j, hj, hxj⟩ := List.mem_flatMap.1 hx
    refine List.mem_flatMap.2 ⟨j, hj, ?_⟩
    unfold pkL at hxj ⊢
    split at hxj
    · rename_i hc
      unfold covO at hc ⊢
      simp only [Bool.and_eq_true, decide_eq_true_eq] at hc
      rw [if_pos (by simp only [Bool.and_eq_true, decide_eq_true_eq]; exact ⟨⟨⟨hc.1.1.1, hc.1.1.2⟩, hc.1.2⟩, by omega⟩)]
      exact hxj
    · cases hxj
  · intro x hx
    obtain ⟨j, hj, hxj⟩ := List.mem_flatMap.1 hx
    refine List.mem_flatMap.2 ⟨j, hj, ?_⟩
    unfold pkL at hxj ⊢
    split at hxj
    · rename_i hc
      unfold covO at hc ⊢
      simp only [Bool.and_eq_true, decide_eq_true_eq] at hc
      rw [if_pos (by simp only [Bool.and_eq_true, decide_eq_true_eq]; exact ⟨⟨⟨hc.1.1.1, hc.1.1.2⟩, by omega⟩, hc.2⟩)]
      exact hxj
    · cases hxj
theorem balE_zero {o : OfT} {M : List Jrn} (h : balE o M = 0) : mayO o = true ∧ plusB (balsOf (gathL (pkL o) M)) = true := by
  unfold balE at h
  split at h
  · rename_i h1
    split at h
    · rename_i h2
      exact ⟨h1, h2⟩
    · cases h
  · cases h
theorem balsOf_mem {l : List Lin} {y : Bal} (h : y ∈ balsOf l) : ∃ x ∈ l, balOf x = y := List.mem_map.1 h
/-- Both together fit, where the whole does. -/
theorem plusB_parts {ent frm mid til : Int} {M : List Jrn} {X Y : List Bal} (h1 : frm ≤ mid) (h2 : mid < til) (e1 : balE ⟨ent, frm, mid⟩ M = 0) (e2 : balE ⟨ent, mid + 1, til⟩ M = 0) (e3 : balE ⟨ent, frm, til⟩ M = 0)
    (hX : PlusOf (balsOf (gathL (pkL ⟨ent, frm, mid⟩) M)) X) (hY : PlusOf (balsOf (gathL (pkL ⟨ent, mid + 1, til⟩) M)) Y) : plusB (X ++ Y) = true ∧ ∀ a, sumB a (X ++ Y) = sumB a (balsOf (gathL (pkL ⟨ent, frm, til⟩) M)) := by
  have hs : ∀ a, sumB a (X ++ Y) = sumB a (balsOf (gathL (pkL ⟨ent, frm, til⟩) M)) := fun a => by rw [sumB_append, hX.sum, hY.sum, sum_parts ent frm mid til h1 h2]
  have p1 := plusB_iff.1 (balE_zero e1).2
  have p2 := plusB_iff.1 (balE_zero e2).2
  have p3 := plusB_iff.1 (balE_zero e3).2
  obtain ⟨s1, s2⟩ := sub_parts (ent := ent) (M := M) h1 h2
  refine ⟨plusB_iff.2 fun x hx => ?_, hs⟩
  rw [hs]
  rcases List.mem_append.1 hx with hx | hx
  · obtain ⟨y, hy, e⟩ := hX.from_ x hx
    have hm := (hX.mem x).1 hx
    obtain ⟨z, hz, rfl⟩ := balsOf_mem hy
    refine ⟨by rw [← hm.1, ← e]; exact (p1 _ hy).2, ?_⟩
    rw [← e]
    exact (p3 (balOf z) (List.mem_map_of_mem (s1 z hz))).2
  · obtain ⟨y, hy, e⟩ := hY.from_ x hx
    have hm := (hY.mem x).1 hx
    obtain ⟨z, hz, rfl⟩ := balsOf_mem hy
    refine ⟨by rw [← hm.1, ← e]; exact (p2 _ hy).2, ?_⟩
    rw [← e]
    exact (p3 (balOf z) (List.mem_map_of_mem (s2 z hz))).2
end Go.Proofs.YtjlokkjbdgcooaaGreat
