/-
  A region that draws its order, walked in stages: some operations that are quiet in a class of worlds, whatever their order; then some whose order is forced, and that may write; then quiet ones again. Of no program.
-/
import Derived.Deep.QuietTactic
import Derived.StillTail
import Derived.Lib.QuietBelow
import Derived.Test.YtjlokkjbdgcooaaGreatMany11
namespace Go.Proofs.YtjlokkjbdgcooaaGreat
open Go Go.RowKit Go.Sort

/-- So many from k on are done. -/
def lexD : Nat → Nat → Array Bool → Array Bool
  | 0, _, D => D
  | f + 1, k, D => lexD f (k + 1) (D.setIfInBounds k true)
/-- The first k are done, no other. -/
def doneTo (s k : Nat) : Array Bool := lexD k 0 (Array.replicate s false)
theorem lexD_add : ∀ (f g k : Nat) (D : Array Bool), lexD (f + g) k D = lexD g (k + f) (lexD f k D)
  | 0, g, k, D => by rw [Nat.zero_add]; rfl
  | f + 1, g, k, D => by
    rw [show f + 1 + g = (f + g) + 1 by omega]
    show lexD (f + g) (k + 1) _ = _
    rw [lexD_add f g (k + 1)]
    rw [show k + 1 + f = k + (f + 1) by omega]
    rfl
theorem doneTo_on (s k m : Nat) : lexD m k (doneTo s k) = doneTo s (k + m) := by
  unfold doneTo
  rw [lexD_add, Nat.zero_add]
def lexOk (md : Region.Mode) (ops : Array Oper) : Nat → Nat → Array Bool → Bool
  | 0, _, _ => true
  | f + 1, k, D => (Region.ready md ops D).contains k && Region.free md ops D k && lexOk md ops f (k + 1) (D.setIfInBounds k true)
def segOk (md : Region.Mode) (ops : Array Oper) : Nat → Nat → Array Bool → Bool
  | 0, _, _ => true
  | f + 1, k, D => decide (Region.ready md ops D = [k]) && segOk md ops f (k + 1) (D.setIfInBounds k true)
/-- Each behind n waits for one from n on. -/
def laterB (md : Region.Mode) (ops : Array Oper) (n : Nat) : Bool :=
  (List.range ops.size).all fun t => decide (t ≤ n) || (List.range t).any fun j => decide (n ≤ j) && Region.waitsFor md ops t j
def invB (md : Region.Mode) (ops : Array Oper) (n : Nat) (D : Array Bool) : Bool :=
  decide (D.size = ops.size) && (List.range ops.size).all fun j => (!D.getD j false || ((ops[j]?).map fun o => o.after.all fun e => !Region.binds md e || D.getD e.on false).getD true) && (decide (j < n) || !D.getD j true)
theorem inv_of {md : Region.Mode} {ops : Array Oper} {n : Nat} {D : Array Bool} (h : invB md ops n D = true) : HeadInv md ops n D := by
  unfold invB at h
  rw [Bool.and_eq_true, decide_eq_true_eq, List.all_eq_true] at h
  refine ⟨h.1, fun j oj hoj hl e he hb => ?_, fun t hn ht => ?_⟩
  · have hj : j < ops.size := (Array.getElem?_eq_some_iff.1 hoj).1
    have := h.2 j (List.mem_range.2 hj)
    rw [Bool.and_eq_true] at this
    have h1 := this.1
    rw [hl, hoj] at h1
    simp only [Bool.not_true, Bool.false_or, Option.map_some, Option.getD_some, Array.all_eq_true_iff_forall_mem] at h1
    have h2 := h1 e he
    rw [hb] at h2
    simpa using h2
  · have := h.2 t (List.mem_range.2 ht)
    rw [Bool.and_eq_true] at this
    have h1 := this.2
    rw [show decide (t < n) = false by simp; omega] at h1
    simpa using h1

section
variable {P : Program} {ops : Array Oper} {md : Region.Mode} {C : World → Prop}
theorem tail_waits2 {n : Nat} {D : Array Bool} (hs : Region.sinkB md ops n = true) (hc : laterB md ops n = true) (inv : HeadInv md ops n D) :
    ∀ (d i : Nat), n - i = d → i < n → D.getD i true = false → ∀ t, n ≤ t → t ∉ Region.ready md ops D := by
  intro d
  induction d using Nat.strongRecOn with
  | _ d ih =>
    intro i hd hi hun t ht hr
    obtain ⟨_, ot, hot, hall⟩ := mem_ready.1 hr
    have htlt : t < ops.size := (Array.getElem?_eq_some_iff.1 hot).1
    by_cases htn : t = n
    · subst htn
      have h1 := List.all_eq_true.1 hs i (List.mem_range.2 hi)
      obtain ⟨j, hj, hj2⟩ := List.any_eq_true.1 h1
      simp only [Bool.and_eq_true, decide_eq_true_eq] at hj2
      obtain ⟨oj, hoj, e, he, hb, hon⟩ := Region.waitsFor_spec hj2.2
      have hjle : j ≤ t := by have := List.mem_range.1 hj; omega
      by_cases hjt : j = t
      · subst hjt
        have : oj = ot := Option.some.inj (hoj.symm.trans hot)
        subst this
        have h2 := hall e he hb
        rw [hon, getD_both hun] at h2
        cases h2
      · have hjlt : j < ops.size := (Array.getElem?_eq_some_iff.1 hoj).1
        have hjun : D.getD j true = false := by
          cases hg : D.getD j false
          · have hsz := inv.size
            simp [hsz, hjlt] at hg ⊢
            exact hg
          · have h2 := inv.closed j oj hoj hg e he hb
            rw [hon, getD_both hun] at h2
            cases h2
        exact ih (t - j) (by omega) j rfl (by omega) hjun t (Nat.le_refl _) hr
    · have h1 := List.all_eq_true.1 hc t (List.mem_range.2 htlt)
      rw [Bool.or_eq_true, decide_eq_true_eq] at h1
      rcases h1 with h1 | h1
      · omega
      · obtain ⟨j, hj, hj2⟩ := List.any_eq_true.1 h1
        simp only [Bool.and_eq_true, decide_eq_true_eq] at hj2
        obtain ⟨oj, hoj, e, he, hb, hon⟩ := Region.waitsFor_spec hj2.2
        have : oj = ot := Option.some.inj (hoj.symm.trans hot)
        subst this
        have h2 := hall e he hb
        have hjt := List.mem_range.1 hj
        rw [hon, getD_both (inv.tail j hj2.1 (by omega))] at h2
        cases h2

theorem Heads.first2 {n i : Nat} {oi : Oper} {v : Value} {L : Array Bool → Act → Prop} (hi : ops[i]? = some oi) (hsel : ∀ (j : Nat) (o : Oper) cs b, ops[j]? = some o → o.op ≠ .select cs b)
    (hs : Region.sinkB md ops n = true) (hc : laterB md ops n = true) (hin : i < n) (hend : ∀ done a, L done a → ∀ j ∈ Region.ready md ops done, n ≤ j) (f : Nat) :
    ∀ (done : Array Bool) (a : Act), HeadInv md ops n done →
      (∀ j oj, ops[j]? = some oj → j ≠ i → done.getD j true = false → (∀ e ∈ oj.after, Region.binds md e = true → e.on ≠ i) → oi.apart ops oj = true) →
      i ∈ Region.ready md ops done → YieldsIn P ops C oi v a →
      Heads P md ops C n L f (done.setIfInBounds i true) (a.put oi.dst v) → Heads P md ops C n L (f + 1) done a := by
  induction f with
  | zero =>
    intro done a inv _ hr hy H
    have hun := (mem_ready.1 hr).1
    refine ⟨List.ne_nil_of_mem hr, fun j hj => ?_⟩
    have hjn : j < n := Nat.lt_of_not_le fun h => tail_waits2 hs hc inv _ i rfl hin hun j h hj
    refine ⟨hjn, ?_⟩
    by_cases e : j = i
    · rw [e]; exact hy.qOp hi H
    · exact absurd (hend _ _ H j (ready_mono hj e)) (by omega)
  | succ f ih =>
    intro done a inv hfree hr hy H
    have hun := (mem_ready.1 hr).1
    refine ⟨List.ne_nil_of_mem hr, fun j hj => ?_⟩
    have hjn : j < n := Nat.lt_of_not_le fun h => tail_waits2 hs hc inv _ i rfl hin hun j h hj
    refine ⟨hjn, ?_⟩
    by_cases e : j = i
    · rw [e]; exact hy.qOp hi H
    have h1 := (H.2 j (ready_mono hj e)).2
    obtain ⟨hjun, oj, hoj, hall⟩ := mem_ready.1 hj
    have hap := hfree j oj hoj e hjun fun x hx hb hxi => by
      have h2 := hall x hx hb
      rw [hxi, getD_both hun] at h2
      cases h2
    refine qOp_mono (fun a' h3 => ih _ a' (inv.set hj hjn) (fun k ok hk hki hku hno => hfree k ok hk hki ?_ hno) (ready_mono hr (Ne.symm e)) h3.1 ?_) (qOp_put hoj hap (fun cs b => hsel i oi cs b hi) (fun cs b => hsel j oj cs b hoj) hy h1)
    · by_cases hjk : j = k
      · rw [← hjk]; exact hjun
      · rwa [getD_set_ne true hjk] at hku
    · rw [Array.setIfInBounds_comm _ _ e]
      exact h3.2

theorem Heads.lex2 {n : Nat} {L : Array Bool → Act → Prop} (hsel : Region.noSelect ops = true) (hs : Region.sinkB md ops n = true) (hc : laterB md ops n = true) (hend : ∀ done a, L done a → ∀ j ∈ Region.ready md ops done, n ≤ j) :
    ∀ (l : List Oper) (k : Nat) (done : Array Bool) (a : Act), (∀ j, j < l.length → l[j]? = ops[k + j]?) → k + l.length = n → HeadInv md ops n done → lexOk md ops l.length k done = true → wpQuiet P ops C (fun a' => L (lexD l.length k done) a') l a →
    Heads P md ops C n L l.length done a
  | [], k, done, a, _, hk, _, hB, h => h
  | o :: l, k, done, a, hl, hk, inv, hB, h => by
    rw [List.length_cons] at hk
    have h0 : ops[k]? = some o := by simpa using (hl 0 (by simp)).symm
    simp only [List.length_cons, lexOk, Bool.and_eq_true] at hB
    have hr : k ∈ Region.ready md ops done := by simpa using hB.1.1
    have hq : qOp P ops C k (wpQuiet P ops C (fun a' => L (lexD (o :: l).length k done) a') l) a := by unfold qOp; simp only [h0]; exact h
    obtain ⟨v, hy, hK⟩ := yieldsIn_of_qOp h0 hq
    refine Heads.first2 h0 (Region.noSelect_spec hsel) hs hc (by omega) hend l.length done a inv (Region.free_spec h0 hB.1.2) hr hy (Heads.lex2 hsel hs hc hend l (k + 1) _ _ (fun j hj => ?_) (by omega) (inv.set hr (by omega)) hB.2 hK)
    have := hl (j + 1) (by simp; omega)
    rw [show k + 1 + j = k + (j + 1) by omega]
    simpa using this
end

/-- The first k are done. -/
def StageAt (P : Program) (ops : Array Oper) (Q : Exit → Act → World → Prop) (k : Nat) (a : Act) (w : World) : Prop := wpAny P .any ops Q (ops.size - k) (doneTo ops.size k) a w
def stageB (ops : Array Oper) (k n : Nat) : Bool :=
  Region.noSelect ops && decide (k ≤ n) && decide (n < ops.size) && Region.sinkB .any ops n && laterB .any ops n && invB .any ops n (doneTo ops.size k) && lexOk .any ops (n - k) k (doneTo ops.size k) && (Region.ready .any ops (doneTo ops.size n)).all fun j => decide (n ≤ j)

theorem stage_quiet {P : Program} {C : World → Prop} {Q : Exit → Act → World → Prop} {a : Act} {w : World} {l : List Oper} (k n : Nat) (hB : stageB l.toArray k n = true) (hw : C w)
    (h : wpQuiet P l.toArray C (fun a' => ∀ w', C w' → StageAt P l.toArray Q n a' w') ((l.drop k).take (n - k)) a) : StageAt P l.toArray Q k a w := by
  simp only [stageB, Bool.and_eq_true, decide_eq_true_eq] at hB
  obtain ⟨⟨⟨⟨⟨⟨⟨hsel, hkn⟩, hn⟩, hs⟩, hc⟩, hinv⟩, hlex⟩, hend⟩ := hB
  have hn' : n < l.length := by simpa using hn
  have htl : ((l.drop k).take (n - k)).length = n - k := by simp; omega
  have hdn : lexD (n - k) k (doneTo l.toArray.size k) = doneTo l.toArray.size n := by rw [doneTo_on, show k + (n - k) = n by omega]
  have H := Heads.lex2 (P := P) (C := C) (L := fun done a' => done = doneTo l.toArray.size n ∧ ∀ w', C w' → StageAt P l.toArray Q n a' w') hsel hs hc
    (fun done a' hL j hj => by
      rw [hL.1] at hj
      have := List.all_eq_true.1 hend j hj
      simpa using this) ((l.drop k).take (n - k)) k (doneTo l.toArray.size k) a
    (fun j hj => by rw [htl] at hj; simp [List.getElem?_take, hj]) (by rw [htl]; omega) (inv_of hinv) (by rw [htl]; exact hlex) (by rw [htl, hdn]; simpa using h)
  unfold StageAt
  have := Heads.any (Q := Q) (g := l.toArray.size - n) (fun done a' w' hw' hL => by rw [hL.1]; exact hL.2 w' hw') _ _ _ _ hw H
  rw [htl] at this
  rw [show l.toArray.size - k = n - k + (l.toArray.size - n) by omega]
  exact this

/-- Behind a list: a continuation, all other exits as before. -/
def StQ (Q : Exit → Act → World → Prop) (K : Act → World → Prop) : Exit → Act → World → Prop
  | .normal, a, w => K a w
  | e, a, w => Q e a w
theorem upon_StQ {P : Program} {o : Oper} {a : Act} {next : Act → World → Prop} {Q : Exit → Act → World → Prop} {K : Act → World → Prop} {r : Result Next} (h : o.upon P a next (StQ Q K) r) : o.upon P a next Q r := by
  cases r with
  | ok n w' =>
    cases n <;> first
      | exact h
      | exact Calls.mono h fun e w'' he => by cases e <;> exact he
  | halt x w' => cases x <;> exact h
theorem wpAny_seg {P : Program} {ops : Array Oper} {Q : Exit → Act → World → Prop} {g : Nat} : ∀ (l : List Oper) (k : Nat) (D : Array Bool) (a : Act) (w : World), (∀ j, j < l.length → l[j]? = ops[k + j]?) →
    segOk .any ops l.length k D = true → wpList P ops (StQ Q fun a' w' => wpAny P .any ops Q g (lexD l.length k D) a' w') l a w → wpAny P .any ops Q (l.length + g) D a w
  | [], _, D, _, _, _, _, h => by
    rw [List.length_nil, Nat.zero_add]
    exact h
  | o :: l, k, D, a, w, hl, hB, h => by
    have h0 : ops[k]? = some o := by simpa using (hl 0 (by simp)).symm
    simp only [List.length_cons, segOk, Bool.and_eq_true, decide_eq_true_eq] at hB
    rw [List.length_cons, show l.length + 1 + g = (l.length + g) + 1 by omega]
    refine ⟨fun h1 => (by rw [hB.1] at h1; cases h1), fun i hi => ?_⟩
    rw [hB.1] at hi
    have hik : i = k := by simpa using hi
    subst hik
    have hw : wpOp P ops Q i (wpList P ops (StQ Q fun a' w' => wpAny P .any ops Q g (lexD l.length (i + 1) (D.setIfInBounds i true)) a' w') l) a w := by
      unfold wpOp
      simp only [h0]
      unfold wpList at h
      split
      · rename_i hwd
        rw [if_pos hwd] at h
        exact h.imp upon_StQ id
      · rename_i hwd
        rw [if_neg hwd] at h
        exact h
    exact wpOp_mono (fun a' w' h' => wpAny_seg l (i + 1) _ a' w' (fun j hj => by
      have := hl (j + 1) (by simp; omega)
      rw [show i + 1 + j = i + (j + 1) by omega]
      simpa using this) hB.2 h') hw
def segB (ops : Array Oper) (k n : Nat) : Bool := decide (k ≤ n) && decide (n ≤ ops.size) && segOk .any ops (n - k) k (doneTo ops.size k)
theorem stage_run {P : Program} {Q : Exit → Act → World → Prop} {a : Act} {w : World} {l : List Oper} (k n : Nat) (hB : segB l.toArray k n = true)
    (h : wpList P l.toArray (StQ Q fun a' w' => StageAt P l.toArray Q n a' w') ((l.drop k).take (n - k)) a w) : StageAt P l.toArray Q k a w := by
  simp only [segB, Bool.and_eq_true, decide_eq_true_eq] at hB
  obtain ⟨⟨hkn, hn⟩, hseg⟩ := hB
  have hn' : n ≤ l.length := by simpa using hn
  have htl : ((l.drop k).take (n - k)).length = n - k := by simp; omega
  have hdn : lexD (n - k) k (doneTo l.toArray.size k) = doneTo l.toArray.size n := by rw [doneTo_on, show k + (n - k) = n by omega]
  have := wpAny_seg (P := P) (ops := l.toArray) (Q := Q) (g := l.toArray.size - n) ((l.drop k).take (n - k)) k (doneTo l.toArray.size k) a w (fun j hj => by rw [htl] at hj; simp [List.getElem?_take, hj]) (by rw [htl]; exact hseg) (by rw [htl, hdn]; exact h)
  unfold StageAt
  rw [htl] at this
  rw [show l.toArray.size - k = n - k + (l.toArray.size - n) by omega]
  exact this
theorem stage_end {P : Program} {Q : Exit → Act → World → Prop} {a : Act} {w : World} {l : List Oper} (k : Nat) (hB : decide (k ≤ l.toArray.size) && Region.seqB .any l.toArray (l.toArray.size - k) k (doneTo l.toArray.size k) = true)
    (h : wpList P l.toArray Q (l.drop k) a w) : StageAt P l.toArray Q k a w := by
  simp only [Bool.and_eq_true, decide_eq_true_eq] at hB
  have hdl : (l.drop k).length = l.toArray.size - k := by simp
  have := wpAny_of_seq (md := .any) (Q' := Q) (l.drop k) k (doneTo l.toArray.size k) a w (fun j => by simp [List.getElem?_drop]) (by rw [hdl]; exact hB.2) h
  rw [hdl] at this
  exact this
/-- At the class 'blocks laid behind, draws'. -/
theorem stage_below {P : Program} {Q : Exit → Act → World → Prop} {a : Act} {w : World} {l : List Oper} (k n : Nat) (hB : stageB l.toArray k n = true)
    (h : wpQuiet P l.toArray (fun w' => ∃ p : Regrown, w' = grow (redrawn w p.d) p.os) (fun a' => ∀ w', (∃ p : Regrown, w' = grow (redrawn w p.d) p.os) → StageAt P l.toArray Q n a' w') ((l.drop k).take (n - k)) a) : StageAt P l.toArray Q k a w :=
  stage_quiet (C := fun w' => ∃ p : Regrown, w' = grow (redrawn w p.d) p.os) k n hB ⟨⟨w.drawn, #[]⟩, by rw [grow_empty]; rfl⟩ h
/-- The beginning, with what is quiet there. -/
theorem wp_region_stages {P : Program} {id : Nat} {Q : Exit → Act → World → Prop} {a : Act} {w : World} {l : List Oper} (n : Nat) (hm : P.follows .mixedOrders = true) (hB : stageB l.toArray 0 n = true)
    (h : wpQuiet P l.toArray (fun w' => ∃ p : Regrown, w' = grow (redrawn w p.d) p.os) (fun a' => ∀ w', (∃ p : Regrown, w' = grow (redrawn w p.d) p.os) → StageAt P l.toArray Q n a' w') (l.take n) a) : (Code.region id l.toArray true).wp P Q a w := by
  refine wp_region_any hm ?_
  have := stage_quiet (Q := Q) (w := { w with drawn := w.drawn + 1 }) (C := fun w' => ∃ p : Regrown, w' = grow (redrawn w p.d) p.os) 0 n hB ⟨⟨w.drawn + 1, #[]⟩, by rw [grow_empty]; rfl⟩ (by simpa using h)
  exact this
end Go.Proofs.YtjlokkjbdgcooaaGreat

