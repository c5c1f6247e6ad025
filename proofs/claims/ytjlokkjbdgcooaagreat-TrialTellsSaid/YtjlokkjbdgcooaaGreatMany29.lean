/-
  Several texts, one behind the other: what each holds stands ahead of it.
-/
import Derived.Test.YtjlokkjbdgcooaaGreatTrialPart
import Derived.Test.YtjlokkjbdgcooaaGreatMany11
import Derived.Test.YtjlokkjbdgcooaaGreatMany12
import Derived.Test.YtjlokkjbdgcooaaGreatMany28
import Derived.BigQuiet
import Derived.Test.YtjlokkjbdgcooaaGreatMany20

/-
  What Balances and Partners tell, each in one form.
-/
namespace Go.Proofs.YtjlokkjbdgcooaaGreat
open Go.RowKit
open Mo

theorem rise_lenB : ∀ (R l : List Bal), (R.Pairwise fun x y => x.acct < y.acct) → (∀ x ∈ R, ∃ y ∈ l, y.acct = x.acct) → R.length ≤ l.length
  | [], _, _, _ => Nat.zero_le _
  | x :: r, l, hr, h => by
    have h2 := List.pairwise_cons.1 hr
    obtain ⟨y, hy, e⟩ := h x (List.mem_cons_self ..)
    have ih := rise_lenB r (l.filter fun z => z.acct != x.acct) h2.2 fun z hz => by
      obtain ⟨u, hu, e2⟩ := h z (List.mem_cons_of_mem _ hz)
      have := h2.1 z hz
      exact ⟨u, List.mem_filter.2 ⟨hu, by simp; omega⟩, e2⟩
    have hlt : (l.filter fun z => z.acct != x.acct).length < l.length := List.length_filter_lt_length_iff_exists.2 ⟨y, hy, by simp [e]⟩
    rw [List.length_cons]
    omega
theorem PlusOf.from_ {l R : List Bal} (h : PlusOf l R) : ∀ x ∈ R, ∃ y ∈ l, y.acct = x.acct := fun x hx => by
  have h1 := (h.mem x).1 hx
  by_cases hy : ∃ y ∈ l, y.acct = x.acct
  · exact hy
  · rw [sumB_out fun y hm e => hy ⟨y, hm, e⟩] at h1
    omega
theorem PlusOf.lenB {l R : List Bal} (h : PlusOf l R) : R.length ≤ l.length := rise_lenB R l h.rise h.from_
def balE (o : OfT) (M : List Jrn) : Int := if mayO o = true then (if plusB (balsOf (gathL (pkL o) M)) = true then 0 else 2) else 1
def BalIs (L : List Bal) (E : Int) (R : List Bal) : Prop := (E = 0 → PlusOf L R) ∧ (E ≠ 0 → R = [])
theorem BalIs.unique {L L' R R' : List Bal} {E : Int} (h : BalIs L E R) (h' : BalIs L' E R') (he : ∀ a, sumB a L = sumB a L') : R = R' := by
  by_cases hE : E = 0
  · exact (h.1 hE).unique (h'.1 hE) he
  · rw [h.2 hE, h'.2 hE]
theorem BalIs.len {L R : List Bal} {E : Int} (h : BalIs L E R) : R.length ≤ L.length := by
  by_cases hE : E = 0
  · exact (h.1 hE).lenB
  · rw [h.2 hE]; exact Nat.zero_le _
theorem balEnd_is {w : World} {o : OfT} {M : List Jrn} {e : Ending} {w' : World} (h : BalEnd w o M e w') : ∃ A c R, e = .returned (.tuple #[.slice A (List.length R) c, .int .i64 (balE o M)]) ∧ BalIs (balsOf (gathL (pkL o) M)) (balE o M) R ∧ (w'.ownsRow w.heap.size 161 2 (.slice A (List.length R) c) (List.length R) (bals R)) ∧ Below w.heap.size w w' := by
  unfold balE
  rcases h with ⟨h1, rfl, h3⟩ | ⟨h1, h2, ⟨h3, rfl⟩ | ⟨h3, A, c, R, hR, rfl, hown⟩⟩
  · rw [h1, if_neg (by decide)]
    exact ⟨none, 0, [], rfl, ⟨fun h => (by cases h), fun _ => rfl⟩, World.ownsRow_nil _ _ _ _, h3⟩
  · rw [h1, if_pos rfl, h3, if_neg (by decide)]
    exact ⟨none, 0, [], rfl, ⟨fun h => (by cases h), fun _ => rfl⟩, World.ownsRow_nil _ _ _ _, h2⟩
  · rw [h1, if_pos rfl, h3, if_pos rfl]
    exact ⟨A, c, R, rfl, ⟨fun _ => hR, fun h => absurd rfl h⟩, hown, h2⟩
def prtR (o : OfT) (M : List Jrn) : List Pair := if balE o M = 0 then prsK (fun p => partSum p (gathL (pkP o) M)) 10 else []
theorem partEnd_is {w : World} {o : OfT} {M : List Jrn} {e : Ending} {w' : World} (h : PartEnd w o M e w') : ∃ A c, e = .returned (.tuple #[.slice A (prtR o M).length c, .int .i64 (balE o M)]) ∧ (w'.ownsRow w.heap.size 177 2 (.slice A (prtR o M).length c) (prtR o M).length (pairs (prtR o M))) ∧ Below w.heap.size w w' := by
  unfold prtR balE
  obtain ⟨hb, ⟨h1, rfl⟩ | ⟨h1, h3, rfl⟩ | ⟨h1, h3, A, c, R, rfl, rfl, hown⟩⟩ := h
  · rw [h1, if_neg (show ¬ (false = true) by decide), if_neg (show ¬ ((1 : Int) = 0) by decide)]
    exact ⟨none, 0, rfl, World.ownsRow_nil _ _ _ _, hb⟩
  · rw [h1, if_pos rfl, h3, if_neg (show ¬ (false = true) by decide), if_neg (show ¬ ((2 : Int) = 0) by decide)]
    exact ⟨none, 0, rfl, World.ownsRow_nil _ _ _ _, hb⟩
  · rw [h1, if_pos rfl, h3, if_pos rfl, if_pos rfl]
    exact ⟨A, c, rfl, hown, hb⟩
theorem prtR_len (o : OfT) (M : List Jrn) : (prtR o M).length ≤ 10 := by
  unfold prtR
  split
  · exact prsK_len _ _
  · exact Nat.zero_le _
/-- Journals that count nothing may be left out. -/
theorem gathL_filter (o : OfT) : ∀ M : List Jrn, gathL (pkL o) (M.filter (covO o)) = gathL (pkL o) M
  | [] => rfl
  | j :: r => by
    have ih := gathL_filter o r
    unfold gathL at ih ⊢
    rw [List.filter_cons, List.flatMap_cons]
    cases hc : covO o j
    · rw [if_neg (by decide), ih]
      have : pkL o j = [] := by unfold pkL; rw [hc]; rfl
      rw [this, List.nil_append]
    · rw [if_pos rfl, List.flatMap_cons, ih]
theorem gathP_filter (o : OfT) (M : List Jrn) : gathL (pkP o) (M.filter (covO o)) = gathL (pkP o) M := by
  have e : ∀ M : List Jrn, gathL (pkP o) M = partL (gathL (pkL o) M) := fun M => by
    unfold gathL partL pkP partL
    rw [List.filter_flatMap]
  rw [e, e, gathL_filter]
theorem balE_filter (o : OfT) (M : List Jrn) : balE o (M.filter (covO o)) = balE o M := by unfold balE; rw [gathL_filter]
theorem prtR_filter (o : OfT) (M : List Jrn) : prtR o (M.filter (covO o)) = prtR o M := by unfold prtR; rw [balE_filter, gathP_filter]
/-- Fewer journals may be in a book, too. -/
theorem GoodM.filter {M : List Jrn} (h : GoodM M) (p : Jrn → Bool) : GoodM (M.filter p) := by
  refine ⟨List.Pairwise.sublist List.filter_sublist h.rise, fun j hj => h.ok j (List.mem_filter.1 hj).1, Nat.le_trans (List.length_filter_le _ _) h.len, fun j hj => ?_⟩
  refine taken_of_leaves fun b hb => ?_
  exact leaves_of_taken (h.free j (List.mem_filter.1 hj).1) b (List.mem_filter.1 hb).1
end Go.Proofs.YtjlokkjbdgcooaaGreat

/-
  Contracts of the reference of chapter 10: Plain, Lines.
-/
namespace Go.Proofs.YtjlokkjbdgcooaaGreat
open Mo
open Go.RowKit

def plainL (l : List Bal) : List Bal := if (l.all fun x => fits1 x.amt) = true then l.filter fun x => x.amt != 0 else []
theorem plain_yes {l : List Bal} {k : Nat} {a : Bal} (h : l[k]? = some a) (h0 : ((l.take k).all fun x => fits1 x.amt) = true) (h1 : fits1 a.amt = true) : ((l.take (k + 1)).all fun x => fits1 x.amt) = true := by
  obtain ⟨hk, rfl⟩ := List.getElem?_eq_some_iff.1 h
  rw [List.take_succ_eq_append_getElem hk, List.all_append, h0]
  simpa using h1
theorem plain_no {l : List Bal} {k : Nat} {a : Bal} (h : l[k]? = some a) (h1 : fits1 a.amt = false) : (l.all fun x => fits1 x.amt) = false := by
  rw [List.all_eq_false]
  exact ⟨a, List.mem_of_getElem? h, by rw [h1]; decide⟩
set_option maxRecDepth 100000 in
set_option maxHeartbeats 2000000 in
theorem refPlain_any (l : List Bal) (A : Option Addr) (n c B : Nat) (w : World) (h : Rd w B 2 A n (bals l)) (hB : B ≤ w.heap.size) (hn : n ≤ 1000000) :
    Calls Tryz.prog 116 #[.slice A n c] w fun e w' => ∃ A' c', e = .returned (.tuple #[.slice A' (plainL l).length c', .bool (l.all fun x => fits1 x.amt)]) ∧ w'.ownsRow w.heap.size 161 2 (.slice A' (plainL l).length c') (plainL l).length (bals (plainL l)) ∧ Below w.heap.size w w' := by
  have HL := Lib.hid h.bals_len
  have HR := Lib.hid h
  obtain ⟨z, hz⟩ : ∃ z, (l.all fun x => fits1 x.amt) = z := ⟨_, rfl⟩
  have HP : Hid (plainL l = if z = true then l.filter fun x => x.amt != 0 else []) := by rw [Hid, ← hz]; rfl
  obtain ⟨P, hP⟩ : ∃ P, plainL l = P := ⟨_, rfl⟩
  rw [hz, hP]
  rw [hP] at HP
  have HZ := Lib.hid hz
  clear h hz hP
  go_enter Tryz.func116, Tryz.ntmps116
  go_wp2_with fail
  go_loopw [4, 5] (fun lv iv wr => ∃ k : Nat, k ≤ n ∧ iv = .int .i64 k ∧ Hid (((l.take k).all fun x => fits1 x.amt) = true) ∧ (∃ A' c', lv = .slice A' ((l.take k).filter fun x => x.amt != 0).length c' ∧ wr.ownsRow w.heap.size 161 2 (.slice A' ((l.take k).filter fun x => x.amt != 0).length c') ((l.take k).filter fun x => x.amt != 0).length (bals ((l.take k).filter fun x => x.amt != 0))) ∧ Below w.heap.size w wr) (fun _ iv _ => n - (intOf iv).toNat)
  case atStart => exact ⟨0, Nat.zero_le _, rfl, by simp [Hid], ⟨none, 0, rfl, World.ownsRow_nil _ _ _ _⟩, Below.refl _ _⟩
  case round =>
    obtain ⟨k, hk, rfl, HF, ⟨A', c', rfl, hown⟩, hbel⟩ := hrel
    have hzr := hbel.size
    have HBE := Lib.hid hbel
    have hl1 := filter_len (p := fun x => x.amt != 0) l k
    obtain ⟨M, hM⟩ : ∃ M, ((l.take k).filter fun x => x.amt != 0) = M := ⟨_, rfl⟩
    rw [hM] at hown hl1 ⊢
    by_cases hlt : k < n
    · obtain ⟨ad, x, rfl, hb0, hx, p0, p1⟩ := (HR.out.far hbel hB).bal hlt
      have p1' := cell_behind (j := 1) p1 (by omega)
      have hkI : (k : Int) < (n : Int) := by omega
      have hY := filter_yes (p := fun x => x.amt != 0) hx
      have hN := filter_no (p := fun x => x.amt != 0) hx
      rw [hM] at hY hN
      have HY := Lib.hid hY; have HN := Lib.hid hN
      have HX := Lib.hid hx
      have kf := Lib.hid (refFits_any x.amt wr)
      have HFY := Lib.hid (plain_yes hx HF.out)
      have HFN := Lib.hid (plain_no hx)
      have HO := Lib.hid hown
      clear hx hY hN hM hbel
      obtain ⟨f, hf⟩ : ∃ f, fits1 x.amt = f := ⟨_, rfl⟩
      rw [hf] at kf HFY HFN
      obtain ⟨x1, x2⟩ := x
      dsimp only at *
      clear p1
      cases f
      · have HZF : Hid (z = false) := HZ.out.symm.trans (HFN.out rfl)
        clear hown
        go_wp2_with fail
        refine kf.out.mono ?_
        rintro e w2 ⟨rfl, rfl⟩
        go_wp2_with fail
        go_ret2
        have hp := HP.out
        rw [HZF.out] at hp ⊢
        rw [if_neg (by decide)] at hp
        subst hp
        exact ⟨none, 0, rfl, World.ownsRow_nil _ _ _ _, HBE.out⟩
      · have HF2 := Lib.hid (HFY.out rfl)
        by_cases h0 : x2 = 0
        · have HE := Lib.hid (HN.out (by show (x2 != 0) = false; rw [h0]; rfl))
          have H0 := Lib.hid h0
          subst h0
          clear hown
          go_wp2_with fail
          refine kf.out.mono ?_
          rintro e w2 ⟨rfl, rfl⟩
          go_wp2_with fail
          refine ⟨⟨k + 1, by omega, by go_num, HF2.out, ⟨A', c', ?_, ?_⟩, HBE.out⟩, by simp [intOf]; omega⟩
          · rw [HE.out]
          · rw [HE.out]; exact HO.out
        · have h0b : (x2 != 0) = true := by simpa using h0
          have HE := Lib.hid (HY.out h0b)
          obtain ⟨v7, w7, hrun, hown7, _, hb7, _⟩ := append_bal1 ⟨x1, x2⟩ hown hzr (by omega)
          obtain ⟨A7, c7, rfl⟩ := own_form hown7
          have HO7 := Lib.hid hown7
          have HB7 := Lib.hid (HBE.out.trans hb7)
          have HLL : Hid ((M ++ [(⟨x1, x2⟩ : Bal)]).length = M.length + 1) := by simp [Hid]
          dsimp only at hrun
          clear hown hown7 hb7
          go_wp2_with fail
          refine kf.out.mono ?_
          rintro e w2 ⟨rfl, rfl⟩
          go_wp2_with (at_builtin; refine Lib.wpList_append_run _ rfl _ _ _ _ rfl _ _ rfl rfl _ _ (hrun _) ?_)
          refine ⟨⟨k + 1, by omega, by go_num, HF2.out, ⟨A7, c7, ?_, ?_⟩, HB7.out⟩, by simp [intOf]; omega⟩
          · rw [HE.out, HLL.out]
          · rw [HE.out, HLL.out]; exact HO7.out
    · have htk : l.take k = l := List.take_of_length_le (by rw [HL.out]; omega)
      have hf := HF.out
      rw [htk] at hM hf
      have hzt : z = true := HZ.out.symm.trans hf
      have hp := HP.out
      rw [hzt, if_pos rfl, hM] at hp
      subst hp
      have HO := Lib.hid hown
      have HZT := Lib.hid hzt
      clear hown hbel hM htk hf hzt
      go_wp2_with fail
      go_ret2
      exact ⟨A', c', by rw [HZT.out]; rfl, HO.out, HBE.out⟩
end Go.Proofs.YtjlokkjbdgcooaaGreat

/-
  Contract of the reference's Put of chapter 10: an amount at its account.
-/
namespace Go.Proofs.YtjlokkjbdgcooaaGreat
open Mo
open Go.RowKit

def putM : List Bal → Int → Int → List Bal
  | [], a, x => [⟨a, x⟩]
  | b :: r, a, x => if b.acct = a then ⟨b.acct, b.amt + x⟩ :: r else if a < b.acct then ⟨a, x⟩ :: b :: r else b :: putM r a x
theorem putM_len : ∀ (l : List Bal) (a x : Int), (putM l a x).length ≤ l.length + 1
  | [], _, _ => by simp [putM]
  | b :: r, a, x => by
    have := putM_len r a x
    unfold putM
    split
    · simp
    · split <;> simp; omega
theorem putM_sum (c : Int) : ∀ (l : List Bal) (a x : Int), sumB c (putM l a x) = sumB c l + (if a = c then x else 0)
  | [], a, x => by simp [putM, sumB]
  | b :: r, a, x => by
    have ih := putM_sum c r a x
    unfold putM
    by_cases h1 : b.acct = a
    · rw [if_pos h1]
      simp only [sumB, h1]
      split <;> omega
    · rw [if_neg h1]
      by_cases h2 : a < b.acct
      · rw [if_pos h2]
        simp only [sumB]
        omega
      · rw [if_neg h2]
        simp only [sumB, ih]
        omega
theorem putM_mem : ∀ {l : List Bal} {a x : Int} {y : Bal}, y ∈ putM l a x → y.acct = a ∨ y ∈ l
  | [], a, x, y, h => by simp [putM] at h; exact .inl (by rw [h])
  | b :: r, a, x, y, h => by
    unfold putM at h
    split at h
    · rename_i h1
      rcases List.mem_cons.1 h with rfl | h
      · exact .inl h1
      · exact .inr (List.mem_cons_of_mem _ h)
    · split at h
      · rcases List.mem_cons.1 h with rfl | h
        · exact .inl rfl
        · exact .inr h
      · rcases List.mem_cons.1 h with rfl | h
        · exact .inr (List.mem_cons_self ..)
        · rcases putM_mem h with h | h
          · exact .inl h
          · exact .inr (List.mem_cons_of_mem _ h)
theorem putM_rise : ∀ {l : List Bal} (a x : Int), (l.Pairwise fun p q => p.acct < q.acct) → (putM l a x).Pairwise fun p q => p.acct < q.acct
  | [], _, _, _ => by simp [putM]
  | b :: r, a, x, h => by
    rw [List.pairwise_cons] at h
    unfold putM
    split
    · exact List.pairwise_cons.2 ⟨h.1, h.2⟩
    · rename_i h1
      split
      · rename_i h2
        refine List.pairwise_cons.2 ⟨fun y hy => ?_, List.pairwise_cons.2 h⟩
        rcases List.mem_cons.1 hy with rfl | hy
        · exact h2
        · have := h.1 y hy
          show a < y.acct
          omega
      · rename_i h2
        refine List.pairwise_cons.2 ⟨fun y hy => ?_, putM_rise a x h.2⟩
        rcases putM_mem hy with e | hy
        · rw [e]; omega
        · exact h.1 y hy

/-- What is still to come behind a place. -/
def restM (d : Bool) (l : List Bal) (k : Nat) (a x : Int) : List Bal := if d = true then l.drop k else putM (l.drop k) a x
theorem restM_done {l : List Bal} {k : Nat} {a x : Int} {b : Bal} (h : l[k]? = some b) : restM true l k a x = b :: restM true l (k + 1) a x := by
  obtain ⟨hk, rfl⟩ := List.getElem?_eq_some_iff.1 h
  unfold restM
  rw [if_pos rfl, if_pos rfl, List.drop_eq_getElem_cons hk]
theorem restM_at {l : List Bal} {k : Nat} {a x : Int} {b : Bal} (h : l[k]? = some b) (e : b.acct = a) : restM false l k a x = ⟨b.acct, b.amt + x⟩ :: restM true l (k + 1) a x := by
  obtain ⟨hk, rfl⟩ := List.getElem?_eq_some_iff.1 h
  unfold restM
  rw [if_neg (by decide), if_pos rfl, List.drop_eq_getElem_cons hk, putM, if_pos e]
theorem restM_over {l : List Bal} {k : Nat} {a x : Int} {b : Bal} (h : l[k]? = some b) (e : ¬ b.acct = a) (e2 : a < b.acct) : restM false l k a x = ⟨a, x⟩ :: b :: restM true l (k + 1) a x := by
  obtain ⟨hk, rfl⟩ := List.getElem?_eq_some_iff.1 h
  unfold restM
  rw [if_neg (by decide), if_pos rfl, List.drop_eq_getElem_cons hk, putM, if_neg e, if_pos e2]
theorem restM_under {l : List Bal} {k : Nat} {a x : Int} {b : Bal} (h : l[k]? = some b) (e : ¬ b.acct = a) (e2 : ¬ a < b.acct) : restM false l k a x = b :: restM false l (k + 1) a x := by
  obtain ⟨hk, rfl⟩ := List.getElem?_eq_some_iff.1 h
  unfold restM
  rw [if_neg (by decide), if_neg (by decide), List.drop_eq_getElem_cons hk, putM, if_neg e, if_neg e2]
theorem restM_end {l : List Bal} {k : Nat} {a x : Int} (h : l.length ≤ k) : restM true l k a x = [] ∧ restM false l k a x = [⟨a, x⟩] := by
  unfold restM
  rw [List.drop_eq_nil_of_le h]
  exact ⟨rfl, rfl⟩

set_option maxRecDepth 100000 in
set_option maxHeartbeats 4000000 in
theorem refPutB_any (l : List Bal) (a x : Int) (A : Option Addr) (n c B : Nat) (w : World) (h : Rd w B 2 A n (bals l)) (hB : B ≤ w.heap.size) (hn : n ≤ 100000)
    (hs : ∀ b ∈ l, -4000000000000000000 ≤ b.amt ∧ b.amt ≤ 4000000000000000000) (hx1 : -1000000000000000000 ≤ x) (hx2 : x ≤ 1000000000000000000) :
    Calls Tryz.prog 115 #[.slice A n c, .int .i64 a, .int .i64 x] w (PickEnd w (putM l a x)) := by
  have HL := Lib.hid h.bals_len
  have HR := Lib.hid h
  have HS := Lib.hid hs
  obtain ⟨P, hP⟩ : ∃ P, putM l a x = P := ⟨_, rfl⟩
  have HP0 : Hid ([] ++ restM false l 0 a x = P) := hP
  rw [hP]
  clear h hs hP
  go_enter Tryz.func115, Tryz.ntmps115
  go_wp2_with fail
  go_loopw [7, 8, 9] (fun lv dv iv wr => ∃ k : Nat, k ≤ n ∧ iv = .int .i64 k ∧ (∃ d O A' c', dv = .bool d ∧ lv = .slice A' (List.length O) c' ∧ List.length O ≤ k + (if d = true then 1 else 0) ∧ Hid (O ++ restM d l k a x = P) ∧ wr.ownsRow w.heap.size 161 2 (.slice A' (List.length O) c') (List.length O) (bals O)) ∧ Below w.heap.size w wr) (fun _ _ iv _ => n - (intOf iv).toNat)
  case atStart => exact ⟨0, Nat.zero_le _, rfl, ⟨false, [], none, 0, rfl, rfl, by simp, HP0.out, World.ownsRow_nil _ _ _ _⟩, Below.refl _ _⟩
  case round =>
    obtain ⟨k, hk, rfl, ⟨d, O, A', c', rfl, rfl, hOl, HI, hown⟩, hbel⟩ := hrel
    have hzr := hbel.size
    have HBE := Lib.hid hbel
    by_cases hlt : k < n
    · obtain ⟨ad, b, rfl, hb0, hx, p0, p1⟩ := (HR.out.far hbel hB).bal hlt
      have p1' := cell_behind (j := 1) p1 (by omega)
      have hkI : (k : Int) < (n : Int) := by omega
      have HBS := HS.out b (List.mem_of_getElem? hx)
      have HX := Lib.hid hx
      obtain ⟨W3, hW3⟩ : ∃ W3, wr.alloc (.cells #[.int .i64 b.acct, .int .i64 b.amt] 161) = W3 := ⟨_, rfl⟩
      have hz3 : W3.heap.size = wr.heap.size + 1 := by rw [← hW3]; simp
      have hb3 : Below w.heap.size wr W3 := by rw [← hW3]; exact (Below.refl _ _).alloc hzr _
      have hown3 : W3.ownsRow w.heap.size 161 2 (.slice A' (List.length O) c') (List.length O) (bals O) := by rw [← hW3]; exact own_kept hown fun q hq _ => Below.heap_alloc wr _ _ hq
      have HB3 := Lib.hid (HBE.out.trans hb3)
      have HLL : Hid (∀ y : Bal, (O ++ [y]).length = O.length + 1) := fun y => by simp
      have hlown : ∀ q, (Value.slice A' (List.length O) c').ownBlock = some q → q < wr.heap.size := own_lt hown
      have hc0 : W3.cell? ⟨wr.heap.size, 0, none⟩ = some (.int .i64 b.acct) := by rw [← hW3, cell_of (heap_new wr _)]; rfl
      have hc1 : W3.cell? ⟨wr.heap.size, 1, none⟩ = some (.int .i64 b.amt) := by rw [← hW3, cell_of (heap_new wr _)]; rfl
      have HC0 := Lib.hid hc0; have HC1 := Lib.hid hc1
      have HO0 := Lib.hid hown
      have HW3 := Lib.hid hW3
      clear hx p1 hown hbel hb3 hc0 hc1 hW3
      obtain ⟨b1, b2⟩ := b
      dsimp only at *
      cases d
      · rw [if_neg (by decide)] at hOl
        by_cases e1 : b1 = a
        · have HI2 : Hid ((O ++ [⟨b1, b2 + x⟩]) ++ restM true l (k + 1) a x = P) := by
            have h := HI.out
            rw [restM_at HX.out e1] at h
            rw [Hid, List.append_assoc]; exact h
          obtain ⟨W4, hW4⟩ : ∃ W4, wr.alloc (.cells #[.int .i64 b1, .int .i64 (b2 + x)] 161) = W4 := ⟨_, rfl⟩
          have hz4 : W4.heap.size = wr.heap.size + 1 := by rw [← hW4]; simp
          have hb4 : Below wr.heap.size wr W4 := by rw [← hW4]; exact (Below.refl _ _).alloc (Nat.le_refl _) _
          have hown4 : W4.ownsRow w.heap.size 161 2 (.slice A' (List.length O) c') (List.length O) (bals O) := own_kept HO0.out fun q hq _ => hb4.block q hq
          obtain ⟨v7, w7, hrun, hown7, _, hb7, _⟩ := append_bal1 ⟨b1, b2 + x⟩ hown4 (by omega) (by omega)
          obtain ⟨A7, c7, rfl⟩ := own_form hown7
          have HO7 := Lib.hid hown7
          have HB7 := Lib.hid ((HBE.out.trans (hb4.mono hzr)).trans hb7)
          dsimp only at hrun
          rw [hz4] at hrun
          rw [← hW4] at hrun
          have w1 : -9223372036854775808 ≤ b2 + x := by omega
          have w2 : b2 + x ≤ 9223372036854775807 := by omega
          subst e1
          clear hown3 hown4 hown7 hb7 hb4 hW4 hz4
          go_wp2_with (at_builtin; refine Lib.wpList_append_run _ rfl _ _ _ _ rfl _ _ rfl rfl _ _ (hrun _) ?_)
          refine ⟨⟨k + 1, by omega, by go_num, ⟨true, O ++ [⟨b1, b2 + x⟩], A7, c7, rfl, ?_, ?_, HI2, ?_⟩, HB7.out⟩, by simp [intOf]; omega⟩
          · rw [HLL.out]
          · rw [HLL.out]; simp; omega
          · rw [HLL.out]; exact HO7.out
        · have e1b : (b1 == a) = false := by simpa using e1
          by_cases e2 : a < b1
          · have HI2 : Hid ((O ++ [⟨a, x⟩] ++ [⟨b1, b2⟩]) ++ restM true l (k + 1) a x = P) := by
              have h := HI.out
              rw [restM_over HX.out e1 e2] at h
              rw [Hid, List.append_assoc, List.append_assoc]; exact h
            obtain ⟨v7, w7, hrun7, hown7, hbut7, hb7, _⟩ := append_bal1 ⟨a, x⟩ hown3 (by omega) (by omega)
            obtain ⟨A7, c7, rfl⟩ := own_form hown7
            have hbk : w7.heap[wr.heap.size]? = W3.heap[wr.heap.size]? := hbut7.block _ (by omega) fun e => by have := hlown _ e; omega
            have hd0 : w7.cell? ⟨wr.heap.size, 0, none⟩ = some (.int .i64 b1) := (World.cell?_of_block (w := W3) hbk).trans HC0.out
            have hd1 : w7.cell? ⟨wr.heap.size, 1, none⟩ = some (.int .i64 b2) := (World.cell?_of_block (w := W3) hbk).trans HC1.out
            have hz7 := hbut7.size
            have hlen7 : (O ++ [(⟨a, x⟩ : Bal)]).length = O.length + 1 := HLL.out _
            have hown7' : w7.ownsRow w.heap.size 161 2 (.slice A7 (O.length + 1) c7) (O.length + 1) (bals (O ++ [⟨a, x⟩])) := hown7
            obtain ⟨v8, w8, hrun8, hown8, _, hb8, _⟩ := append_bal1 ⟨b1, b2⟩ hown7' (by omega) (by omega)
            obtain ⟨A8, c8, rfl⟩ := own_form hown8
            have HO8 := Lib.hid hown8
            have HB8 := Lib.hid ((HB3.out.trans hb7).trans hb8)
            have HL2 : Hid ((O ++ [(⟨a, x⟩ : Bal)] ++ [(⟨b1, b2⟩ : Bal)]).length = O.length + 1 + 1) := by rw [Hid, List.length_append, HLL.out]; rfl
            dsimp only at hrun7 hrun8
            rw [hz3] at hrun7
            rw [← HW3.out] at hrun7
            clear hown3 hown7 hown7' hown8 hb7 hb8 hbut7 hbk hlen7
            go_wp2_with (at_builtin; first | (refine Lib.wpList_append_run _ rfl _ _ _ _ rfl _ _ rfl rfl _ _ (hrun7 _) ?_; clear hrun7) | refine Lib.wpList_append_run _ rfl _ _ _ _ rfl _ _ rfl rfl _ _ (hrun8 _) ?_)
            refine ⟨⟨k + 1, by omega, by go_num, ⟨true, O ++ [⟨a, x⟩] ++ [⟨b1, b2⟩], A8, c8, rfl, ?_, ?_, HI2, ?_⟩, HB8.out⟩, by simp [intOf]; omega⟩
            · rw [HL2.out]
            · rw [HL2.out]; simp; omega
            · rw [HL2.out]; exact HO8.out
          · have HI2 : Hid ((O ++ [⟨b1, b2⟩]) ++ restM false l (k + 1) a x = P) := by
              have h := HI.out
              rw [restM_under HX.out e1 e2] at h
              rw [Hid, List.append_assoc]; exact h
            obtain ⟨v7, w7, hrun, hown7, _, hb7, _⟩ := append_bal1 ⟨b1, b2⟩ hown3 (by omega) (by omega)
            obtain ⟨A7, c7, rfl⟩ := own_form hown7
            have HO7 := Lib.hid hown7
            have HB7 := Lib.hid (HB3.out.trans hb7)
            dsimp only at hrun
            rw [hz3] at hrun
            rw [← HW3.out] at hrun
            clear hown3 hown7 hb7
            go_wp2_with (at_builtin; refine Lib.wpList_append_run _ rfl _ _ _ _ rfl _ _ rfl rfl _ _ (hrun _) ?_)
            refine ⟨⟨k + 1, by omega, by go_num, ⟨false, O ++ [⟨b1, b2⟩], A7, c7, rfl, ?_, ?_, HI2, ?_⟩, HB7.out⟩, by simp [intOf]; omega⟩
            · rw [HLL.out]
            · rw [HLL.out]; simp; omega
            · rw [HLL.out]; exact HO7.out
      · rw [if_pos rfl] at hOl
        have HI2 : Hid ((O ++ [⟨b1, b2⟩]) ++ restM true l (k + 1) a x = P) := by
          have h := HI.out
          rw [restM_done HX.out] at h
          rw [Hid, List.append_assoc]; exact h
        obtain ⟨v7, w7, hrun, hown7, _, hb7, _⟩ := append_bal1 ⟨b1, b2⟩ hown3 (by omega) (by omega)
        obtain ⟨A7, c7, rfl⟩ := own_form hown7
        have HO7 := Lib.hid hown7
        have HB7 := Lib.hid (HB3.out.trans hb7)
        dsimp only at hrun
        rw [hz3] at hrun
        rw [← HW3.out] at hrun
        clear hown3 hown7 hb7
        go_wp2_with (at_builtin; refine Lib.wpList_append_run _ rfl _ _ _ _ rfl _ _ rfl rfl _ _ (hrun _) ?_)
        refine ⟨⟨k + 1, by omega, by go_num, ⟨true, O ++ [⟨b1, b2⟩], A7, c7, rfl, ?_, ?_, HI2, ?_⟩, HB7.out⟩, by simp [intOf]; omega⟩
        · rw [HLL.out]
        · rw [HLL.out]; simp; omega
        · rw [HLL.out]; exact HO7.out
    · have hge : List.length l ≤ k := by rw [HL.out]; omega
      obtain ⟨g1, g2⟩ := restM_end (a := a) (x := x) hge
      cases d
      · have HI2 : Hid (O ++ [⟨a, x⟩] = P) := by
          have h := HI.out
          rw [g2] at h
          exact h
        obtain ⟨v7, w7, hrun, hown7, _, hb7, _⟩ := append_bal1 ⟨a, x⟩ hown hzr (by rw [if_neg (by decide)] at hOl; omega)
        obtain ⟨A7, c7, rfl⟩ := own_form hown7
        have HO7 := Lib.hid hown7
        have HB7 := Lib.hid (HBE.out.trans hb7)
        have HLL : Hid ((O ++ [(⟨a, x⟩ : Bal)]).length = O.length + 1) := by simp [Hid]
        dsimp only at hrun
        clear hown hown7 hb7 hbel g1 g2 hge hOl
        go_wp2_with (at_builtin; refine Lib.wpList_append_run _ rfl _ _ _ _ rfl _ _ rfl rfl _ _ (hrun _) ?_)
        go_ret
        refine ⟨A7, c7, ?_, ?_, HB7.out⟩
        · rw [← HI2.out, HLL.out]; rfl
        · rw [← HI2.out, HLL.out]; exact HO7.out
      · have HI2 : Hid (O = P) := by
          have h := HI.out
          rw [g1, List.append_nil] at h
          exact h
        have HO7 := Lib.hid hown
        clear hown hbel g1 g2 hge hOl
        go_wp2_with fail
        go_ret
        refine ⟨A', c', ?_, ?_, HBE.out⟩
        · rw [← HI2.out]; rfl
        · rw [← HI2.out]; exact HO7.out
end Go.Proofs.YtjlokkjbdgcooaaGreat
