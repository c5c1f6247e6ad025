/-
  Several texts, one behind the other: what each holds stands ahead of it.
-/
import Derived.Test.YtjlokkjbdgcooaaGreatTrialPart
import Derived.Test.YtjlokkjbdgcooaaGreatMany30
import Derived.BigQuiet
import Derived.Deep.RegionHeldLaw

/-
  Balances and Partners of no book.
-/
namespace Go.Proofs.YtjlokkjbdgcooaaGreat
open Mo
open Go.RowKit

set_option maxRecDepth 100000 in
theorem balances_nil (o : OfT) (w : World) : Calls Tryz.prog 34 #[.pointer none, o.val] w fun e w' => e = .returned (.tuple #[.slice none 0 0, .int .i64 1]) ∧ Below w.heap.size w w' := by
  obtain ⟨oe, of, ot⟩ := o
  unfold OfT.val
  dsimp only
  go_enter Tryz.func34, Tryz.ntmps34
  go_wp2_with fail
  go_ret2
  exact ⟨rfl, by first | exact Below.refl _ _ | exact (Below.refl _ _).alloc (Nat.le_refl _) _⟩
set_option maxRecDepth 100000 in
theorem partners_nil (o : OfT) (w : World) : Calls Tryz.prog 35 #[.pointer none, o.val] w fun e w' => e = .returned (.tuple #[.slice none 0 0, .int .i64 1]) ∧ Below w.heap.size w w' := by
  obtain ⟨oe, of, ot⟩ := o
  have KB : Hid (∀ w1, Calls Tryz.prog 34 #[.pointer none, .agg #[.int .i64 oe, .int .i64 of, .int .i64 ot]] w1 fun e w' => e = .returned (.tuple #[.slice none 0 0, .int .i64 1]) ∧ Below w1.heap.size w1 w') := balances_nil ⟨oe, of, ot⟩
  unfold OfT.val
  dsimp only
  go_enter Tryz.func35, Tryz.ntmps35
  go_wp2_with fail
  refine (KB.out _).mono ?_
  rintro e w1 ⟨rfl, hb⟩
  have HB := Lib.hid hb
  clear hb
  go_wp2_with fail
  go_ret2
  refine ⟨rfl, ?_⟩
  first | exact HB.out | exact ((Below.refl _ _).alloc (Nat.le_refl _) _).trans (HB.out.mono (by simp))
end Go.Proofs.YtjlokkjbdgcooaaGreat

/-
  Contract of the reference's Balances of chapter 10.
-/
namespace Go.Proofs.YtjlokkjbdgcooaaGreat
open Mo
open Go.RowKit

set_option maxRecDepth 100000 in
set_option maxHeartbeats 4000000 in
theorem refBals_any (o : OfT) (X : List JR) (A : Option Addr) (n c B : Nat) (w : World) (h : JlRd w B A n X) (hB : B ≤ w.heap.size) (hn : n ≤ 100) (hok : ∀ a ∈ X, checkE a.j = 0) :
    Calls Tryz.prog 33 #[.slice A n c, .int .i64 o.ent, .int .i64 o.frm, .int .i64 o.til] w (BalEnd w o (X.map JR.j)) := by
  have KR := Lib.hid (refRight_any o w)
  have h8 : ∀ a ∈ X, a.j.lines.length ≤ 8 := fun a ha => (checkE_len (hok a ha)).1
  have KL := Lib.hid (refLines_any o X A n c B w h hB (by omega) h8)
  have hXl : X.length = n := by have := h.rd.1; rw [jrs_len] at this; omega
  have hM : ∀ j ∈ X.map JR.j, checkE j = 0 := fun j hj => by
    obtain ⟨a, ha, rfl⟩ := List.mem_map.1 hj
    exact hok a ha
  have hgl := gathL_len (pk := pkL o) (l := X.map JR.j) fun j hj => pkL_le8 (hM j hj)
  rw [List.length_map, hXl] at hgl
  have hfit := gath_fitsB (o := o) hM
  obtain ⟨M, hMM⟩ : ∃ M, X.map JR.j = M := ⟨_, rfl⟩
  rw [hMM] at KL hgl hfit ⊢
  have hpf := putsM_fits hfit
  have hpp := putsM_plus (balsOf (gathL (pkL o) M))
  have hpl := putsM_len (balsOf (gathL (pkL o) M))
  unfold BalEnd PlusEnd
  obtain ⟨LS, hLS⟩ : ∃ LS, gathL (pkL o) M = LS := ⟨_, rfl⟩
  rw [hLS] at KL hgl hfit hpf hpp hpl ⊢
  rw [show (balsOf LS).length = LS.length by unfold balsOf; simp] at hpl
  have HFIT := Lib.hid hfit; have HPF := Lib.hid hpf; have HPP := Lib.hid hpp
  obtain ⟨z, hz⟩ : ∃ z, mayO o = z := ⟨_, rfl⟩
  obtain ⟨pb, hpb⟩ : ∃ pb, plusB (balsOf LS) = pb := ⟨_, rfl⟩
  rw [hz] at KR ⊢
  rw [hpb] at HPF ⊢
  clear h h8 hM hXl hMM hLS hfit hpf hpp hz hpb hok
  obtain ⟨oe, of, ot⟩ := o
  dsimp only at *
  cases z
  · go_enter Tryz.func33, Tryz.ntmps33
    go_wp2_with fail
    refine KR.out.mono ?_
    rintro e w1 ⟨rfl, rfl⟩
    go_wp2_with fail
    go_ret2
    exact .inl ⟨by first | rfl | trivial, rfl, Below.refl _ _⟩
  · go_enter Tryz.func33, Tryz.ntmps33
    go_wp2_with fail
    refine KR.out.mono ?_
    rintro e w1 ⟨rfl, rfl⟩
    go_wp2_with fail
    refine KL.out.mono ?_
    rintro e w2 ⟨A2, c2, rfl, hown2, hb2⟩
    have hz2 := hb2.size
    have HB2 := Lib.hid hb2
    have HR2 : Hid (Rd w2 w2.heap.size 3 A2 LS.length (lins LS)) := rd_of_own hown2
    obtain ⟨m, hm⟩ : ∃ m, LS.length = m := ⟨_, rfl⟩
    rw [hm] at HR2 hgl hpl ⊢
    have HLM := Lib.hid hm
    clear hown2 hb2 KL KR hm
    go_wp2_with fail
    go_loopw [10, 12] (fun lv iv wr => ∃ k : Nat, k ≤ m ∧ iv = .int .i64 k ∧ (∃ L A' c', lv = .slice A' (List.length L) c' ∧ List.length L ≤ k ∧ Hid (putsM ((balsOf LS).take k) = L) ∧ Rd wr wr.heap.size 2 A' (List.length L) (bals L)) ∧ Below w2.heap.size w2 wr) (fun _ iv _ => m - (intOf iv).toNat)
    case atStart => exact ⟨0, Nat.zero_le _, rfl, ⟨[], none, 0, rfl, by simp, rfl, Rd.nil_⟩, Below.refl _ _⟩
    case round =>
      obtain ⟨k, hk, rfl, ⟨L, A', c', rfl, hLl, HI, hrd⟩, hbel⟩ := hrel
      have hzr := hbel.size
      have HBE := Lib.hid hbel
      by_cases hlt : k < m
      · obtain ⟨ad, x, rfl, hb0, hx, p0, p1, p2⟩ := (HR2.out.below hbel).lin hlt
        have p1' := cell_behind (j := 1) p1 (by omega)
        have p2' := cell_behind (j := 2) p2 (by omega)
        have hkI : (k : Int) < (m : Int) := by omega
        have hbx : (balsOf LS)[k]? = some (balOf x) := by unfold balsOf; rw [List.getElem?_map, hx]; rfl
        have hst := putsM_step hbx
        rw [HI.out] at hst
        have hfx := HFIT.out (balOf x) (List.mem_of_getElem? hbx)
        have hbd : ∀ b ∈ L, -4000000000000000000 ≤ b.amt ∧ b.amt ≤ 4000000000000000000 := by
          rw [← HI.out]
          exact putsM_bound (fun y hy => HFIT.out y (List.mem_of_mem_take hy)) (by rw [List.length_take]; omega)
        have hx12 : -1000000000000000 ≤ x.amt ∧ x.amt ≤ 1000000000000000 := by unfold fits1 at hfx; exact of_decide_eq_true hfx
        have hrdd : Rd wr.drew wr.heap.size 2 A' (List.length L) (bals L) := hrd
        have KP := Lib.hid (refPutB_any L x.acct x.amt A' (List.length L) c' wr.heap.size wr.drew hrdd (Nat.le_refl _) (by omega) hbd (by omega) (by omega))
        have HST := Lib.hid hst
        have hpm := putM_len L x.acct x.amt
        clear hx p1 p2 hb0 hbx hst hfx hbd hrd hbel hrdd
        go_wp2_with fail
        have HFIN : Hid (∀ (A4 : Option Addr) (c4 : Nat) (w4 : World), w4.ownsRow wr.drew.heap.size 161 2 (.slice A4 (putM L x.acct x.amt).length c4) (putM L x.acct x.amt).length (bals (putM L x.acct x.amt)) → Below wr.drew.heap.size wr.drew w4 → Rd w4 w4.heap.size 2 A4 (putM L x.acct x.amt).length (bals (putM L x.acct x.amt)) ∧ Below w2.heap.size w2 w4) := fun A4 c4 w4 k1 k2 => ⟨rd_of_own k1, HBE.out.trans (((Below.refl _ wr).drew.trans k2).mono hzr)⟩
        unfold PickEnd at KP
        go_region_law (go_simp; go_at_call 115; refine KP.out.mono ?_; rintro e w4 ⟨A4, c4, rfl, hown4, hb4⟩)
        all_goals
          obtain ⟨g1, g2⟩ := HFIN.out _ _ _ hown4 hb4
          have HR4 := Lib.hid g1; have HB4 := Lib.hid g2
          clear hown4 hb4 g1 g2
          go_wp2_with fail
          exact ⟨⟨k + 1, by omega, by go_num, ⟨putM L x.acct x.amt, _, _, rfl, by omega, HST.out, HR4.out⟩, HB4.out⟩, by simp [intOf]; omega⟩
      · have hkm : k = m := by omega
        have htk : (balsOf LS).take k = balsOf LS := List.take_of_length_le (by unfold balsOf; rw [List.length_map, HLM.out]; omega)
        have hi := HI.out
        rw [htk] at hi
        subst hi
        have HBW := Lib.hid (HB2.out.trans (hbel.mono hz2))
        have kp := refPlain_any (putsM (balsOf LS)) A' _ c' wr.heap.size wr hrd (Nat.le_refl _) (by omega)
        rw [HPF.out] at kp
        have HPL : Hid (plainL (putsM (balsOf LS)) = if pb = true then (putsM (balsOf LS)).filter fun x => x.amt != 0 else []) := by
          have h := HPF.out
          unfold plainL
          rw [Hid, h]
        obtain ⟨PL, hPL⟩ : ∃ PL, plainL (putsM (balsOf LS)) = PL := ⟨_, rfl⟩
        rw [hPL] at kp HPL
        have KP := Lib.hid kp
        clear hbel hrd kp htk hPL
        go_wp2_with fail
        refine KP.out.mono ?_
        rintro e w4 ⟨A4, c4, rfl, hown4, hb4⟩
        have HB4 := Lib.hid (HBW.out.trans (hb4.mono HBW.out.size))
        have HO4 := Lib.hid (own_base hown4 HBW.out.size)
        clear hown4 hb4 KP
        cases pb
        · go_wp2_with fail
          go_ret2
          exact ⟨HB4.out, rfl⟩
        · have hpl := HPL.out
          rw [if_pos rfl] at hpl
          subst hpl
          go_wp2_with fail
          go_ret2
          exact ⟨HB4.out, A4, c4, _, HPP.out, rfl, HO4.out⟩
end Go.Proofs.YtjlokkjbdgcooaaGreat

/-
  What the reference's Partners puts together is what partners come to. No code.
-/
namespace Go.Proofs.YtjlokkjbdgcooaaGreat
open Mo
open Go.RowKit

/-- The lines that have a partner, as balances of partners. -/
def prtB (l : List Lin) : List Bal := (l.filter fun x => decide (0 < x.part)).map fun x => ⟨x.part, x.amt⟩
theorem prtB_step {l : List Lin} {k : Nat} {x : Lin} (h : l[k]? = some x) : prtB (l.take (k + 1)) = prtB (l.take k) ++ if 0 < x.part then [⟨x.part, x.amt⟩] else [] := by
  obtain ⟨hk, rfl⟩ := List.getElem?_eq_some_iff.1 h
  unfold prtB
  rw [List.take_succ_eq_append_getElem hk, List.filter_append, List.map_append]
  by_cases h0 : 0 < l[k].part <;> simp [h0]
theorem putsM_snoc (l : List Bal) (b : Bal) : putsM (l ++ [b]) = putM (putsM l) b.acct b.amt := by
  unfold putsM putF
  rw [List.foldl_append]
  rfl
def pairB (x : Bal) : Pair := ⟨x.acct, x.amt⟩
def balP (x : Pair) : Bal := ⟨x.x, x.y⟩
theorem prtB_sum (a : Int) : ∀ {l : List Lin}, (∀ x ∈ l, 0 ≤ x.part ∧ x.part ≤ 9) → sumB a (prtB l) = if 1 ≤ a ∧ a ≤ 9 then partSum a.toNat (partL l) else 0
  | [], _ => by simp [prtB, partL, partSum, sumB]
  | x :: r, h => by
    have ih := prtB_sum a fun y hy => h y (List.mem_cons_of_mem _ hy)
    have hx := h x (List.mem_cons_self ..)
    unfold prtB partL at ih ⊢
    rw [List.filter_cons, List.filter_cons]
    by_cases h0 : 0 < x.part
    · have h1 : (x.part != 0) = true := by simp; omega
      rw [if_pos (by simpa using h0), if_pos h1, List.map_cons]
      simp only [sumB, partSum, ih]
      by_cases ha : 1 ≤ a ∧ a ≤ 9
      · rw [if_pos ha, if_pos ha]
        by_cases e : x.part = a
        · rw [if_pos e, if_pos (by omega)]
        · rw [if_neg e, if_neg (by omega)]
      · rw [if_neg ha, if_neg ha, if_neg (by omega)]
        rfl
    · have h1 : x.part = 0 := by omega
      rw [if_neg (show ¬ (decide (0 < x.part) = true) by simp; omega), if_neg (show ¬ ((x.part != 0) = true) by rw [h1]; decide)]
      exact ih
theorem sumB_range (f : Nat → Int) (a : Int) : ∀ k : Nat, sumB a ((prsK f k).map balP) = if 0 ≤ a ∧ a < (k : Int) then f a.toNat else 0
  | 0 => by simp [prsK, sumB]; omega
  | k + 1 => by
    rw [prsK_step, List.map_append, sumB_append, sumB_range f a k]
    by_cases h0 : f k = 0
    · rw [if_pos h0]
      by_cases e : a = (k : Int)
      · subst e
        rw [if_neg (by omega), if_pos (by omega)]
        simp [sumB, h0]
      · by_cases h1 : 0 ≤ a ∧ a < (k : Int)
        · rw [if_pos h1, if_pos (by omega)]; simp [sumB]
        · rw [if_neg h1, if_neg (by omega)]; simp [sumB]
    · rw [if_neg h0]
      by_cases e : a = (k : Int)
      · subst e
        rw [if_neg (by omega), if_pos (by omega)]
        simp [sumB, balP]
      · have e2 : ¬ (k : Int) = a := fun h => e h.symm
        by_cases h1 : 0 ≤ a ∧ a < (k : Int)
        · rw [if_pos h1, if_pos (by omega)]; simp [sumB, balP, e2]
        · rw [if_neg h1, if_neg (by omega)]; simp [sumB, balP, e2]
theorem prsK_rise (f : Nat → Int) (k : Nat) : ((prsK f k).map balP).Pairwise fun p q => p.acct < q.acct := by
  unfold prsK
  rw [List.map_map, List.pairwise_map]
  refine (List.pairwise_lt_range.sublist List.filter_sublist).imp ?_
  intro a b h
  show (a : Int) < (b : Int)
  omega
theorem prsK_nz (f : Nat → Int) (k : Nat) : ∀ x ∈ (prsK f k).map balP, x.amt ≠ 0 := fun x hx => by
  obtain ⟨p, hp, rfl⟩ := List.mem_map.1 hx
  unfold prsK at hp
  obtain ⟨j, hj, rfl⟩ := List.mem_map.1 hp
  have := (List.mem_filter.1 hj).2
  simpa [balP] using this
theorem partSum_zero : ∀ l : List Lin, partSum 0 (partL l) = 0
  | [] => rfl
  | x :: r => by
    have ih := partSum_zero r
    unfold partL at ih ⊢
    rw [List.filter_cons]
    by_cases h : x.part = 0
    · rw [if_neg (show ¬ ((x.part != 0) = true) by rw [h]; decide)]; exact ih
    · rw [if_pos (by simpa using h)]
      simp only [partSum]
      rw [if_neg (by simpa using h), ih]
      rfl
theorem prs_is {l : List Lin} (h : ∀ x ∈ l, 0 ≤ x.part ∧ x.part ≤ 9) : ((putsM (prtB l)).filter fun x => x.amt != 0).map pairB = prsK (fun p => partSum p (partL l)) 10 := by
  have h1 := putsM_plus (prtB l)
  have h2 : PlusOf (prtB l) ((prsK (fun p => partSum p (partL l)) 10).map balP) := ⟨prsK_rise _ _, prsK_nz _ _, fun a => by
    rw [sumB_range, prtB_sum a h]
    by_cases e : a = 0
    · subst e
      rw [if_pos (by omega), if_neg (by omega)]
      exact partSum_zero l
    · by_cases h3 : 1 ≤ a ∧ a ≤ 9
      · rw [if_pos (by omega), if_pos h3]
      · rw [if_neg (by omega), if_neg h3]⟩
  rw [h1.unique h2 fun _ => rfl, List.map_map]
  have : (pairB ∘ balP) = id := by funext x; rfl
  rw [this, List.map_id]
end Go.Proofs.YtjlokkjbdgcooaaGreat

/-
  Contract of the reference's Partners of chapter 10.
-/
namespace Go.Proofs.YtjlokkjbdgcooaaGreat
open Mo
open Go.RowKit

theorem gath_part (o : OfT) (M : List Jrn) : gathL (pkP o) M = partL (gathL (pkL o) M) := by
  unfold gathL partL pkP partL
  rw [List.filter_flatMap]
theorem prtB_len (l : List Lin) : (prtB l).length ≤ l.length := by
  unfold prtB
  rw [List.length_map]
  exact List.length_filter_le _ _
theorem prtB_yes {l : List Lin} {k : Nat} {x : Lin} (h : l[k]? = some x) (h0 : 0 < x.part) : putsM (prtB (l.take (k + 1))) = putM (putsM (prtB (l.take k))) x.part x.amt := by
  rw [prtB_step h, if_pos h0, putsM_snoc]
theorem prtB_no {l : List Lin} {k : Nat} {x : Lin} (h : l[k]? = some x) (h0 : ¬ 0 < x.part) : prtB (l.take (k + 1)) = prtB (l.take k) := by
  rw [prtB_step h, if_neg h0, List.append_nil]
theorem append_pair1 {w : World} {base m : Nat} {v : Value} {L : List Pair} (a : Pair) (h : w.ownsRow base 177 2 v m (pairs L)) (hb : base ≤ w.heap.size) (hm : m ≤ 1000000) :
    ∃ v' w', (∀ ty, (Builtin.append_ #[85, 85] ty #[v, .slice (some ⟨w.heap.size, 0, none⟩) 1 1]).run Tryz.prog (w.alloc (.cells #[.int .i64 a.x, .int .i64 a.y] 177)) = .ok v' w') ∧ w'.ownsRow base 177 2 v' (m + 1) (pairs (L ++ [a])) ∧ Below base w w' := by
  have hR : Rd (w.alloc (.cells #[.int .i64 a.x, .int .i64 a.y] 177)) (w.heap.size + 1) 2 (some ⟨w.heap.size, 0, none⟩) 1 (pairs [a]) := ⟨rfl, fun _ => ⟨_, rfl, by simp, cells_new w (pairs [a]) 177⟩⟩
  have h1 : (w.alloc (.cells #[.int .i64 a.x, .int .i64 a.y] 177)).ownsRow base 177 2 v m (pairs L) := own_kept h fun k hk _ => Below.heap_alloc w _ _ hk
  obtain ⟨v', w', hrun, hown, hb'⟩ := append_pairs (c := 1) h1 hR (by simp; omega) (by omega)
  exact ⟨v', w', hrun, hown, ((Below.refl _ _).alloc hb _).trans hb'⟩

set_option maxRecDepth 100000 in
set_option maxHeartbeats 4000000 in
theorem refParts_any (o : OfT) (X : List JR) (A : Option Addr) (n c B : Nat) (w : World) (h : JlRd w B A n X) (hB : B ≤ w.heap.size) (hn : n ≤ 100) (hok : ∀ a ∈ X, checkE a.j = 0) :
    Calls Tryz.prog 40 #[.slice A n c, .int .i64 o.ent, .int .i64 o.frm, .int .i64 o.til] w fun e w' => ∃ A' c', e = .returned (.slice A' (prsK (fun p => partSum p (gathL (pkP o) (X.map JR.j))) 10).length c') ∧ w'.ownsRow w.heap.size 177 2 (.slice A' (prsK (fun p => partSum p (gathL (pkP o) (X.map JR.j))) 10).length c') (prsK (fun p => partSum p (gathL (pkP o) (X.map JR.j))) 10).length (pairs (prsK (fun p => partSum p (gathL (pkP o) (X.map JR.j))) 10)) ∧ Below w.heap.size w w' := by
  have h8 : ∀ a ∈ X, a.j.lines.length ≤ 8 := fun a ha => (checkE_len (hok a ha)).1
  have KL := Lib.hid (refLines_any o X A n c B w h hB (by omega) h8)
  have hXl : X.length = n := by have := h.rd.1; rw [jrs_len] at this; omega
  have hM : ∀ j ∈ X.map JR.j, checkE j = 0 := fun j hj => by
    obtain ⟨a, ha, rfl⟩ := List.mem_map.1 hj
    exact hok a ha
  have hgl := gathL_len (pk := pkL o) (l := X.map JR.j) fun j hj => pkL_le8 (hM j hj)
  rw [List.length_map, hXl] at hgl
  have hfit := gath_fits (pk := pkL o) (fun j x hx => by unfold pkL at hx; split at hx; exact hx; cases hx) hM
  rw [gath_part]
  obtain ⟨LS, hLS⟩ : ∃ LS, gathL (pkL o) (X.map JR.j) = LS := ⟨_, rfl⟩
  rw [hLS] at KL hgl hfit ⊢
  have hprs := prs_is fun x hx => (hfit x hx).2.1
  have hpl := putsM_len (prtB LS)
  have hpl2 := prtB_len LS
  rw [← hprs]
  have HFIT := Lib.hid hfit
  clear h h8 hM hXl hLS hfit hok hprs
  obtain ⟨oe, of, ot⟩ := o
  dsimp only at *
  go_enter Tryz.func40, Tryz.ntmps40
  go_wp2_with fail
  refine KL.out.mono ?_
  rintro e w2 ⟨A2, c2, rfl, hown2, hb2⟩
  have hz2 := hb2.size
  have HB2 := Lib.hid hb2
  have HR2 : Hid (Rd w2 w2.heap.size 3 A2 LS.length (lins LS)) := rd_of_own hown2
  obtain ⟨m, hm⟩ : ∃ m, LS.length = m := ⟨_, rfl⟩
  rw [hm] at HR2 hgl hpl2 ⊢
  have HLM := Lib.hid hm
  clear hown2 hb2 KL hm
  go_wp2_with fail
  go_loopw [9, 11] (fun lv iv wr => ∃ k : Nat, k ≤ m ∧ iv = .int .i64 k ∧ (∃ L A' c', lv = .slice A' (List.length L) c' ∧ List.length L ≤ k ∧ Hid (putsM (prtB (LS.take k)) = L) ∧ Rd wr wr.heap.size 2 A' (List.length L) (bals L)) ∧ Below w2.heap.size w2 wr) (fun _ iv _ => m - (intOf iv).toNat)
  case atStart => exact ⟨0, Nat.zero_le _, rfl, ⟨[], none, 0, rfl, by simp, rfl, Rd.nil_⟩, Below.refl _ _⟩
  case round =>
    obtain ⟨k, hk, rfl, ⟨L, A', c', rfl, hLl, HI, hrd⟩, hbel⟩ := hrel
    have hzr := hbel.size
    have HBE := Lib.hid hbel
    by_cases hlt : k < m
    · obtain ⟨ad, x, rfl, hb0, hx, p0, p1, p2⟩ := (HR2.out.below hbel).lin hlt
      have p1' := cell_behind (j := 1) p1 (by omega)
      have p2' := cell_behind (j := 2) p2 (by omega)
      have hkI : (k : Int) < (m : Int) := by omega
      have hx12 := (HFIT.out x (List.mem_of_getElem? hx)).1
      by_cases hp0 : 0 < x.part
      · have hst := prtB_yes hx hp0
        rw [HI.out] at hst
        have hbd : ∀ b ∈ L, -4000000000000000000 ≤ b.amt ∧ b.amt ≤ 4000000000000000000 := by
          rw [← HI.out]
          refine putsM_bound (fun y hy => ?_) (Nat.le_trans (prtB_len _) (by rw [List.length_take]; omega))
          obtain ⟨z, hz, rfl⟩ := List.mem_map.1 hy
          have := (HFIT.out z (List.mem_of_mem_take (List.mem_filter.1 hz).1)).1
          unfold fits1
          exact decide_eq_true this
        have hrdd : Rd wr.drew wr.heap.size 2 A' (List.length L) (bals L) := hrd
        have KP := Lib.hid (refPutB_any L x.part x.amt A' (List.length L) c' wr.heap.size wr.drew hrdd (Nat.le_refl _) (by omega) hbd (by omega) (by omega))
        have HST := Lib.hid hst
        have hpm := putM_len L x.part x.amt
        have HFIN : Hid (∀ (A4 : Option Addr) (c4 : Nat) (w4 : World), w4.ownsRow wr.drew.heap.size 161 2 (.slice A4 (putM L x.part x.amt).length c4) (putM L x.part x.amt).length (bals (putM L x.part x.amt)) → Below wr.drew.heap.size wr.drew w4 → Rd w4 w4.heap.size 2 A4 (putM L x.part x.amt).length (bals (putM L x.part x.amt)) ∧ Below w2.heap.size w2 w4) := fun A4 c4 w4 k1 k2 => ⟨rd_of_own k1, HBE.out.trans (((Below.refl _ wr).drew.trans k2).mono hzr)⟩
        unfold PickEnd at KP
        clear hx p1 p2 hb0 hst hbd hrd hbel hrdd
        go_wp2_with fail
        go_region_law (go_simp; go_at_call 115; refine KP.out.mono ?_; rintro e w4 ⟨A4, c4, rfl, hown4, hb4⟩)
        all_goals
          obtain ⟨g1, g2⟩ := HFIN.out _ _ _ hown4 hb4
          have HR4 := Lib.hid g1; have HB4 := Lib.hid g2
          clear hown4 hb4 g1 g2
          go_wp2_with fail
          exact ⟨⟨k + 1, by omega, by go_num, ⟨putM L x.part x.amt, _, _, rfl, by omega, HST.out, HR4.out⟩, HB4.out⟩, by simp [intOf]; omega⟩
      · have hst := prtB_no hx hp0
        have HST : Hid (putsM (prtB (LS.take (k + 1))) = L) := by rw [Hid, hst]; exact HI.out
        have HRD := Lib.hid hrd
        clear hx p1 p2 hb0 hst hrd hbel
        go_wp2_with fail
        exact ⟨⟨k + 1, by omega, by go_num, ⟨L, A', c', rfl, by omega, HST, HRD.out⟩, HBE.out⟩, by simp [intOf]; omega⟩
    · have htk : LS.take k = LS := List.take_of_length_le (by rw [HLM.out]; omega)
      have hi := HI.out
      rw [htk] at hi
      subst hi
      obtain ⟨Q, hQ⟩ : ∃ Q, putsM (prtB LS) = Q := ⟨_, rfl⟩
      rw [hQ] at hrd hpl hLl ⊢
      obtain ⟨q, hq⟩ : ∃ q, Q.length = q := ⟨_, rfl⟩
      rw [hq] at hrd hpl hLl ⊢
      have HQ := Lib.hid hq
      have HBW := Lib.hid (HB2.out.trans (hbel.mono hz2))
      have HRD := Lib.hid hrd
      have HQP := Lib.hid hQ
      clear hbel hrd htk hQ hq HI
      obtain ⟨wo, hwo⟩ : ∃ wo, wo = wr := ⟨_, rfl⟩
      subst hwo
      go_wp2_with fail
      go_loopw [12, 13] (fun lv iv wq => ∃ k : Nat, k ≤ q ∧ iv = .int .i64 k ∧ (∃ L A'' c'', lv = .slice A'' (List.length L) c'' ∧ List.length L ≤ k ∧ Hid (((Q.take k).filter fun x => x.amt != 0).map pairB = L) ∧ wq.ownsRow wo.heap.size 177 2 (.slice A'' (List.length L) c'') (List.length L) (pairs L)) ∧ Below wo.heap.size wo wq) (fun _ iv _ => q - (intOf iv).toNat)
      case atStart => exact ⟨0, Nat.zero_le _, rfl, ⟨[], none, 0, rfl, by simp, rfl, World.ownsRow_nil _ _ _ _⟩, Below.refl _ _⟩
      case round =>
        obtain ⟨k2, hk2, rfl, ⟨L, B', d', rfl, hLl2, HI2, hown⟩, hbel⟩ := hrel
        have hzq := hbel.size
        have HBE2 := Lib.hid hbel
        by_cases hlt2 : k2 < q
        · obtain ⟨ad2, y, rfl, hb0, hy, p0, p1⟩ := (HRD.out.below hbel).bal hlt2
          have p1' := cell_behind (j := 1) p1 (by omega)
          have hkI2 : (k2 : Int) < (q : Int) := by omega
          have hY := filter_yes (p := fun x => x.amt != 0) hy
          have hN := filter_no (p := fun x => x.amt != 0) hy
          obtain ⟨y1, y2⟩ := y
          dsimp only at *
          by_cases h0 : y2 = 0
          · subst h0
            have HE : Hid (((Q.take (k2 + 1)).filter fun x => x.amt != 0).map pairB = L) := by rw [Hid, hN rfl]; exact HI2.out
            have HO := Lib.hid hown
            clear hY hN hy p1 hown hbel hb0
            go_wp2_with fail
            exact ⟨⟨k2 + 1, by omega, by go_num, ⟨L, B', d', rfl, by omega, HE, HO.out⟩, HBE2.out⟩, by simp [intOf]; omega⟩
          · have h0b : (y2 != 0) = true := by simpa using h0
            have HE : Hid (((Q.take (k2 + 1)).filter fun x => x.amt != 0).map pairB = L ++ [⟨y1, y2⟩]) := by
              rw [Hid, hY h0b, List.map_append, HI2.out]; rfl
            have hownd : World.ownsRow wr.drew wo.heap.size 177 2 (.slice B' (List.length L) d') (List.length L) (pairs L) := hown
            obtain ⟨v7, w7, hrun, hown7, hb7⟩ := append_pair1 ⟨y1, y2⟩ hownd (by exact hzq) (by omega)
            obtain ⟨A7, c7, rfl⟩ := own_form hown7
            have HO7 := Lib.hid hown7
            have HB7 : Hid (Below wo.heap.size wo w7) := (hbel.trans ((Below.refl _ _).drew)).trans hb7
            have HLL : Hid ((L ++ [(⟨y1, y2⟩ : Pair)]).length = L.length + 1) := by simp [Hid]
            have HRUN : Hid (∀ ty, (Builtin.append_ #[85, 85] ty #[.slice B' (List.length L) d', .slice (some ⟨wr.heap.size, 0, none⟩) 1 1]).run Tryz.prog (wr.drew.alloc (.cells #[.int .i64 y1, .int .i64 y2] 177)) = .ok (.slice A7 (L.length + 1) c7) w7) := hrun
            clear hY hN hy p1 hown hbel hb0 hownd hrun hown7 hb7
            go_wp2_with fail
            go_region_law (refine step_append_run rfl (.tmp 55) (.tmp 67) 85 rfl (.slice B' (List.length L) d') (.slice (some ⟨wr.heap.size, 0, none⟩) 1 1) _ w7 (by simp [Act.eval, Act.put]) (by simp [Act.eval, Act.put]) (HRUN.out _) ?_)
            all_goals
              go_wp2_with fail
              refine ⟨⟨k2 + 1, by omega, by go_num, ⟨L ++ [⟨y1, y2⟩], A7, c7, ?_, ?_, HE, ?_⟩, HB7.out⟩, by simp [intOf]; omega⟩
              · rw [HLL.out]
              · rw [HLL.out]; omega
              · rw [HLL.out]; exact HO7.out
        · have htk2 : Q.take k2 = Q := List.take_of_length_le (by rw [HQ.out]; omega)
          have hi2 := HI2.out
          rw [htk2] at hi2
          subst hi2
          have HO := Lib.hid (own_base hown HBW.out.size)
          have HBF := Lib.hid (HBW.out.trans (hbel.mono HBW.out.size))
          clear hown hbel htk2
          go_wp2_with fail
          go_ret
          have hqp := HQP.out
          rw [hqp]
          exact ⟨B', d', rfl, HO.out, HBF.out⟩
end Go.Proofs.YtjlokkjbdgcooaaGreat
