/-
  Several texts, one behind the other: what each holds stands ahead of it.
-/
import Derived.Test.YtjlokkjbdgcooaaGreatMany18
import Derived.Test.YtjlokkjbdgcooaaGreatAgAt

/-
  Contract of plan.Make.
-/
namespace Go.Proofs.YtjlokkjbdgcooaaGreat
open Mo
open Go.RowKit Go.Sort

noncomputable def mkL (t : Tpl) (per id : Int) : List Jrn := if t.kind = 1 then accL t per id else [allJ t per id]
/-- May a template's journals of a period be made? -/
noncomputable def mkB (t : Tpl) (per id : Int) : Bool := chkT t && decide (per ∈ perT t) && !((mkL t per id).any fun j => checkE j != 0)
def MkEnd (w : World) (ok : Bool) (js : List Jrn) (e : Ending) (w' : World) : Prop :=
  Below w.heap.size w w' ∧ ((ok = false ∧ e = .returned (.tuple #[.slice none 0 0, .int .i64 1])) ∨ (ok = true ∧ ∃ A c l, e = .returned (.tuple #[.slice A (List.length l) c, .int .i64 0]) ∧ l.map JR.j = js ∧ OwnJl w' w.heap.size A (List.length l) c l))
theorem perT_mem {t : Tpl} {per : Int} (h : per ∈ perT t) : chkT t = true ∧ okP per = true ∧ t.frm ≤ per ∧ per ≤ t.til := by
  unfold perT at h
  split at h
  · rename_i hc
    obtain ⟨h1, h2, h3, h4, _⟩ := front_of hc
    unfold perL at h
    obtain ⟨k, hk, rfl⟩ := List.mem_map.1 h
    have hle := (per_lt h4.1 h3 k).1 (List.mem_range.1 hk)
    have hge : 0 ≤ (k : Int) * t.ev := Int.mul_nonneg (by omega) (by omega)
    refine ⟨hc, ?_, by omega, hle⟩
    unfold okP
    rw [decide_eq_true_eq]
    omega
  · simp at h
theorem kind_of {t : Tpl} (h : chkT t = true) : (t.kind = 1) ∨ (t.kind = 2 ∧ allocT t = true) := by
  unfold chkT at h
  simp only [Bool.and_eq_true, Bool.or_eq_true, decide_eq_true_eq] at h
  rcases h.2 with h | h
  · exact .inl h.1
  · exact .inr h
theorem alloc_of {t : Tpl} (h : allocT t = true) : t.tg.length ≤ 7 ∧ t.wt.length = t.tg.length ∧ tgOk t.cre 0 t.tg = true ∧ splitOk t.amt t.wt = true := by
  unfold allocT at h
  simp only [Bool.and_eq_true, decide_eq_true_eq] at h
  obtain ⟨⟨⟨h1, h2⟩, h3⟩, h4⟩ := h
  exact ⟨by have := (inB_iff.1 h1).2; omega, h2, h3, h4⟩
theorem accE_any {t : Tpl} {per id : Int} (h : accE t per id ≠ 0) : ((accL t per id).any fun j => checkE j != 0) = true := by
  unfold accE at h
  split at h
  · rename_i hp
    unfold accL
    rw [if_pos hp]
    unfold revE at h
    by_cases h1 : checkE (accJ t per id) = 0
    · rw [if_pos h1] at h
      simp [h1, h]
    · simp [h1]
  · exact absurd rfl h
theorem mkL_size {t : Tpl} {per id : Int} (ht : t.tg.length ≤ 7 ∨ t.kind = 1) : ∀ j ∈ mkL t per id, j.ref.size ≤ maxLen ∧ j.lines.length ≤ maxLen := by
  intro j hj
  unfold mkL at hj
  split at hj
  · unfold accL at hj
    split at hj
    · have : j = accJ t per id ∨ j = revJ (accJ t per id) (id + 1) (per + 1) := by simpa using hj
      rcases this with rfl | rfl <;> exact ⟨Nat.zero_le _, by show 2 ≤ maxLen; unfold maxLen; omega⟩
    · have : j = accJ t per id := by simpa using hj
      subst this
      exact ⟨Nat.zero_le _, by show 2 ≤ maxLen; unfold maxLen; omega⟩
  · rename_i hk
    have : j = allJ t per id := by simpa using hj
    subst this
    refine ⟨Nat.zero_le _, ?_⟩
    have h1 := lnsOf_len t.tg (partsT t.amt t.wt)
    have h2 : t.tg.length ≤ 7 := ht.resolve_right hk
    show (lnsOf t.tg (partsT t.amt t.wt) ++ [_]).length ≤ maxLen
    rw [List.length_append]
    unfold maxLen
    simp
    omega
/-- Whatever the kind: its journals. -/
theorem kind_makes (t : Tpl) (per id : Int) (w : World) (h : TplIn w t) (hc : chkT t = true) (hp : okP per = true) (hid : -4611686018427387904 ≤ id ∧ id ≤ 4611686018427387904) :
    ∃ F G E, (G = 130 ∨ G = 132) ∧ kindV t.kind = .agg #[.func (.func F) #[] #[], .func (.func G) #[] #[]] ∧ (E ≠ 0 → ((mkL t per id).any fun j => checkE j != 0) = true) ∧ ∀ w1, Below w.heap.size w w1 → Calls Tryz.prog G #[.agg t.cells.toArray, .int .i64 per, .int .i64 id] w1 (MadeJs w1 E (mkL t per id)) := by
  obtain ⟨_, _, _, _, ha⟩ := front_of hc
  rcases kind_of hc with hk | ⟨hk, hal⟩
  · refine ⟨_, _, accE t per id, .inl rfl, by unfold kindV; rw [if_pos hk], fun hE => ?_, fun w1 hb => ?_⟩
    · unfold mkL; rw [if_pos hk]; exact accE_any hE
    · unfold mkL; rw [if_pos hk]; exact accrue_any t per id w1 ha hp hid
  · obtain ⟨_, h2, _, h4⟩ := alloc_of hal
    have hk1 : ¬ t.kind = 1 := by omega
    refine ⟨_, _, 0, .inr rfl, by unfold kindV; rw [if_neg hk1, if_pos hk], fun hE => absurd rfl hE, fun w1 hb => ?_⟩
    unfold mkL; rw [if_neg hk1]; exact allocate_any t per id w1 (h.below hb) ha h4 h2

set_option maxRecDepth 100000 in
set_option maxHeartbeats 4000000 in
theorem makeT_any (t : Tpl) (per id : Int) (w : World) (h : TplIn w t) (hid : -4611686018427387904 ≤ id ∧ id ≤ 4611686018427387904) :
    Calls Tryz.prog 16 #[.agg t.cells.toArray, .int .i64 per, .int .i64 id] w (MkEnd w (mkB t per id) (mkL t per id)) := by
  obtain ⟨W, hW⟩ : ∃ W, w.alloc (.cells t.cells.toArray 24) = W := ⟨_, rfl⟩
  have hbW : Below w.heap.size w W := by rw [← hW]; exact (Below.refl _ _).alloc (Nat.le_refl _) _
  have hx : TplAt W w.heap.size t := by rw [← hW]; exact heap_new w _
  have hin := h.below hbW
  have kc := Lib.hid (checkT_any t W hin)
  have HW := Lib.hid hW; have HBW := Lib.hid hbW
  have HTX : Hid (∀ w1, Below W.heap.size W w1 → TplAt w1 w.heap.size t) := fun w1 hb1 => hx.below hb1
  have HIN : Hid (∀ w1, Below W.heap.size W w1 → TplIn w1 t) := fun w1 hb1 => hin.below hb1
  have HFIN : Hid (∀ w1, Below W.heap.size W w1 → Below w.heap.size w w1) := fun w1 hb1 => hbW.trans (hb1.mono hbW.size)
  have HPER : Hid (∀ w1, Below W.heap.size W w1 → Calls Tryz.prog 14 #[.agg t.cells.toArray] w1 fun e w' => ∃ A c, e = .returned (.slice A (perT t).length c) ∧ w'.ownsRow w1.heap.size 3 1 (.slice A (perT t).length c) (perT t).length (ints .i64 (perT t)) ∧ Below w1.heap.size w1 w') := fun w1 hb1 => periods_any t w1 (hin.below hb1)
  have kk := fun w1 => kindOf_any t.kind w1
  have HB : Hid (mkB t per id = (chkT t && decide (per ∈ perT t) && !((mkL t per id).any fun j => checkE j != 0))) := rfl
  have HPL : Hid (chkT t = true → (perT t).length ≤ 1000000) := fun hc => by unfold perT; rw [if_pos hc, perL_len]; have := perN_le hc; omega
  obtain ⟨⟨x0, x1, x2, x3, x4, x5⟩, x6, x7, x8, x9, x10, x11⟩ := tpl_cells hx
  cases hc : chkT t
  · have HE : Hid (mkB t per id = false) := by rw [Hid, HB.out, hc]; rfl
    rw [chkTE_no hc] at kc
    clear hW hbW hx hin h kk hc HB
    unfold Tpl.cells at *
    go_enter Tryz.func16, Tryz.ntmps16
    go_wp2_with fail
    rw [HW.out]
    refine kc.out.mono ?_
    rintro e w1 ⟨rfl, hb1⟩
    have HB1 := Lib.hid (HFIN.out _ hb1)
    clear hb1
    go_wp2_with fail
    go_ret2
    exact ⟨HB1.out, .inl ⟨HE.out, rfl⟩⟩
  rw [chkTE_yes hc] at kc
  have KM : Hid (okP per = true → ∃ F G E, (G = 130 ∨ G = 132) ∧ kindV t.kind = .agg #[.func (.func F) #[] #[], .func (.func G) #[] #[]] ∧ (E ≠ 0 → ((mkL t per id).any fun j => checkE j != 0) = true) ∧ ∀ w1, Below W.heap.size W w1 → Calls Tryz.prog G #[.agg t.cells.toArray, .int .i64 per, .int .i64 id] w1 (MadeJs w1 E (mkL t per id))) := fun hp => kind_makes t per id W hin hc hp hid
  have HKD : Hid ((decide (t.kind = 1) || decide (t.kind = 2)) = true) := by
    rcases kind_of hc with hk | ⟨hk, _⟩ <;> simp [Hid, hk]
  have HSZ : Hid (∀ j ∈ mkL t per id, j.ref.size ≤ maxLen ∧ j.lines.length ≤ maxLen) := mkL_size (by
    rcases kind_of hc with hk | ⟨_, hal⟩
    · exact .inr hk
    · exact .inl (alloc_of hal).1)
  have HMP : Hid (per ∈ perT t → okP per = true) := fun h => (perT_mem h).2.1
  have HPL2 := Lib.hid (HPL.out hc)
  have HB2 : Hid (mkB t per id = (decide (per ∈ perT t) && !((mkL t per id).any fun j => checkE j != 0))) := by rw [Hid, HB.out, hc]; rfl
  have KK := Lib.hid kk
  clear hW hbW hx hin h kk hc HB HPL
  unfold Tpl.cells at *
  go_enter Tryz.func16, Tryz.ntmps16
  go_wp2_with fail
  rw [HW.out]
  refine kc.out.mono ?_
  rintro e w1 ⟨rfl, hb1⟩
  have HB1 := Lib.hid hb1
  clear kc x0 x1 x2 x3 x4 x5 x6 x7 x8 x9 x10 x11
  obtain ⟨⟨x0, x1, x2, x3, x4, x5⟩, x6, x7, x8, x9, x10, x11⟩ := tpl_cells (HTX.out w1 hb1)
  clear hb1
  go_wp2_with fail
  refine (HPER.out w1 HB1.out).mono ?_
  rintro e w2 ⟨A, c, rfl, hown, hb2⟩
  have HBL : Hid (Below W.heap.size W w2) := HB1.out.trans (hb2.mono HB1.out.size)
  have kn := Lib.hid (containsI_any (perT t) per A (perT t).length c w2.heap.size w2 (rd_of_own hown) HPL2.out)
  clear hown hb2 x0 x1 x2 x3 x4 x5 x6 x7 x8 x9 x10 x11
  go_wp2_with fail
  refine kn.out.mono ?_
  rintro e w3 ⟨rfl, rfl⟩
  clear kn
  by_cases hm : per ∈ perT t
  rotate_left
  · have hd : decide (per ∈ perT t) = false := decide_eq_false hm
    have HE : Hid (mkB t per id = false) := by rw [Hid, HB2.out, hd]; rfl
    clear hm
    go_wp2_with fail
    go_ret2
    exact ⟨HFIN.out _ HBL.out, .inl ⟨HE.out, rfl⟩⟩
  have hd : decide (per ∈ perT t) = true := decide_eq_true hm
  obtain ⟨F, G, E, hGG, hkv, hEA, hG⟩ := KM.out (HMP.out hm)
  have kv := KK.out w2
  rw [hkv, HKD.out] at kv
  have KV := Lib.hid kv; have HG := Lib.hid hG; have HEA := Lib.hid hEA
  have HB3 : Hid (mkB t per id = !((mkL t per id).any fun j => checkE j != 0)) := by rw [Hid, HB2.out, hd]; rfl
  obtain ⟨⟨x0, x1, x2, x3, x4, x5⟩, x6, x7, x8, x9, x10, x11⟩ := tpl_cells (HTX.out w2 HBL.out)
  clear kv hG hEA hkv KK KM hm x1 x2 x3 x4 x5 x6 x7 x8 x9 x10 x11
  go_wp2_with fail
  refine KV.out.mono ?_
  rintro e w4 ⟨rfl, hb4⟩
  obtain ⟨W5, hW5⟩ : ∃ W5, w4.alloc (.cells #[.func (.func F) #[] #[], .func (.func G) #[] #[]] 117) = W5 := ⟨_, rfl⟩
  have hb5 : Below w2.heap.size w2 W5 := by rw [← hW5]; exact hb4.alloc hb4.size _
  have HB5 : Hid (Below W.heap.size W W5) := HBL.out.trans (hb5.mono HBL.out.size)
  have HW5 := Lib.hid hW5
  have hb24 : Below W.heap.size W w4 := HBL.out.trans (hb4.mono HBL.out.size)
  have HAL : Hid (∀ a v, w4.cell? a = some v → ∀ o, (w4.alloc o).cell? a = some v) := fun a v hv o => (((Below.refl w4.heap.size w4).alloc (Nat.le_refl _) o).cell (block_of_cell hv)).trans hv
  clear x0
  obtain ⟨⟨x0, x1, x2, x3, x4, x5⟩, x6, x7, x8, x9, x10, x11⟩ := tpl_cells (HTX.out w4 hb24)
  replace x0 := HAL.out _ _ x0; replace x1 := HAL.out _ _ x1; replace x2 := HAL.out _ _ x2; replace x3 := HAL.out _ _ x3; replace x4 := HAL.out _ _ x4; replace x5 := HAL.out _ _ x5
  replace x6 := HAL.out _ _ x6; replace x7 := HAL.out _ _ x7; replace x8 := HAL.out _ _ x8; replace x9 := HAL.out _ _ x9; replace x10 := HAL.out _ _ x10; replace x11 := HAL.out _ _ x11
  clear hW5 hb4 hb5 hb24 KV
  rcases hGG with rfl | rfl
  all_goals
    go_wp2_with fail
    rw [HW5.out]
    refine (HG.out W5 HB5.out).mono ?_
    rintro e w6 ⟨hb6, hres⟩
    have HB6 := Lib.hid (HB5.out.trans (hb6.mono HB5.out.size))
    clear hb6 x0 x1 x2 x3 x4 x5 x6 x7 x8 x9 x10 x11
    rcases hres with ⟨hE, A6, n6, c6, rfl⟩ | ⟨rfl, A6, c6, l6, rfl, hmap, hown⟩
    · have hEB : (E != 0) = true := by simpa using hE
      have HE : Hid (mkB t per id = false) := by rw [Hid, HB3.out, HEA.out hE]; rfl
      clear hE
      go_wp2_with fail
      go_ret2
      exact ⟨HFIN.out _ HB6.out, .inl ⟨HE.out, rfl⟩⟩
    · have hrd := hown.rd fun a ha => HSZ.out a.j (by rw [← hmap]; exact List.mem_map.2 ⟨a, ha, rfl⟩)
      have hl6 : l6.length ≤ 2 := by
        have := congrArg List.length hmap
        rw [List.length_map] at this
        rw [this]
        unfold mkL accL
        split <;> simp <;> split <;> simp
      have kf := containsJ_any l6 A6 l6.length c6 w6.heap.size w6 hrd (Nat.le_refl _) (by omega)
      rw [hmap] at kf
      have KF := Lib.hid kf
      have HMAP := Lib.hid hmap; have HOWN := Lib.hid hown
      clear hrd hl6 kf hmap hown
      go_wp2_with fail
      refine KF.out.mono ?_
      rintro e w7 ⟨rfl, hb7⟩
      have HB7 := Lib.hid (HFIN.out _ (HB6.out.trans (hb7.mono HB6.out.size)))
      have HOWN7 := Lib.hid (HOWN.out.kept hb7)
      have hz5 : w.heap.size ≤ W5.heap.size := Nat.le_trans HBW.out.size HB5.out.size
      clear hb7 KF
      cases hany : ((mkL t per id).any fun j => checkE j != 0)
      · have HE : Hid (mkB t per id = true) := by rw [Hid, HB3.out, hany]; rfl
        clear hany
        go_wp2_with fail
        go_ret2
        exact ⟨HB7.out, .inr ⟨HE.out, A6, c6, l6, rfl, HMAP.out, own_base HOWN7.out.own hz5, fun a ha => own_base (HOWN7.out.lines a ha) hz5⟩⟩
      · have HE : Hid (mkB t per id = false) := by rw [Hid, HB3.out, hany]; rfl
        clear hany
        go_wp2_with fail
        go_ret2
        exact ⟨HB7.out, .inl ⟨HE.out, rfl⟩⟩
end Go.Proofs.YtjlokkjbdgcooaaGreat

/-
  Contracts of (*Agenda).Next and Due.
-/
namespace Go.Proofs.YtjlokkjbdgcooaaGreat
open Go.RowKit Go.Sort

/-- What the list becomes where the first one is taken. -/
theorem ag_pop {w w' : World} {B b : Nat} {v : Value} {L : List Itm} {n : Nat} {f f' : Nat → Itm} (hn : L.length = n + 1) (hh : Hp.Heap itmLt (n + 1) f) (hr : Rises L) (hp : L.Perm (lst f (n + 1))) (hl : L.length ≤ 1000) (t : HeapStay w B b v n f' w') (hh2 : Hp.Heap itmLt n f') (hq : Hp.Perm (n + 1) f f') (h0 : f' n = f 0) : ∃ r, L = f 0 :: r ∧ AgStay w B b v r w' := by
  obtain ⟨r, rfl⟩ := root_first hh hr hp
  refine ⟨r, rfl, ?_⟩
  obtain ⟨v', h1, h2, h3⟩ := t
  have hl2 : r.length = n := by simpa using hn
  subst hl2
  have hr2 : Rises r := by unfold Rises at hr ⊢; exact (List.pairwise_cons.1 hr).2
  refine ⟨v', ⟨f', h1, hh2, hr2, ?_, by simp at hl; omega⟩, h2, h3⟩
  have h4 := hp.trans (lst_perm hq).symm
  rw [lst_succ, h0] at h4
  have h5 : (f 0 :: r).Perm (f 0 :: lst f' r.length) := h4.trans (List.perm_append_singleton _ _)
  exact (List.perm_cons _).1 h5

theorem below_three (w : World) (g : Nat) (x y z : Value) : Below g w (((w.setCell ⟨g, 0, none⟩ x).setCell ⟨g, 1, none⟩ y).setCell ⟨g, 2, none⟩ z) := by
  have e1 : Below g w (w.setCell ⟨g, 0, none⟩ x) := (Below.refl g w).setCell (p := ⟨g, 0, none⟩) (Nat.le_refl g) x
  have e2 := e1.setCell (p := ⟨g, 1, none⟩) (Nat.le_refl g) y
  exact e2.setCell (p := ⟨g, 2, none⟩) (Nat.le_refl g) z
/-- Behind it blocks of one's own are written. -/
theorem ag_behind {w W1 w2 w3 : World} {B b : Nat} {v : Value} {L : List Itm} (hA : ∀ k, InAg b v k → k < w.heap.size) (hb : Below w.heap.size w W1) (t : AgStay W1 B b v L w2) (hs : Below w.heap.size w2 w3) : AgStay w B b v L w3 := by
  obtain ⟨v', t1, t2, t3⟩ := t
  have h12 : But (InAg b v) w w2 := (But.of_below hb).trans t2
  refine ⟨v', t1.kept fun k _ hi => hs.block k (hA k ?_), ⟨hs.os.trans h12.os, hs.tape.trans h12.tape, hs.output.trans h12.output, Nat.le_trans h12.size hs.size, fun k hk hn => (hs.block k hk).trans (h12.block k hk hn)⟩, t3⟩
  rcases hi with rfl | hi
  · exact .inl rfl
  · exact .inr (t3 ▸ hi)
set_option maxRecDepth 100000 in
theorem agNext_none {w : World} {B b : Nat} {v : Value} (h : AgAt w B b v []) : Calls Tryz.prog 102 #[.pointer (some ⟨b, 0, none⟩)] w fun e w' => e = .returned (.tuple #[.agg #[.int .i64 0, .int .i64 0, .int .i64 0], .bool false]) ∧ Below w.heap.size w w' := by
  have K := Lib.hid fun W (hb : Below w.heap.size w W) => agLen_any (h.below hb)
  clear h
  go_enter Tryz.func102, Tryz.ntmps102
  go_wp2_with fail
  refine (K.out _ ((Below.refl _ _).alloc (Nat.le_refl _) _)).mono ?_
  rintro e w1 ⟨rfl, rfl⟩
  go_wp2_with fail
  refine bodyPost_ret (v := .tuple #[.agg #[.int .i64 0, .int .i64 0, .int .i64 0], .bool false]) (by simp [results, Tryz.results102, go_sem]) rfl ⟨rfl, ?_⟩
  exact (Below.refl _ _).alloc (Nat.le_refl _) _
set_option maxRecDepth 100000 in
theorem agNext_nil (w : World) : Calls Tryz.prog 102 #[.pointer none] w fun e w' => e = .returned (.tuple #[.agg #[.int .i64 0, .int .i64 0, .int .i64 0], .bool false]) ∧ Below w.heap.size w w' := by
  have K := Lib.hid agLen_nil
  go_enter Tryz.func102, Tryz.ntmps102
  go_wp2_with fail
  refine (K.out _).mono ?_
  rintro e w1 ⟨rfl, rfl⟩
  go_wp2_with fail
  refine bodyPost_ret (v := .tuple #[.agg #[.int .i64 0, .int .i64 0, .int .i64 0], .bool false]) (by simp [results, Tryz.results102, go_sem]) rfl ⟨rfl, ?_⟩
  exact (Below.refl _ _).alloc (Nat.le_refl _) _
set_option maxRecDepth 100000 in
set_option maxHeartbeats 1000000 in
theorem agNext_some {w : World} {B b : Nat} {v : Value} {x : Itm} {r : List Itm} (h : AgAt w B b v (x :: r)) : Calls Tryz.prog 102 #[.pointer (some ⟨b, 0, none⟩)] w fun e w' => e = .returned (.tuple #[.agg #[.int .i64 x.per, .int .i64 x.rk, .int .i64 x.id], .bool true]) ∧ AgStay w B b v r w' := by
  obtain ⟨W1, hW1⟩ : ∃ W1, w.alloc (.cells #[.int .i64 0, .int .i64 0, .int .i64 0] 71) = W1 := ⟨_, rfl⟩
  have hb1 : Below w.heap.size w W1 := by rw [← hW1]; exact (Below.refl _ _).alloc (Nat.le_refl _) _
  have hz : W1.heap[w.heap.size]? = some (.cells #[.int .i64 0, .int .i64 0, .int .i64 0] 71 (0, 0)) := by rw [← hW1]; exact heap_new w _
  have h1 := h.below hb1
  have K := Lib.hid (agLen_any h1)
  have hbl := h.lt
  have hlen : (((x :: r).length : Nat) : Int) = (r.length : Int) + 1 := by simp
  have hne : (((r.length : Int) + 1) == 0) = false := by simp; omega
  obtain ⟨f, hh, hheap, hrise, hperm, hle⟩ := h1
  have KP := Lib.hid (heapPop_any b B r.length v f W1 hh hheap (by simp at hle; omega))
  have HHP := Lib.hid hheap; have HRI := Lib.hid hrise; have HPM := Lib.hid hperm; have HLE := Lib.hid hle
  have HB1 := Lib.hid hb1; have HW := Lib.hid hW1; have HZ := Lib.hid hz
  have HA : Hid (∀ k, InAg b v k → k < w.heap.size) := h.ltB
  clear h hh hheap hrise hperm hle hW1 hb1 hz
  go_enter Tryz.func102, Tryz.ntmps102
  go_wp2_with fail
  rw [HW.out]
  refine K.out.mono ?_
  rintro e w1 ⟨rfl, rfl⟩
  rw [hlen]
  go_wp2_with fail
  refine KP.out.mono ?_
  rintro e w2 ⟨rfl, f', hto, hh2, hq, h0⟩
  obtain ⟨r', e1, T⟩ := ag_pop rfl HHP.out HRI.out HPM.out HLE.out hto hh2 hq h0
  injection e1 with e1 e2
  subst e2
  subst e1
  have hta : ∀ W, (Instr.typeAssert (.iface 71 (.agg #[.int .i64 (f 0).per, .int .i64 (f 0).rk, .int .i64 (f 0).id])) 20 71 false).run Tryz.prog W = .ok (.agg #[.int .i64 (f 0).per, .int .i64 (f 0).rk, .int .i64 (f 0).id]) W := fun _ => by kernel_rfl
  have hz2 : w2.heap[w.heap.size]? = some (.cells #[.int .i64 0, .int .i64 0, .int .i64 0] 71 (0, 0)) := by
    obtain ⟨v', _, hb, _⟩ := T
    rw [hb.block _ (lt_of_blk HZ.out) (fun hi => Nat.lt_irrefl _ (HA.out _ hi))]
    exact HZ.out
  have HZ2 := Lib.hid hz2
  have hf2 := warm_of hz2
  obtain ⟨z0, z1, z2⟩ := cells3_regrown hz2
  have HT := Lib.hid T
  clear hto hh2 hq h0 T hz2
  go_wp2_with fail
  refine bodyPost_ret (v := .tuple #[.agg #[.int .i64 (f 0).per, .int .i64 (f 0).rk, .int .i64 (f 0).id], .bool true]) (by simp [results, Tryz.results102, go_sem, z0, z1, z2]) rfl ⟨rfl, ?_⟩
  exact ag_behind HA.out HB1.out HT.out (below_three _ _ _ _ _)

def dueI (p : Int) (L : List Itm) : List Itm := L.takeWhile fun x => decide (x.per ≤ p)
def laterI (p : Int) (L : List Itm) : List Itm := L.dropWhile fun x => decide (x.per ≤ p)
theorem append_itm {w : World} {base m : Nat} {v : Value} {D : List Itm} (a : Itm) (h : w.ownsRow base 71 3 v m (itms D)) (hb : base ≤ w.heap.size) (hm : m ≤ 1000000) :
    ∃ v' w', (∀ ty, (Builtin.append_ #[69, 69] ty #[v, .slice (some ⟨w.heap.size, 0, none⟩) 1 1]).run Tryz.prog (w.alloc (.cells #[.int .i64 a.per, .int .i64 a.rk, .int .i64 a.id] 71)) = .ok v' w') ∧ w'.ownsRow base 71 3 v' (m + 1) (itms (D ++ [a])) ∧ But (fun k => v.ownBlock = some k) w w' := by
  have hR : Rd (w.alloc (.cells #[.int .i64 a.per, .int .i64 a.rk, .int .i64 a.id] 71)) (w.heap.size + 1) 3 (some ⟨w.heap.size, 0, none⟩) 1 a.cells := ⟨rfl, fun _ => ⟨_, rfl, by simp, cells_new w a.cells 71⟩⟩
  have h1 : (w.alloc (.cells #[.int .i64 a.per, .int .i64 a.rk, .int .i64 a.id] 71)).ownsRow base 71 3 v m (itms D) := own_kept h fun k hk _ => Below.heap_alloc w _ _ hk
  obtain ⟨v', w', hrun, hown, hg, hp⟩ := append_fresh (P := Tryz.prog) (ty := 0) (c := 1) infoItm Tryz.underlying69 rfl (by omega) base v m (itms D) h1 hR (by intro u hu; simp [Itm.cells] at hu; rcases hu with rfl | rfl | rfl <;> rfl) (by unfold maxLen; omega) (by omega) (by simp; omega)
  refine ⟨v', w', fun ty => hrun, by rw [itms_append]; exact (show itms [a] = a.cells by simp [itms]) ▸ hown, ?_⟩
  exact (But.of_below ((Below.refl _ _).alloc (Nat.le_refl _) _)).trans (But.of_grown hg)

/-- While what is due is taken: of L the first k went to the row dv. -/
structure DueSt (w : World) (B b : Nat) (v : Value) (L : List Itm) (k : Nat) (dv : Value) (wr : World) : Prop where
  ag : AgStay w B b v (L.drop k) wr
  own : wr.ownsRow w.heap.size 71 3 dv k (itms (L.take k))
theorem DueSt.next {w wr w2 w3 : World} {B b : Nat} {v v1 : Value} {L : List Itm} {k : Nat} {dv dv' : Value} {x : Itm} (hA : ∀ i, InAg b v i → i < w.heap.size) (hx : L[k]? = some x) (h1 : But (InAg b v) w wr) (h2 : v1.ownBlock = v.ownBlock)
    (t : AgStay wr B b v1 (L.drop (k + 1)) w2) (hd : w2.ownsRow w.heap.size 71 3 dv k (itms (L.take k))) (hn : w3.ownsRow w.heap.size 71 3 dv' (k + 1) (itms (L.take k ++ [x]))) (hb : But (fun i => dv.ownBlock = some i) w2 w3) : DueSt w B b v L (k + 1) dv' w3 := by
  have t2 := AgStay.trans h1 h2 t
  have hge := own_ge hd
  have hs : Below w.heap.size w2 w3 := hb.below (fun i _ hi => hge i hi) (Nat.le_trans h1.size (by obtain ⟨_, _, h, _⟩ := t; exact h.size))
  refine ⟨ag_behind hA (Below.refl _ _) t2 hs, ?_⟩
  obtain ⟨hk, rfl⟩ := List.getElem?_eq_some_iff.1 hx
  rw [List.take_succ_eq_append_getElem hk]
  exact hn
theorem AgAt.first {w : World} {B b : Nat} {v : Value} {x : Itm} {r : List Itm} (h : AgAt w B b v (x :: r)) : ∃ g c, v = .slice (some ⟨g, 0, none⟩) (r.length + 1) c ∧ w.cell? ⟨g, 0, none⟩ = some (.int .i64 x.per) := by
  obtain ⟨f, hh, hheap, hrise, hperm, hle⟩ := h
  obtain ⟨g, c, rfl, hbx, hrow, _⟩ := heapAt_row hh
  obtain ⟨r', e⟩ := root_first hheap hrise hperm
  injection e with e _
  refine ⟨g, c, rfl, ?_⟩
  have := (hrow.cells (k := 0) (by omega)).1
  rw [Nat.zero_mul] at this
  rw [this, e]
theorem due_len (p : Int) (L : List Itm) : (dueI p L).length ≤ L.length := List.Sublist.length_le (List.takeWhile_sublist _)
theorem due_take : ∀ {p : Int} {L : List Itm} {k : Nat}, k < (dueI p L).length → ∃ x, L[k]? = some x ∧ x.per ≤ p ∧ L.drop k = x :: L.drop (k + 1)
  | p, [], k, h => by simp [dueI] at h
  | p, y :: L, k, h => by
    unfold dueI at h
    rw [List.takeWhile_cons] at h
    by_cases hy : y.per ≤ p
    · rw [if_pos (by simpa using hy)] at h
      cases k with
      | zero => exact ⟨y, rfl, hy, rfl⟩
      | succ k =>
        obtain ⟨x, h1, h2, h3⟩ := due_take (p := p) (L := L) (k := k) (by simpa [dueI] using h)
        exact ⟨x, by simpa using h1, h2, by simpa using h3⟩
    · rw [if_neg (by simpa using hy)] at h; simp at h
theorem due_parts : ∀ (p : Int) (L : List Itm), L.take (dueI p L).length = dueI p L ∧ L.drop (dueI p L).length = laterI p L
  | p, [] => by simp [dueI, laterI]
  | p, y :: L => by
    obtain ⟨h1, h2⟩ := due_parts p L
    unfold dueI laterI at *
    rw [List.takeWhile_cons, List.dropWhile_cons]
    by_cases hy : y.per ≤ p
    · rw [if_pos (by simpa using hy), if_pos (by simpa using hy)]
      simp only [List.length_cons, List.take_succ_cons, List.drop_succ_cons]
      exact ⟨by rw [h1], h2⟩
    · rw [if_neg (by simpa using hy), if_neg (by simpa using hy)]
      simp
theorem later_head {p : Int} {L : List Itm} {x : Itm} {r : List Itm} (h : laterI p L = x :: r) : ¬ x.per ≤ p := by
  unfold laterI at h
  induction L with
  | nil => simp at h
  | cons y L ih =>
    rw [List.dropWhile_cons] at h
    split at h
    · exact ih h
    · rename_i hy
      injection h with h1 h2
      subst h1
      simpa using hy

def lenV : Value → Nat
  | .slice _ n _ => n
  | _ => 0
end Go.Proofs.YtjlokkjbdgcooaaGreat
