/-
  Contract of plan.Make.
-/
import Derived.Test.YthjpknipnmagkaaPlanFind
namespace Go.Proofs.Ythjpknipnmagkaa
open Mo
open Go.RowKit Go.Sort

noncomputable def mkL (t : Tpl) (per id : Int) : List Jrn := if t.kind = 1 then accL t per id else [allJ t per id]
/-- May a template's journals of a period be made? -/
noncomputable def mkB (t : Tpl) (per id : Int) : Bool := chkT t && decide (per ∈ perT t) && !((mkL t per id).any fun j => checkE j != 0)
def MkEnd (w : World) (ok : Bool) (js : List Jrn) (e : Ending) (w' : World) : Prop :=
  Below w.heap.size w w' ∧ ((ok = false ∧ e = .returned (.tuple #[.slice none 0 0, .int .i64 1])) ∨ (ok = true ∧ ∃ A c l, e = .returned (.tuple #[.slice A (List.length l) c, .int .i64 0]) ∧ l.map JR.j = js ∧ OwnJl w' w.heap.size A (List.length l) c l))
theorem perT_mem {t : Tpl} {per : Int} (h : per ∈ perT t) : chkT t = true ∧ okP per = true ∧ t.frm ≤ per ∧ per ≤ t.til := by
  unfold perT at h
  split at h
  · rename_i hc
    obtain ⟨h1, h2, h3, h4, _⟩ := front_of hc
    unfold perL at h
    obtain ⟨k, hk, rfl⟩ := List.mem_map.1 h
    have hle := (per_lt h4.1 h3 k).1 (List.mem_range.1 hk)
    have hge : 0 ≤ (k : Int) * t.ev := Int.mul_nonneg (by omega) (by omega)
    refine ⟨hc, ?_, by omega, hle⟩
    unfold okP
    rw [decide_eq_true_eq]
    omega
  · simp at h
theorem kind_of {t : Tpl} (h : chkT t = true) : (t.kind = 1) ∨ (t.kind = 2 ∧ allocT t = true) := by
  unfold chkT at h
  simp only [Bool.and_eq_true, Bool.or_eq_true, decide_eq_true_eq] at h
  rcases h.2 with h | h
  · exact .inl h.1
  · exact .inr h
theorem alloc_of {t : Tpl} (h : allocT t = true) : t.tg.length ≤ 7 ∧ t.wt.length = t.tg.length ∧ tgOk t.cre 0 t.tg = true ∧ splitOk t.amt t.wt = true := by
  unfold allocT at h
  simp only [Bool.and_eq_true, decide_eq_true_eq] at h
  obtain ⟨⟨⟨h1, h2⟩, h3⟩, h4⟩ := h
  exact ⟨by have := (inB_iff.1 h1).2; omega, h2, h3, h4⟩
theorem accE_any {t : Tpl} {per id : Int} (h : accE t per id ≠ 0) : ((accL t per id).any fun j => checkE j != 0) = true := by
  unfold accE at h
  split at h
  · rename_i hp
    unfold accL
    rw [if_pos hp]
    unfold revE at h
    by_cases h1 : checkE (accJ t per id) = 0
    · rw [if_pos h1] at h
      simp [h1, h]
    · simp [h1]
  · exact absurd rfl h
theorem mkL_size {t : Tpl} {per id : Int} (ht : t.tg.length ≤ 7 ∨ t.kind = 1) : ∀ j ∈ mkL t per id, j.ref.size ≤ maxLen ∧ j.lines.length ≤ maxLen := by
  intro j hj
  unfold mkL at hj
  split at hj
  · unfold accL at hj
    split at hj
    · have : j = accJ t per id ∨ j = revJ (accJ t per id) (id + 1) (per + 1) := by simpa using hj
      rcases this with rfl | rfl <;> exact ⟨Nat.zero_le _, by show 2 ≤ maxLen; unfold maxLen; omega⟩
    · have : j = accJ t per id := by simpa using hj
      subst this
      exact ⟨Nat.zero_le _, by show 2 ≤ maxLen; unfold maxLen; omega⟩
  · rename_i hk
    have : j = allJ t per id := by simpa using hj
    subst this
    refine ⟨Nat.zero_le _, ?_⟩
    have h1 := lnsOf_len t.tg (partsT t.amt t.wt)
    have h2 : t.tg.length ≤ 7 := ht.resolve_right hk
    show (lnsOf t.tg (partsT t.amt t.wt) ++ [_]).length ≤ maxLen
    rw [List.length_append]
    unfold maxLen
    simp
    omega
/-- Whatever the kind: its journals. -/
theorem kind_makes (t : Tpl) (per id : Int) (w : World) (h : TplIn w t) (hc : chkT t = true) (hp : okP per = true) (hid : -4611686018427387904 ≤ id ∧ id ≤ 4611686018427387904) :
    ∃ F G E, (G = 60 ∨ G = 62) ∧ kindV t.kind = .agg #[.func (.func F) #[] #[], .func (.func G) #[] #[]] ∧ (E ≠ 0 → ((mkL t per id).any fun j => checkE j != 0) = true) ∧ ∀ w1, Below w.heap.size w w1 → Calls Try.prog G #[.agg t.cells.toArray, .int .i64 per, .int .i64 id] w1 (MadeJs w1 E (mkL t per id)) := by
  obtain ⟨_, _, _, _, ha⟩ := front_of hc
  rcases kind_of hc with hk | ⟨hk, hal⟩
  · refine ⟨_, _, accE t per id, .inl rfl, by unfold kindV; rw [if_pos hk], fun hE => ?_, fun w1 hb => ?_⟩
    · unfold mkL; rw [if_pos hk]; exact accE_any hE
    · unfold mkL; rw [if_pos hk]; exact accrue_any t per id w1 ha hp hid
  · obtain ⟨_, h2, _, h4⟩ := alloc_of hal
    have hk1 : ¬ t.kind = 1 := by omega
    refine ⟨_, _, 0, .inr rfl, by unfold kindV; rw [if_neg hk1, if_pos hk], fun hE => absurd rfl hE, fun w1 hb => ?_⟩
    unfold mkL; rw [if_neg hk1]; exact allocate_any t per id w1 (h.below hb) ha h4 h2

set_option maxRecDepth 100000 in
set_option maxHeartbeats 4000000 in
theorem makeT_any (t : Tpl) (per id : Int) (w : World) (h : TplIn w t) (hid : -4611686018427387904 ≤ id ∧ id ≤ 4611686018427387904) :
    Calls Try.prog 12 #[.agg t.cells.toArray, .int .i64 per, .int .i64 id] w (MkEnd w (mkB t per id) (mkL t per id)) := by
  obtain ⟨W, hW⟩ : ∃ W, w.alloc (.cells t.cells.toArray 24) = W := ⟨_, rfl⟩
  have hbW : Below w.heap.size w W := by rw [← hW]; exact (Below.refl _ _).alloc (Nat.le_refl _) _
  have hx : TplAt W w.heap.size t := by rw [← hW]; exact heap_new w _
  have hin := h.below hbW
  have kc := Lib.hid (checkT_any t W hin)
  have HW := Lib.hid hW; have HBW := Lib.hid hbW
  have HTX : Hid (∀ w1, Below W.heap.size W w1 → TplAt w1 w.heap.size t) := fun w1 hb1 => hx.below hb1
  have HIN : Hid (∀ w1, Below W.heap.size W w1 → TplIn w1 t) := fun w1 hb1 => hin.below hb1
  have HFIN : Hid (∀ w1, Below W.heap.size W w1 → Below w.heap.size w w1) := fun w1 hb1 => hbW.trans (hb1.mono hbW.size)
  have HPER : Hid (∀ w1, Below W.heap.size W w1 → Calls Try.prog 33 #[.agg t.cells.toArray] w1 fun e w' => ∃ A c, e = .returned (.slice A (perT t).length c) ∧ w'.ownsRow w1.heap.size 3 1 (.slice A (perT t).length c) (perT t).length (ints .i64 (perT t)) ∧ Below w1.heap.size w1 w') := fun w1 hb1 => periods_any t w1 (hin.below hb1)
  have kk := fun w1 => kindOf_any t.kind w1
  have HB : Hid (mkB t per id = (chkT t && decide (per ∈ perT t) && !((mkL t per id).any fun j => checkE j != 0))) := rfl
  have HPL : Hid (chkT t = true → (perT t).length ≤ 1000000) := fun hc => by unfold perT; rw [if_pos hc, perL_len]; have := perN_le hc; omega
  obtain ⟨⟨x0, x1, x2, x3, x4, x5⟩, x6, x7, x8, x9, x10, x11⟩ := tpl_cells hx
  cases hc : chkT t
  · have HE : Hid (mkB t per id = false) := by rw [Hid, HB.out, hc]; rfl
    rw [chkTE_no hc] at kc
    clear hW hbW hx hin h kk hc HB
    unfold Tpl.cells at *
    go_enter Try.func12, Try.ntmps12
    go_wp2_with fail
    rw [HW.out]
    refine kc.out.mono ?_
    rintro e w1 ⟨rfl, hb1⟩
    have HB1 := Lib.hid (HFIN.out _ hb1)
    clear hb1
    go_wp2_with fail
    go_ret2
    exact ⟨HB1.out, .inl ⟨HE.out, rfl⟩⟩
  rw [chkTE_yes hc] at kc
  have KM : Hid (okP per = true → ∃ F G E, (G = 60 ∨ G = 62) ∧ kindV t.kind = .agg #[.func (.func F) #[] #[], .func (.func G) #[] #[]] ∧ (E ≠ 0 → ((mkL t per id).any fun j => checkE j != 0) = true) ∧ ∀ w1, Below W.heap.size W w1 → Calls Try.prog G #[.agg t.cells.toArray, .int .i64 per, .int .i64 id] w1 (MadeJs w1 E (mkL t per id))) := fun hp => kind_makes t per id W hin hc hp hid
  have HKD : Hid ((decide (t.kind = 1) || decide (t.kind = 2)) = true) := by
    rcases kind_of hc with hk | ⟨hk, _⟩ <;> simp [Hid, hk]
  have HSZ : Hid (∀ j ∈ mkL t per id, j.ref.size ≤ maxLen ∧ j.lines.length ≤ maxLen) := mkL_size (by
    rcases kind_of hc with hk | ⟨_, hal⟩
    · exact .inr hk
    · exact .inl (alloc_of hal).1)
  have HMP : Hid (per ∈ perT t → okP per = true) := fun h => (perT_mem h).2.1
  have HPL2 := Lib.hid (HPL.out hc)
  have HB2 : Hid (mkB t per id = (decide (per ∈ perT t) && !((mkL t per id).any fun j => checkE j != 0))) := by rw [Hid, HB.out, hc]; rfl
  have KK := Lib.hid kk
  clear hW hbW hx hin h kk hc HB HPL
  unfold Tpl.cells at *
  go_enter Try.func12, Try.ntmps12
  go_wp2_with fail
  rw [HW.out]
  refine kc.out.mono ?_
  rintro e w1 ⟨rfl, hb1⟩
  have HB1 := Lib.hid hb1
  clear kc x0 x1 x2 x3 x4 x5 x6 x7 x8 x9 x10 x11
  obtain ⟨⟨x0, x1, x2, x3, x4, x5⟩, x6, x7, x8, x9, x10, x11⟩ := tpl_cells (HTX.out w1 hb1)
  clear hb1
  go_wp2_with fail
  refine (HPER.out w1 HB1.out).mono ?_
  rintro e w2 ⟨A, c, rfl, hown, hb2⟩
  have HBL : Hid (Below W.heap.size W w2) := HB1.out.trans (hb2.mono HB1.out.size)
  have kn := Lib.hid (containsI_any (perT t) per A (perT t).length c w2.heap.size w2 (rd_of_own hown) HPL2.out)
  clear hown hb2 x0 x1 x2 x3 x4 x5 x6 x7 x8 x9 x10 x11
  go_wp2_with fail
  refine kn.out.mono ?_
  rintro e w3 ⟨rfl, rfl⟩
  clear kn
  by_cases hm : per ∈ perT t
  rotate_left
  · have hd : decide (per ∈ perT t) = false := decide_eq_false hm
    have HE : Hid (mkB t per id = false) := by rw [Hid, HB2.out, hd]; rfl
    clear hm
    go_wp2_with fail
    go_ret2
    exact ⟨HFIN.out _ HBL.out, .inl ⟨HE.out, rfl⟩⟩
  have hd : decide (per ∈ perT t) = true := decide_eq_true hm
  obtain ⟨F, G, E, hGG, hkv, hEA, hG⟩ := KM.out (HMP.out hm)
  have kv := KK.out w2
  rw [hkv, HKD.out] at kv
  have KV := Lib.hid kv; have HG := Lib.hid hG; have HEA := Lib.hid hEA
  have HB3 : Hid (mkB t per id = !((mkL t per id).any fun j => checkE j != 0)) := by rw [Hid, HB2.out, hd]; rfl
  obtain ⟨⟨x0, x1, x2, x3, x4, x5⟩, x6, x7, x8, x9, x10, x11⟩ := tpl_cells (HTX.out w2 HBL.out)
  clear kv hG hEA hkv KK KM hm x1 x2 x3 x4 x5 x6 x7 x8 x9 x10 x11
  go_wp2_with fail
  refine KV.out.mono ?_
  rintro e w4 ⟨rfl, hb4⟩
  obtain ⟨W5, hW5⟩ : ∃ W5, w4.alloc (.cells #[.func (.func F) #[] #[], .func (.func G) #[] #[]] 77) = W5 := ⟨_, rfl⟩
  have hb5 : Below w2.heap.size w2 W5 := by rw [← hW5]; exact hb4.alloc hb4.size _
  have HB5 : Hid (Below W.heap.size W W5) := HBL.out.trans (hb5.mono HBL.out.size)
  have HW5 := Lib.hid hW5
  have hb24 : Below W.heap.size W w4 := HBL.out.trans (hb4.mono HBL.out.size)
  have HAL : Hid (∀ a v, w4.cell? a = some v → ∀ o, (w4.alloc o).cell? a = some v) := fun a v hv o => (((Below.refl w4.heap.size w4).alloc (Nat.le_refl _) o).cell (block_of_cell hv)).trans hv
  clear x0
  obtain ⟨⟨x0, x1, x2, x3, x4, x5⟩, x6, x7, x8, x9, x10, x11⟩ := tpl_cells (HTX.out w4 hb24)
  replace x0 := HAL.out _ _ x0; replace x1 := HAL.out _ _ x1; replace x2 := HAL.out _ _ x2; replace x3 := HAL.out _ _ x3; replace x4 := HAL.out _ _ x4; replace x5 := HAL.out _ _ x5
  replace x6 := HAL.out _ _ x6; replace x7 := HAL.out _ _ x7; replace x8 := HAL.out _ _ x8; replace x9 := HAL.out _ _ x9; replace x10 := HAL.out _ _ x10; replace x11 := HAL.out _ _ x11
  clear hW5 hb4 hb5 hb24 KV
  rcases hGG with rfl | rfl
  all_goals
    go_wp2_with fail
    rw [HW5.out]
    refine (HG.out W5 HB5.out).mono ?_
    rintro e w6 ⟨hb6, hres⟩
    have HB6 := Lib.hid (HB5.out.trans (hb6.mono HB5.out.size))
    clear hb6 x0 x1 x2 x3 x4 x5 x6 x7 x8 x9 x10 x11
    rcases hres with ⟨hE, A6, n6, c6, rfl⟩ | ⟨rfl, A6, c6, l6, rfl, hmap, hown⟩
    · have hEB : (E != 0) = true := by simpa using hE
      have HE : Hid (mkB t per id = false) := by rw [Hid, HB3.out, HEA.out hE]; rfl
      clear hE
      go_wp2_with fail
      go_ret2
      exact ⟨HFIN.out _ HB6.out, .inl ⟨HE.out, rfl⟩⟩
    · have hrd := hown.rd fun a ha => HSZ.out a.j (by rw [← hmap]; exact List.mem_map.2 ⟨a, ha, rfl⟩)
      have hl6 : l6.length ≤ 2 := by
        have := congrArg List.length hmap
        rw [List.length_map] at this
        rw [this]
        unfold mkL accL
        split <;> simp <;> split <;> simp
      have kf := containsJ_any l6 A6 l6.length c6 w6.heap.size w6 hrd (Nat.le_refl _) (by omega)
      rw [hmap] at kf
      have KF := Lib.hid kf
      have HMAP := Lib.hid hmap; have HOWN := Lib.hid hown
      clear hrd hl6 kf hmap hown
      go_wp2_with fail
      refine KF.out.mono ?_
      rintro e w7 ⟨rfl, hb7⟩
      have HB7 := Lib.hid (HFIN.out _ (HB6.out.trans (hb7.mono HB6.out.size)))
      have HOWN7 := Lib.hid (HOWN.out.kept hb7)
      have hz5 : w.heap.size ≤ W5.heap.size := Nat.le_trans HBW.out.size HB5.out.size
      clear hb7 KF
      cases hany : ((mkL t per id).any fun j => checkE j != 0)
      · have HE : Hid (mkB t per id = true) := by rw [Hid, HB3.out, hany]; rfl
        clear hany
        go_wp2_with fail
        go_ret2
        exact ⟨HB7.out, .inr ⟨HE.out, A6, c6, l6, rfl, HMAP.out, own_base HOWN7.out.own hz5, fun a ha => own_base (HOWN7.out.lines a ha) hz5⟩⟩
      · have HE : Hid (mkB t per id = false) := by rw [Hid, HB3.out, hany]; rfl
        clear hany
        go_wp2_with fail
        go_ret2
        exact ⟨HB7.out, .inl ⟨HE.out, rfl⟩⟩
end Go.Proofs.Ythjpknipnmagkaa

