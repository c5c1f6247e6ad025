/-
  Contracts of plan's allocationMayBe, frontMayBe, kindOf, Check.
-/
import Derived.Test.YthjpknipnmagkaaMany7
namespace Go.Proofs.Ythjpknipnmagkaa
open Mo
open Go.RowKit

/-- Split's error. -/
theorem split_err (a : Int) (l : List Int) (A : Option Addr) (n c B : Nat) (w : World) (h : Rd w B 1 A n (ints .i64 l)) (hB : B ≤ w.heap.size) (hn : n ≤ maxLen) :
    Calls Try.prog 88 #[.int .i64 a, .slice A n c] w fun e w' => (∃ A2 n2 c2, e = .returned (.tuple #[.slice A2 n2 c2, .int .i64 (if splitOk a l = true then 0 else 1)])) ∧ Below w.heap.size w w' := by
  cases hs : splitOk a l
  · exact (split_bad a l A n c B w h hn hs).mono fun e w' hh => ⟨⟨none, 0, 0, hh.1⟩, hh.2⟩
  · have hs2 := hs
    unfold splitOk at hs2
    simp only [Bool.and_eq_true, decide_eq_true_eq] at hs2
    obtain ⟨⟨⟨h1, h2⟩, h3⟩, h4⟩ := hs2
    have hl := h.ints_len
    refine (split_ok a l A n c B w h hB h1 h3 (by omega) h4).mono fun e w' hh => ?_
    obtain ⟨p, S, he, _, _, _, hb⟩ := hh
    exact ⟨⟨_, _, _, he⟩, hb⟩

set_option maxRecDepth 100000 in
set_option maxHeartbeats 1000000 in
theorem allocB_any (t : Tpl) (w : World) (h : TplIn w t) : Calls Try.prog 61 #[.agg t.cells.toArray] w fun e w' => e = .returned (.bool (allocT t)) ∧ Below w.heap.size w w' := by
  obtain ⟨W, hW⟩ : ∃ W, w.alloc (.cells t.cells.toArray 24) = W := ⟨_, rfl⟩
  have hb : Below w.heap.size w W := by rw [← hW]; exact (Below.refl _ _).alloc (Nat.le_refl _) _
  have hx : TplAt W w.heap.size t := by rw [← hW]; exact heap_new w _
  have hin := h.below hb
  have HW := Lib.hid hW; have HB := Lib.hid hb
  have HTX : Hid (∀ w1, Below W.heap.size W w1 → TplAt w1 w.heap.size t) := fun w1 hb1 => hx.below hb1
  have HIN : Hid (∀ w1, Below W.heap.size W w1 → TplIn w1 t) := fun w1 hb1 => hin.below hb1
  have kt := Lib.hid (targets_any t W hin)
  have HA : Hid (allocT t = (inB t.tg.length 1 7 && decide (t.wt.length = t.tg.length) && tgOk t.cre 0 t.tg && splitOk t.amt t.wt)) := rfl
  have hlw := h.lw
  have HLW := Lib.hid hlw
  obtain ⟨⟨x0, x1, x2, x3, x4, x5⟩, x6, x7, x8, x9, x10, x11⟩ := tpl_cells hx
  clear hW hb hx hin h hlw
  generalize allocT t = R at *
  cases h1 : inB t.tg.length 1 7
  · have HE : Hid (R = false) := by rw [Hid, HA.out, h1]; rfl
    clear HA
    go_enter Try.func61, Try.ntmps61
    unfold Tpl.cells at *
    go_wp2_with fail
    rw [HW.out]
    refine (within_pl _ _ _ _).mono ?_
    rintro e w1 ⟨rfl, rfl⟩
    go_wp2_with fail
    go_ret
    exact ⟨ret_bool HE.out.symm, HB.out⟩
  by_cases h2 : t.wt.length = t.tg.length
  rotate_left
  · have h2B : ((t.wt.length : Int) != (t.tg.length : Int)) = true := by rw [bne_iff_ne]; omega
    have HE : Hid (R = false) := by rw [Hid, HA.out, decide_eq_false h2]; simp
    clear HA h2
    go_enter Try.func61, Try.ntmps61
    unfold Tpl.cells at *
    go_wp2_with fail
    rw [HW.out]
    refine (within_pl _ _ _ _).mono ?_
    rintro e w1 ⟨rfl, rfl⟩
    go_wp2_with fail
    go_ret
    exact ⟨ret_bool HE.out.symm, HB.out⟩
  have h2B : ((t.wt.length : Int) != (t.tg.length : Int)) = false := by rw [h2]; simp
  cases h3 : tgOk t.cre 0 t.tg
  · have HE : Hid (R = false) := by rw [Hid, HA.out, h3]; simp
    rw [h3] at kt
    clear HA h2 h3
    go_enter Try.func61, Try.ntmps61
    unfold Tpl.cells at *
    go_wp2_with fail
    rw [HW.out]
    refine (within_pl _ _ _ _).mono ?_
    rintro e w1 ⟨rfl, rfl⟩
    go_wp2_with fail
    refine kt.out.mono ?_
    rintro e w2 ⟨rfl, hb2⟩
    have HB2 := Lib.hid (HB.out.trans (hb2.mono HB.out.size))
    clear hb2
    go_wp2_with fail
    go_ret
    exact ⟨ret_bool HE.out.symm, HB2.out⟩
  have HE : Hid (R = splitOk t.amt t.wt) := by rw [Hid, HA.out, h1, h3, decide_eq_true h2]; simp
  rw [h3] at kt
  clear HA h2 h3
  go_enter Try.func61, Try.ntmps61
  unfold Tpl.cells at *
  go_wp2_with fail
  rw [HW.out]
  refine (within_pl _ _ _ _).mono ?_
  rintro e w1 ⟨rfl, rfl⟩
  go_wp2_with fail
  refine kt.out.mono ?_
  rintro e w2 ⟨rfl, hb2⟩
  have HB2 := Lib.hid (HB.out.trans (hb2.mono HB.out.size))
  have ks := Lib.hid (split_err t.amt t.wt t.Aw t.wt.length t.cw w2.heap.size w2 (HIN.out w2 hb2).wt (Nat.le_refl _) HLW.out)
  clear x0 x1 x2 x3 x4 x5 x6 x7 x8 x9 x10 x11
  obtain ⟨⟨x0, x1, x2, x3, x4, x5⟩, x6, x7, x8, x9, x10, x11⟩ := tpl_cells (HTX.out w2 hb2)
  clear hb2 x0 x1 x2 x3 x4 x5 x7 x8 x9 x11
  go_wp2_with fail
  refine ks.out.mono ?_
  rintro e w3 ⟨⟨A2, n2, c2, rfl⟩, hb3⟩
  have HB3 := Lib.hid (HB2.out.trans (hb3.mono HB2.out.size))
  clear hb3 ks
  cases hs : splitOk t.amt t.wt
  · have HE2 : Hid (R = false) := HE.out.trans hs
    go_wp2_with fail
    go_ret
    exact ⟨ret_bool HE2.out.symm, HB3.out⟩
  · have HE2 : Hid (R = true) := HE.out.trans hs
    go_wp2_with fail
    go_ret
    exact ⟨ret_bool HE2.out.symm, HB3.out⟩

set_option maxRecDepth 100000 in
set_option maxHeartbeats 2000000 in
theorem front_any (t : Tpl) (w : World) : Calls Try.prog 57 #[.agg t.cells.toArray] w fun e w' => e = .returned (.bool (frontT t)) ∧ Below w.heap.size w w' := by
  obtain ⟨W, hW⟩ : ∃ W, w.alloc (.cells t.cells.toArray 24) = W := ⟨_, rfl⟩
  have hb : Below w.heap.size w W := by rw [← hW]; exact (Below.refl _ _).alloc (Nat.le_refl _) _
  have hx : TplAt W w.heap.size t := by rw [← hW]; exact heap_new w _
  have HW := Lib.hid hW; have HB := Lib.hid hb
  have HBA : Hid (∀ o, Below w.heap.size w (W.alloc o)) := fun o => hb.alloc hb.size o
  have HA : Hid (frontT t = (inB t.id 1 999999 && inB t.ent 1 9 && (okP t.frm && okP t.til) && decide (t.frm ≤ t.til) && inB t.ev 1 60 && inB t.amt 1 1000000000000000 && isAcc t.cre)) := rfl
  obtain ⟨⟨x0, x1, x2, x3, x4, x5⟩, x6, x7, x8, x9, x10, x11⟩ := tpl_cells hx
  have HAL : Hid (∀ a v, W.cell? a = some v → ∀ o, (W.alloc o).cell? a = some v) := fun a v hv o => (((Below.refl W.heap.size W).alloc (Nat.le_refl _) o).cell (block_of_cell hv)).trans hv
  have y3 := HAL.out _ _ x3; have y4 := HAL.out _ _ x4; have y5 := HAL.out _ _ x5; have y6 := HAL.out _ _ x6; have y8 := HAL.out _ _ x8
  clear hW hb hx HAL x0 x7 x9 x10 x11
  generalize frontT t = R at *
  have HALT : Hid ((inB t.id 1 999999 = false ∧ R = false) ∨
      (inB t.id 1 999999 = true ∧ inB t.ent 1 9 = false ∧ R = false) ∨
      (inB t.id 1 999999 = true ∧ inB t.ent 1 9 = true ∧ (okP t.frm && okP t.til) = false ∧ R = false) ∨
      (inB t.id 1 999999 = true ∧ inB t.ent 1 9 = true ∧ (okP t.frm && okP t.til) = true ∧ ¬ t.frm ≤ t.til ∧ R = false) ∨
      (inB t.id 1 999999 = true ∧ inB t.ent 1 9 = true ∧ (okP t.frm && okP t.til) = true ∧ t.frm ≤ t.til ∧ inB t.ev 1 60 = false ∧ R = false) ∨
      (inB t.id 1 999999 = true ∧ inB t.ent 1 9 = true ∧ (okP t.frm && okP t.til) = true ∧ t.frm ≤ t.til ∧ inB t.ev 1 60 = true ∧ inB t.amt 1 1000000000000000 = false ∧ R = false) ∨
      (inB t.id 1 999999 = true ∧ inB t.ent 1 9 = true ∧ (okP t.frm && okP t.til) = true ∧ t.frm ≤ t.til ∧ inB t.ev 1 60 = true ∧ inB t.amt 1 1000000000000000 = true ∧ R = isAcc t.cre)) := by
    unfold Hid
    rw [HA.out]
    by_cases h4 : t.frm ≤ t.til
    all_goals
      cases inB t.id 1 999999 <;> cases inB t.ent 1 9 <;> cases (okP t.frm && okP t.til) <;> cases inB t.ev 1 60 <;> cases inB t.amt 1 1000000000000000 <;> simp [h4]
  rcases HALT.out with ⟨h1, hE⟩ | ⟨h1, h2, hE⟩ | ⟨h1, h2, h3, hE⟩ | ⟨h1, h2, h3, h4, hE⟩ | ⟨h1, h2, h3, h4, h5, hE⟩ | ⟨h1, h2, h3, h4, h5, h6, hE⟩ | ⟨h1, h2, h3, h4, h5, h6, hE⟩
  all_goals
    have HE := Lib.hid hE
    clear HA HALT hE
    go_enter Try.func57, Try.ntmps57
    unfold Tpl.cells at *
    go_wp2_with fail
    rw [HW.out]
    refine (within_pl _ _ _ _).mono ?_
    rintro e w1 ⟨rfl, rfl⟩
    go_wp2_with fail
    try
      refine (within_pl _ _ _ _).mono ?_
      rintro e w1 ⟨rfl, rfl⟩
      go_wp2_with fail
    try
      refine (valid_two _ _ _).mono ?_
      rintro e w1 ⟨rfl, rfl⟩
      go_wp2_with fail
    try
      refine (within_pl _ _ _ _).mono ?_
      rintro e w1 ⟨rfl, rfl⟩
      go_wp2_with fail
    try
      refine (within_pl _ _ _ _).mono ?_
      rintro e w1 ⟨rfl, rfl⟩
      go_wp2_with fail
    try
      refine (isAcc_any _ _).mono ?_
      rintro e w1 ⟨rfl, rfl⟩
      go_wp2_with fail
    go_ret
    first
      | exact ⟨ret_bool HE.out.symm, HB.out⟩
      | exact ⟨ret_bool HE.out.symm, HBA.out _⟩
end Go.Proofs.Ythjpknipnmagkaa

