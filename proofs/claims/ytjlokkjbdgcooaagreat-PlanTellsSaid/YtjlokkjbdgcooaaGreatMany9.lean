/-
  Several texts, one behind the other: what each holds stands ahead of it.
-/
import Derived.Test.YtjlokkjbdgcooaaGreatMany8
import Derived.Laws.EntriesVeiled

/-
  Contracts of plan's within, isAccount, targetsMayBe, accrualMayBe, allocationMayBe, frontMayBe.
-/
namespace Go.Proofs.YtjlokkjbdgcooaaGreat
open Mo
open Go.RowKit

set_option maxRecDepth 100000 in
set_option maxHeartbeats 400000 in
theorem within_pl (n a b : Int) (w : World) : Calls Tryz.prog 133 #[.int .i64 n, .int .i64 a, .int .i64 b] w fun e w' => e = .returned (.bool (inB n a b)) ∧ w = w' := by
  have HT : Hid (a ≤ n → n ≤ b → inB n a b = true) := fun h1 h2 => inB_iff.2 ⟨h1, h2⟩
  have HF : Hid (¬ (a ≤ n ∧ n ≤ b) → inB n a b = false) := fun h => by
    cases hb : inB n a b
    · rfl
    · exact absurd (inB_iff.1 hb) h
  by_cases h1 : a ≤ n
  · by_cases h2 : n ≤ b
    · have HE := Lib.hid (HT.out h1 h2)
      clear HT HF
      go_enter Tryz.func133, Tryz.ntmps133
      go_wp2_with fail
      go_ret
      exact ⟨ret_bool HE.out.symm, rfl⟩
    · have HE := Lib.hid (HF.out fun h => h2 h.2)
      clear HT HF
      go_enter Tryz.func133, Tryz.ntmps133
      go_wp2_with fail
      go_ret
      exact ⟨ret_bool HE.out.symm, rfl⟩
  · have HE := Lib.hid (HF.out fun h => h1 h.1)
    clear HT HF
    go_enter Tryz.func133, Tryz.ntmps133
    go_wp2_with fail
    go_ret
    exact ⟨ret_bool HE.out.symm, rfl⟩
set_option maxRecDepth 100000 in
set_option maxHeartbeats 400000 in
theorem isAcc_any (n : Int) (w : World) : Calls Tryz.prog 135 #[.int .i64 n] w fun e w' => e = .returned (.bool (isAcc n)) ∧ w = w' := by
  go_enter Tryz.func135, Tryz.ntmps135
  go_wp2_with fail
  refine (within_pl n 1 9999 w).mono ?_
  rintro e w1 ⟨rfl, rfl⟩
  go_wp2_with fail
  go_ret
  exact ⟨rfl, rfl⟩
set_option maxRecDepth 100000 in
set_option maxHeartbeats 1000000 in
theorem targets_any (t : Tpl) (w : World) (h : TplIn w t) : Calls Tryz.prog 182 #[.agg t.cells.toArray] w fun e w' => e = .returned (.bool (tgOk t.cre 0 t.tg)) ∧ Below w.heap.size w w' := by
  obtain ⟨W, hW⟩ : ∃ W, w.alloc (.cells t.cells.toArray 24) = W := ⟨_, rfl⟩
  have hb : Below w.heap.size w W := by rw [← hW]; exact (Below.refl _ _).alloc (Nat.le_refl _) _
  have hx : TplAt W w.heap.size t := by rw [← hW]; exact heap_new w _
  have hR := h.tg.below hb
  have hlen := h.lt
  obtain ⟨_, _, _, x8, x9, _⟩ := tpl_cells hx
  have HW := Lib.hid hW; have HB := Lib.hid hb; have HR := Lib.hid hR
  unfold maxLen at hlen
  clear hW hb hx hR h
  unfold Tpl.cells at *
  have HN : Hid (∀ k, t.tg.length ≤ k → t.tg.drop k = []) := fun k hk => List.drop_eq_nil_of_le hk
  have HX : Hid (∀ k, k < t.tg.length → ∃ x, t.tg[k]? = some x) := fun k hk => ⟨_, List.getElem?_eq_getElem hk⟩
  generalize t.tg.length = n at *
  go_enter Tryz.func182, Tryz.ntmps182
  go_wp2_with fail
  rw [HW.out]
  go_loopw [3, 5, 9] (fun bv _ iv wr => ∃ (k : Nat) (b : Int), k ≤ n ∧ iv = .int .i64 k ∧ bv = .int .i64 b ∧ Hid (tgOk t.cre 0 t.tg = tgOk t.cre b (t.tg.drop k)) ∧ wr = W) (fun _ _ iv _ => n - (intOf iv).toNat)
  case atStart => exact ⟨0, 0, Nat.zero_le _, rfl, rfl, rfl, rfl⟩
  case round =>
    obtain ⟨k, b, hk, rfl, rfl, hE, rfl⟩ := hrel
    by_cases hlt : k < n
    · have hkn : (k : Int) < (n : Int) := by omega
      obtain ⟨ad, hA, hab, hc⟩ := HR.out.int hlt
      obtain ⟨x, hx⟩ := HX.out k hlt
      rw [hx] at hc
      have hE2 := hE.out
      rw [tgOk_step hx] at hE2
      have HE := Lib.hid hE2
      have ki := Lib.hid (isAcc_any x wr)
      simp only [Option.getD_some] at hc
      clear hE hE2 hx hab
      rw [hA] at x9 ⊢
      generalize isAcc x = I at *
      cases I
      · have HE3 : Hid (tgOk t.cre 0 t.tg = false) := HE.out.trans (by simp)
        go_wp2_with fail
        refine ki.out.mono ?_
        rintro e w1 ⟨rfl, rfl⟩
        go_wp2_with fail
        go_ret
        exact ⟨ret_bool HE3.out.symm, HB.out⟩
      · by_cases hb : b < x
        · have hbI : ¬ x ≤ b := by omega
          by_cases hq : x = t.cre
          · have hqB : (x == t.cre) = true := by simpa using hq
            have HE3 : Hid (tgOk t.cre 0 t.tg = false) := HE.out.trans (by simp [hqB])
            clear hq
            go_wp2_with fail
            refine ki.out.mono ?_
            rintro e w1 ⟨rfl, rfl⟩
            go_wp2_with fail
            go_ret
            exact ⟨ret_bool HE3.out.symm, HB.out⟩
          · have hqB : (x == t.cre) = false := by simpa using hq
            have HE3 : Hid (tgOk t.cre 0 t.tg = tgOk t.cre x (t.tg.drop (k + 1))) := HE.out.trans (by simp [hqB, hb])
            clear hq
            go_wp2_with fail
            refine ki.out.mono ?_
            rintro e w1 ⟨rfl, rfl⟩
            go_wp2_with fail
            exact ⟨⟨k + 1, x, by omega, by go_num, rfl, HE3.out, by first | rfl | trivial⟩, by simp [intOf]; omega⟩
        · have hbI : x ≤ b := by omega
          have HE3 : Hid (tgOk t.cre 0 t.tg = false) := HE.out.trans (by simp [hb])
          go_wp2_with fail
          refine ki.out.mono ?_
          rintro e w1 ⟨rfl, rfl⟩
          go_wp2_with fail
          go_ret
          exact ⟨ret_bool HE3.out.symm, HB.out⟩
    · obtain rfl : k = n := by omega
      rw [HN.out _ (Nat.le_refl _)] at hE
      have HE : Hid (tgOk t.cre 0 t.tg = true) := hE.out
      go_wp2_with fail
      go_ret
      exact ⟨ret_bool HE.out.symm, HB.out⟩
set_option maxRecDepth 100000 in
set_option maxHeartbeats 1000000 in
theorem accr_any (t : Tpl) (w : World) : Calls Tryz.prog 129 #[.agg t.cells.toArray] w fun e w' => e = .returned (.bool (accrT t)) ∧ Below w.heap.size w w' := by
  obtain ⟨W, hW⟩ : ∃ W, w.alloc (.cells t.cells.toArray 24) = W := ⟨_, rfl⟩
  have hb : Below w.heap.size w W := by rw [← hW]; exact (Below.refl _ _).alloc (Nat.le_refl _) _
  have hx : TplAt W w.heap.size t := by rw [← hW]; exact heap_new w _
  obtain ⟨_, _, x7, x8, x9, x10, _⟩ := tpl_cells hx
  have HW := Lib.hid hW; have HB := Lib.hid hb
  have HT : Hid (isAcc t.deb = true → t.deb ≠ t.cre → t.tg.length = 0 → t.wt.length = 0 → accrT t = true) := fun h1 h2 h3 h4 => by
    unfold accrT
    rw [h1, h3, h4]
    simpa using h2
  have HF : Hid (isAcc t.deb = false ∨ t.deb = t.cre ∨ ¬ t.tg.length = 0 ∨ ¬ t.wt.length = 0 → accrT t = false) := fun h => by
    unfold accrT
    rcases h with h | h | h | h
    · rw [h]; rfl
    · simp [h]
    · rw [decide_eq_false h]; simp
    · rw [decide_eq_false h]; simp
  have ki := Lib.hid (isAcc_any t.deb W)
  clear hW hb hx
  unfold Tpl.cells at *
  generalize accrT t = R at *
  generalize isAcc t.deb = I at *
  generalize t.tg.length = n at *
  generalize t.wt.length = m at *
  cases I
  · have HE := Lib.hid (HF.out (.inl rfl))
    clear HT HF
    go_enter Tryz.func129, Tryz.ntmps129
    go_wp2_with fail
    rw [HW.out]
    refine ki.out.mono ?_
    rintro e w1 ⟨rfl, rfl⟩
    go_wp2_with fail
    go_ret
    exact ⟨ret_bool HE.out.symm, HB.out⟩
  by_cases h1 : t.deb = t.cre
  · have h1B : (t.deb != t.cre) = false := by simpa using h1
    have HE := Lib.hid (HF.out (.inr (.inl h1)))
    clear HT HF h1
    go_enter Tryz.func129, Tryz.ntmps129
    go_wp2_with fail
    rw [HW.out]
    refine ki.out.mono ?_
    rintro e w1 ⟨rfl, rfl⟩
    go_wp2_with fail
    go_ret
    exact ⟨ret_bool HE.out.symm, HB.out⟩
  have h1B : (t.deb != t.cre) = true := by simpa using h1
  by_cases h2 : n = 0
  · by_cases h3 : m = 0
    all_goals
      first
        | have HE := Lib.hid (HT.out rfl h1 h2 h3)
        | have HE := Lib.hid (HF.out (.inr (.inr (.inr h3))))
      have h2B : ((n : Int) == 0) = true := by simpa using h2
      try have h3B : ((m : Int) == 0) = true := by simpa using h3
      try have h3B : ((m : Int) == 0) = false := by rw [beq_eq_false_iff_ne]; omega
      clear HT HF h1 h2 h3
      go_enter Tryz.func129, Tryz.ntmps129
      go_wp2_with fail
      rw [HW.out]
      refine ki.out.mono ?_
      rintro e w1 ⟨rfl, rfl⟩
      go_wp2_with fail
      go_ret
      exact ⟨ret_bool HE.out.symm, HB.out⟩
  · have HE := Lib.hid (HF.out (.inr (.inr (.inl h2))))
    have h2B : ((n : Int) == 0) = false := by rw [beq_eq_false_iff_ne]; omega
    clear HT HF h1 h2
    go_enter Tryz.func129, Tryz.ntmps129
    go_wp2_with fail
    rw [HW.out]
    refine ki.out.mono ?_
    rintro e w1 ⟨rfl, rfl⟩
    go_wp2_with fail
    go_ret
    exact ⟨ret_bool HE.out.symm, HB.out⟩
end Go.Proofs.YtjlokkjbdgcooaaGreat

/-
  Contracts of plan's allocationMayBe, frontMayBe, kindOf, Check.
-/
namespace Go.Proofs.YtjlokkjbdgcooaaGreat
open Mo
open Go.RowKit

/-- Split's error. -/
theorem split_err (a : Int) (l : List Int) (A : Option Addr) (n c B : Nat) (w : World) (h : Rd w B 1 A n (ints .i64 l)) (hB : B ≤ w.heap.size) (hn : n ≤ maxLen) :
    Calls Tryz.prog 183 #[.int .i64 a, .slice A n c] w fun e w' => (∃ A2 n2 c2, e = .returned (.tuple #[.slice A2 n2 c2, .int .i64 (if splitOk a l = true then 0 else 1)])) ∧ Below w.heap.size w w' := by
  cases hs : splitOk a l
  · exact (split_bad a l A n c B w h hn hs).mono fun e w' hh => ⟨⟨none, 0, 0, hh.1⟩, hh.2⟩
  · have hs2 := hs
    unfold splitOk at hs2
    simp only [Bool.and_eq_true, decide_eq_true_eq] at hs2
    obtain ⟨⟨⟨h1, h2⟩, h3⟩, h4⟩ := hs2
    have hl := h.ints_len
    refine (split_ok a l A n c B w h hB h1 h3 (by omega) h4).mono fun e w' hh => ?_
    obtain ⟨p, S, he, _, _, _, hb⟩ := hh
    exact ⟨⟨_, _, _, he⟩, hb⟩

set_option maxRecDepth 100000 in
set_option maxHeartbeats 1000000 in
theorem allocB_any (t : Tpl) (w : World) (h : TplIn w t) : Calls Tryz.prog 131 #[.agg t.cells.toArray] w fun e w' => e = .returned (.bool (allocT t)) ∧ Below w.heap.size w w' := by
  obtain ⟨W, hW⟩ : ∃ W, w.alloc (.cells t.cells.toArray 24) = W := ⟨_, rfl⟩
  have hb : Below w.heap.size w W := by rw [← hW]; exact (Below.refl _ _).alloc (Nat.le_refl _) _
  have hx : TplAt W w.heap.size t := by rw [← hW]; exact heap_new w _
  have hin := h.below hb
  have HW := Lib.hid hW; have HB := Lib.hid hb
  have HTX : Hid (∀ w1, Below W.heap.size W w1 → TplAt w1 w.heap.size t) := fun w1 hb1 => hx.below hb1
  have HIN : Hid (∀ w1, Below W.heap.size W w1 → TplIn w1 t) := fun w1 hb1 => hin.below hb1
  have kt := Lib.hid (targets_any t W hin)
  have HA : Hid (allocT t = (inB t.tg.length 1 7 && decide (t.wt.length = t.tg.length) && tgOk t.cre 0 t.tg && splitOk t.amt t.wt)) := rfl
  have hlw := h.lw
  have HLW := Lib.hid hlw
  obtain ⟨⟨x0, x1, x2, x3, x4, x5⟩, x6, x7, x8, x9, x10, x11⟩ := tpl_cells hx
  clear hW hb hx hin h hlw
  generalize allocT t = R at *
  cases h1 : inB t.tg.length 1 7
  · have HE : Hid (R = false) := by rw [Hid, HA.out, h1]; rfl
    clear HA
    go_enter Tryz.func131, Tryz.ntmps131
    unfold Tpl.cells at *
    go_wp2_with fail
    rw [HW.out]
    refine (within_pl _ _ _ _).mono ?_
    rintro e w1 ⟨rfl, rfl⟩
    go_wp2_with fail
    go_ret
    exact ⟨ret_bool HE.out.symm, HB.out⟩
  by_cases h2 : t.wt.length = t.tg.length
  rotate_left
  · have h2B : ((t.wt.length : Int) != (t.tg.length : Int)) = true := by rw [bne_iff_ne]; omega
    have HE : Hid (R = false) := by rw [Hid, HA.out, decide_eq_false h2]; simp
    clear HA h2
    go_enter Tryz.func131, Tryz.ntmps131
    unfold Tpl.cells at *
    go_wp2_with fail
    rw [HW.out]
    refine (within_pl _ _ _ _).mono ?_
    rintro e w1 ⟨rfl, rfl⟩
    go_wp2_with fail
    go_ret
    exact ⟨ret_bool HE.out.symm, HB.out⟩
  have h2B : ((t.wt.length : Int) != (t.tg.length : Int)) = false := by rw [h2]; simp
  cases h3 : tgOk t.cre 0 t.tg
  · have HE : Hid (R = false) := by rw [Hid, HA.out, h3]; simp
    rw [h3] at kt
    clear HA h2 h3
    go_enter Tryz.func131, Tryz.ntmps131
    unfold Tpl.cells at *
    go_wp2_with fail
    rw [HW.out]
    refine (within_pl _ _ _ _).mono ?_
    rintro e w1 ⟨rfl, rfl⟩
    go_wp2_with fail
    refine kt.out.mono ?_
    rintro e w2 ⟨rfl, hb2⟩
    have HB2 := Lib.hid (HB.out.trans (hb2.mono HB.out.size))
    clear hb2
    go_wp2_with fail
    go_ret
    exact ⟨ret_bool HE.out.symm, HB2.out⟩
  have HE : Hid (R = splitOk t.amt t.wt) := by rw [Hid, HA.out, h1, h3, decide_eq_true h2]; simp
  rw [h3] at kt
  clear HA h2 h3
  go_enter Tryz.func131, Tryz.ntmps131
  unfold Tpl.cells at *
  go_wp2_with fail
  rw [HW.out]
  refine (within_pl _ _ _ _).mono ?_
  rintro e w1 ⟨rfl, rfl⟩
  go_wp2_with fail
  refine kt.out.mono ?_
  rintro e w2 ⟨rfl, hb2⟩
  have HB2 := Lib.hid (HB.out.trans (hb2.mono HB.out.size))
  have ks := Lib.hid (split_err t.amt t.wt t.Aw t.wt.length t.cw w2.heap.size w2 (HIN.out w2 hb2).wt (Nat.le_refl _) HLW.out)
  clear x0 x1 x2 x3 x4 x5 x6 x7 x8 x9 x10 x11
  obtain ⟨⟨x0, x1, x2, x3, x4, x5⟩, x6, x7, x8, x9, x10, x11⟩ := tpl_cells (HTX.out w2 hb2)
  clear hb2 x0 x1 x2 x3 x4 x5 x7 x8 x9 x11
  go_wp2_with fail
  refine ks.out.mono ?_
  rintro e w3 ⟨⟨A2, n2, c2, rfl⟩, hb3⟩
  have HB3 := Lib.hid (HB2.out.trans (hb3.mono HB2.out.size))
  clear hb3 ks
  cases hs : splitOk t.amt t.wt
  · have HE2 : Hid (R = false) := HE.out.trans hs
    go_wp2_with fail
    go_ret
    exact ⟨ret_bool HE2.out.symm, HB3.out⟩
  · have HE2 : Hid (R = true) := HE.out.trans hs
    go_wp2_with fail
    go_ret
    exact ⟨ret_bool HE2.out.symm, HB3.out⟩

set_option maxRecDepth 100000 in
set_option maxHeartbeats 2000000 in
theorem front_any (t : Tpl) (w : World) : Calls Tryz.prog 54 #[.agg t.cells.toArray] w fun e w' => e = .returned (.bool (frontT t)) ∧ Below w.heap.size w w' := by
  obtain ⟨W, hW⟩ : ∃ W, w.alloc (.cells t.cells.toArray 24) = W := ⟨_, rfl⟩
  have hb : Below w.heap.size w W := by rw [← hW]; exact (Below.refl _ _).alloc (Nat.le_refl _) _
  have hx : TplAt W w.heap.size t := by rw [← hW]; exact heap_new w _
  have HW := Lib.hid hW; have HB := Lib.hid hb
  have HBA : Hid (∀ o, Below w.heap.size w (W.alloc o)) := fun o => hb.alloc hb.size o
  have HA : Hid (frontT t = (inB t.id 1 999999 && inB t.ent 1 9 && (okP t.frm && okP t.til) && decide (t.frm ≤ t.til) && inB t.ev 1 60 && inB t.amt 1 1000000000000000 && isAcc t.cre)) := rfl
  obtain ⟨⟨x0, x1, x2, x3, x4, x5⟩, x6, x7, x8, x9, x10, x11⟩ := tpl_cells hx
  have HAL : Hid (∀ a v, W.cell? a = some v → ∀ o, (W.alloc o).cell? a = some v) := fun a v hv o => (((Below.refl W.heap.size W).alloc (Nat.le_refl _) o).cell (block_of_cell hv)).trans hv
  have y3 := HAL.out _ _ x3; have y4 := HAL.out _ _ x4; have y5 := HAL.out _ _ x5; have y6 := HAL.out _ _ x6; have y8 := HAL.out _ _ x8
  clear hW hb hx HAL x0 x7 x9 x10 x11
  generalize frontT t = R at *
  have HALT : Hid ((inB t.id 1 999999 = false ∧ R = false) ∨
      (inB t.id 1 999999 = true ∧ inB t.ent 1 9 = false ∧ R = false) ∨
      (inB t.id 1 999999 = true ∧ inB t.ent 1 9 = true ∧ (okP t.frm && okP t.til) = false ∧ R = false) ∨
      (inB t.id 1 999999 = true ∧ inB t.ent 1 9 = true ∧ (okP t.frm && okP t.til) = true ∧ ¬ t.frm ≤ t.til ∧ R = false) ∨
      (inB t.id 1 999999 = true ∧ inB t.ent 1 9 = true ∧ (okP t.frm && okP t.til) = true ∧ t.frm ≤ t.til ∧ inB t.ev 1 60 = false ∧ R = false) ∨
      (inB t.id 1 999999 = true ∧ inB t.ent 1 9 = true ∧ (okP t.frm && okP t.til) = true ∧ t.frm ≤ t.til ∧ inB t.ev 1 60 = true ∧ inB t.amt 1 1000000000000000 = false ∧ R = false) ∨
      (inB t.id 1 999999 = true ∧ inB t.ent 1 9 = true ∧ (okP t.frm && okP t.til) = true ∧ t.frm ≤ t.til ∧ inB t.ev 1 60 = true ∧ inB t.amt 1 1000000000000000 = true ∧ R = isAcc t.cre)) := by
    unfold Hid
    rw [HA.out]
    by_cases h4 : t.frm ≤ t.til
    all_goals
      cases inB t.id 1 999999 <;> cases inB t.ent 1 9 <;> cases (okP t.frm && okP t.til) <;> cases inB t.ev 1 60 <;> cases inB t.amt 1 1000000000000000 <;> simp [h4]
  rcases HALT.out with ⟨h1, hE⟩ | ⟨h1, h2, hE⟩ | ⟨h1, h2, h3, hE⟩ | ⟨h1, h2, h3, h4, hE⟩ | ⟨h1, h2, h3, h4, h5, hE⟩ | ⟨h1, h2, h3, h4, h5, h6, hE⟩ | ⟨h1, h2, h3, h4, h5, h6, hE⟩
  all_goals
    have HE := Lib.hid hE
    clear HA HALT hE
    go_enter Tryz.func54, Tryz.ntmps54
    unfold Tpl.cells at *
    go_wp2_with fail
    rw [HW.out]
    refine (within_pl _ _ _ _).mono ?_
    rintro e w1 ⟨rfl, rfl⟩
    go_wp2_with fail
    try
      refine (within_pl _ _ _ _).mono ?_
      rintro e w1 ⟨rfl, rfl⟩
      go_wp2_with fail
    try
      refine (valid_two _ _ _).mono ?_
      rintro e w1 ⟨rfl, rfl⟩
      go_wp2_with fail
    try
      refine (within_pl _ _ _ _).mono ?_
      rintro e w1 ⟨rfl, rfl⟩
      go_wp2_with fail
    try
      refine (within_pl _ _ _ _).mono ?_
      rintro e w1 ⟨rfl, rfl⟩
      go_wp2_with fail
    try
      refine (isAcc_any _ _).mono ?_
      rintro e w1 ⟨rfl, rfl⟩
      go_wp2_with fail
    go_ret
    first
      | exact ⟨ret_bool HE.out.symm, HB.out⟩
      | exact ⟨ret_bool HE.out.symm, HBA.out _⟩
end Go.Proofs.YtjlokkjbdgcooaaGreat

/-
  Contracts of plan's kindOf, Check.
-/
namespace Go.Proofs.YtjlokkjbdgcooaaGreat
open Mo
open Go.RowKit

/-- A kind: what it asks of a template, and its journals. -/
def kindV (n : Int) : Value :=
  if n = 1 then .agg #[.func (.func 129) #[] #[], .func (.func 130) #[] #[]]
  else if n = 2 then .agg #[.func (.func 131) #[] #[], .func (.func 132) #[] #[]]
  else .agg #[.nilFunc, .nilFunc]
set_option maxRecDepth 100000 in
set_option maxHeartbeats 1000000 in
theorem kindOf_any (n : Int) (w : World) : Calls Tryz.prog 53 #[.int .i64 n] w fun e w' => e = .returned (.tuple #[kindV n, .bool (decide (n = 1) || decide (n = 2))]) ∧ Below w.heap.size w w' := by
  have HB : Hid (∀ f g : Value, Below w.heap.size w (w.alloc (.cells #[f, g] 117))) := fun f g => (Below.refl _ _).alloc (Nat.le_refl _) _
  by_cases h1 : n = 1
  · subst h1
    show Calls _ _ _ _ fun e w' => e = .returned (.tuple #[.agg #[.func (.func 129) #[] #[], .func (.func 130) #[] #[]], .bool true]) ∧ _
    go_enter Tryz.func53, Tryz.ntmps53
    go_wp2_with fail
    refine bodyPost_ret (v := .tuple #[.agg #[.func (.func 129) #[] #[], .func (.func 130) #[] #[]], .bool true]) (by simp [results, Tryz.results53, go_sem]) rfl ⟨rfl, HB.out _ _⟩
  by_cases h2 : n = 2
  · subst h2
    show Calls _ _ _ _ fun e w' => e = .returned (.tuple #[.agg #[.func (.func 131) #[] #[], .func (.func 132) #[] #[]], .bool true]) ∧ _
    go_enter Tryz.func53, Tryz.ntmps53
    go_wp2_with fail
    refine bodyPost_ret (v := .tuple #[.agg #[.func (.func 131) #[] #[], .func (.func 132) #[] #[]], .bool true]) (by simp [results, Tryz.results53, go_sem]) rfl ⟨rfl, HB.out _ _⟩
  have e1 : (n == 1) = false := by simpa using h1
  have e2 : (n == 2) = false := by simpa using h2
  have hk : kindV n = .agg #[.nilFunc, .nilFunc] := by unfold kindV; rw [if_neg h1, if_neg h2]
  rw [hk, decide_eq_false h1, decide_eq_false h2]
  clear h1 h2 hk
  go_enter Tryz.func53, Tryz.ntmps53
  go_wp2_with fail
  refine bodyPost_ret (v := .tuple #[.agg #[.nilFunc, .nilFunc], .bool false]) (by simp [results, Tryz.results53, go_sem]) rfl ⟨rfl, HB.out _ _⟩

set_option maxRecDepth 100000 in
set_option maxHeartbeats 2000000 in
theorem checkT_any (t : Tpl) (w : World) (h : TplIn w t) : Calls Tryz.prog 13 #[.agg t.cells.toArray] w fun e w' => e = .returned (.int .i64 (chkTE t)) ∧ Below w.heap.size w w' := by
  obtain ⟨W, hW⟩ : ∃ W, w.alloc (.cells t.cells.toArray 24) = W := ⟨_, rfl⟩
  have hb : Below w.heap.size w W := by rw [← hW]; exact (Below.refl _ _).alloc (Nat.le_refl _) _
  have hx : TplAt W w.heap.size t := by rw [← hW]; exact heap_new w _
  have hin := h.below hb
  have HW := Lib.hid hW; have HB := Lib.hid hb
  have HTX : Hid (∀ w1, Below W.heap.size W w1 → TplAt w1 w.heap.size t) := fun w1 hb1 => hx.below hb1
  have HIN : Hid (∀ w1, Below W.heap.size W w1 → TplIn w1 t) := fun w1 hb1 => hin.below hb1
  have HFIN : Hid (∀ w1, Below W.heap.size W w1 → Below w.heap.size w w1) := fun w1 hb1 => hb.trans (hb1.mono hb.size)
  have kk := Lib.hid (kindOf_any t.kind W)
  have KF : Hid (∀ w1, Calls Tryz.prog 54 #[.agg t.cells.toArray] w1 fun e w' => e = .returned (.bool (frontT t)) ∧ Below w1.heap.size w1 w') := fun w1 => front_any t w1
  have K1 : Hid (∀ w1, Calls Tryz.prog 129 #[.agg t.cells.toArray] w1 fun e w' => e = .returned (.bool (accrT t)) ∧ Below w1.heap.size w1 w') := fun w1 => accr_any t w1
  have K2 : Hid (∀ w1, Below W.heap.size W w1 → Calls Tryz.prog 131 #[.agg t.cells.toArray] w1 fun e w' => e = .returned (.bool (allocT t)) ∧ Below w1.heap.size w1 w') := fun w1 hb1 => allocB_any t w1 (HIN.out w1 hb1)
  have HE : Hid (chkTE t = if (frontT t && ((decide (t.kind = 1) && accrT t) || (decide (t.kind = 2) && allocT t))) = true then 0 else 1) := rfl
  obtain ⟨⟨x0, _, _, _, _, _⟩, _⟩ := tpl_cells hx
  clear hW hb hx hin h HIN
  generalize chkTE t = R at *
  generalize frontT t = F at *
  generalize accrT t = A at *
  generalize allocT t = L at *
  have HALT : Hid ((t.kind = 1 ∧ F = true ∧ R = if A = true then 0 else 1) ∨ (t.kind = 2 ∧ F = true ∧ R = if L = true then 0 else 1) ∨ (t.kind = 1 ∧ F = false ∧ R = 1) ∨ (t.kind = 2 ∧ F = false ∧ R = 1) ∨ (t.kind ≠ 1 ∧ t.kind ≠ 2 ∧ R = 1)) := by
    unfold Hid
    rw [HE.out]
    by_cases h1 : t.kind = 1
    · cases F <;> simp [h1]
    · by_cases h2 : t.kind = 2
      · cases F <;> simp [h2]
      · simp [h1, h2]
  have HT2 := Lib.hid (fun w1 hb1 => tpl_cells (HTX.out w1 hb1))
  clear HE HTX
  unfold Tpl.cells at *
  generalize t.kind = kd at *
  rcases HALT.out with ⟨rfl, rfl, hR⟩ | ⟨rfl, rfl, hR⟩ | ⟨rfl, rfl, hR⟩ | ⟨rfl, rfl, hR⟩ | ⟨h1, h2, hR⟩
  all_goals
    try have hdec : (decide (kd = 1) || decide (kd = 2)) = false := by simp [h1, h2]
    try have hkv : kindV kd = .agg #[.nilFunc, .nilFunc] := by unfold kindV; rw [if_neg h1, if_neg h2]
    try rw [hdec, hkv] at kk
    try change Hid (Calls _ _ _ _ fun e w' => e = .returned (.tuple #[.agg #[.func (.func 129) #[] #[], .func (.func 130) #[] #[]], .bool true]) ∧ _) at kk
    try change Hid (Calls _ _ _ _ fun e w' => e = .returned (.tuple #[.agg #[.func (.func 131) #[] #[], .func (.func 132) #[] #[]], .bool true]) ∧ _) at kk
    have HR := Lib.hid hR
    try clear hdec
    try clear hkv
    try clear h1 h2
    clear hR HALT
    go_enter Tryz.func13, Tryz.ntmps13
    go_wp2_with fail
    rw [HW.out]
    refine kk.out.mono ?_
    rintro e w1 ⟨rfl, hb1⟩
    obtain ⟨⟨x0, x1, x2, x3, x4, x5⟩, x6, x7, x8, x9, x10, x11⟩ := HT2.out w1 hb1
    have HB1 := Lib.hid hb1
    have HBA : Hid (∀ o, Below W.heap.size W (w1.alloc o)) := fun o => hb1.alloc hb1.size o
    have hal : ∀ a v, w1.cell? a = some v → ∀ o, (w1.alloc o).cell? a = some v := fun a v hv o => (((Below.refl w1.heap.size w1).alloc (Nat.le_refl _) o).cell (block_of_cell hv)).trans hv
    replace x0 := hal _ _ x0; replace x1 := hal _ _ x1; replace x2 := hal _ _ x2; replace x3 := hal _ _ x3; replace x4 := hal _ _ x4; replace x5 := hal _ _ x5
    replace x6 := hal _ _ x6; replace x7 := hal _ _ x7; replace x8 := hal _ _ x8; replace x9 := hal _ _ x9; replace x10 := hal _ _ x10; replace x11 := hal _ _ x11
    clear hb1 hal
    go_wp2_with fail
  · generalize hW2 : World.alloc w1 _ = W2 at *
    have hk : W2.heap[w1.heap.size]? = some (.cells #[.func (.func 129) #[] #[], .func (.func 130) #[] #[]] 117 (0, 0)) := by rw [← hW2]; exact heap_new w1 _
    have hb2 : Below W.heap.size W W2 := by rw [← hW2]; exact HBA.out _
    have HB2 := Lib.hid hb2; have HK := Lib.hid hk
    clear hW2 hk hb2 x0 x1 x2 x3 x4 x5 x6 x7 x8 x9 x10 x11
    refine (KF.out _).mono ?_
    rintro e w3 ⟨rfl, hb3⟩
    have hb23 : Below W.heap.size W w3 := HB2.out.trans (hb3.mono HB2.out.size)
    obtain ⟨⟨x0, x1, x2, x3, x4, x5⟩, x6, x7, x8, x9, x10, x11⟩ := HT2.out w3 hb23
    have c0 := cell_of ((hb3.block _ (lt_of_blk HK.out)).trans HK.out) 0
    simp only [List.getElem?_toArray, List.getElem?_cons_zero] at c0
    have HB3 := Lib.hid hb23
    clear hb3 hb23
    go_wp2_with fail
    refine (K1.out w3).mono ?_
    rintro e w4 ⟨rfl, hb4⟩
    have HB4 := Lib.hid (HFIN.out _ (HB3.out.trans (hb4.mono HB3.out.size)))
    clear hb4 x0 x1 x2 x3 x4 x5 x6 x7 x8 x9 x10 x11 c0
    cases A
    all_goals
      go_wp2_with fail
      go_ret
      exact ⟨ret_int HR.out.symm, HB4.out⟩
  · generalize hW2 : World.alloc w1 _ = W2 at *
    have hk : W2.heap[w1.heap.size]? = some (.cells #[.func (.func 131) #[] #[], .func (.func 132) #[] #[]] 117 (0, 0)) := by rw [← hW2]; exact heap_new w1 _
    have hb2 : Below W.heap.size W W2 := by rw [← hW2]; exact HBA.out _
    have HB2 := Lib.hid hb2; have HK := Lib.hid hk
    clear hW2 hk hb2 x0 x1 x2 x3 x4 x5 x6 x7 x8 x9 x10 x11
    refine (KF.out _).mono ?_
    rintro e w3 ⟨rfl, hb3⟩
    have hb23 : Below W.heap.size W w3 := HB2.out.trans (hb3.mono HB2.out.size)
    obtain ⟨⟨x0, x1, x2, x3, x4, x5⟩, x6, x7, x8, x9, x10, x11⟩ := HT2.out w3 hb23
    have c0 := cell_of ((hb3.block _ (lt_of_blk HK.out)).trans HK.out) 0
    simp only [List.getElem?_toArray, List.getElem?_cons_zero] at c0
    have HB3 := Lib.hid hb23
    clear hb3 hb23
    go_wp2_with fail
    refine (K2.out w3 HB3.out).mono ?_
    rintro e w4 ⟨rfl, hb4⟩
    have HB4 := Lib.hid (HFIN.out _ (HB3.out.trans (hb4.mono HB3.out.size)))
    clear hb4 x0 x1 x2 x3 x4 x5 x6 x7 x8 x9 x10 x11 c0
    cases L
    all_goals
      go_wp2_with fail
      go_ret
      exact ⟨ret_int HR.out.symm, HB4.out⟩
  · generalize hW2 : World.alloc w1 _ = W2 at *
    have hb2 : Below W.heap.size W W2 := by rw [← hW2]; exact HBA.out _
    have HB2 := Lib.hid hb2
    clear hW2 hb2 x0 x1 x2 x3 x4 x5 x6 x7 x8 x9 x10 x11
    refine (KF.out _).mono ?_
    rintro e w3 ⟨rfl, hb3⟩
    have HB3 := Lib.hid (HFIN.out _ (HB2.out.trans (hb3.mono HB2.out.size)))
    clear hb3
    go_wp2_with fail
    go_ret
    exact ⟨ret_int HR.out.symm, HB3.out⟩
  · generalize hW2 : World.alloc w1 _ = W2 at *
    have hb2 : Below W.heap.size W W2 := by rw [← hW2]; exact HBA.out _
    have HB2 := Lib.hid hb2
    clear hW2 hb2 x0 x1 x2 x3 x4 x5 x6 x7 x8 x9 x10 x11
    refine (KF.out _).mono ?_
    rintro e w3 ⟨rfl, hb3⟩
    have HB3 := Lib.hid (HFIN.out _ (HB2.out.trans (hb3.mono HB2.out.size)))
    clear hb3
    go_wp2_with fail
    go_ret
    exact ⟨ret_int HR.out.symm, HB3.out⟩
  · go_ret
    exact ⟨ret_int HR.out.symm, HFIN.out _ (HBA.out _)⟩
end Go.Proofs.YtjlokkjbdgcooaaGreat
