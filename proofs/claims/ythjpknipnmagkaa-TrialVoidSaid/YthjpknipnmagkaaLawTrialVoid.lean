/-
  The statement TrialVoid.
-/
-- HOLE2: obtain ⟨fuel0, hf0⟩ := h0
-- obtain ⟨l0, q0, n0, m0, _⟩ := argJrns hf0
-- exact trialVoid_walk l0 a0 len0 cap0 ⟨a1, a2, a3⟩ W q0 n0
import Derived.Test.YthjpknipnmagkaaMany14
import Derived.Test.YthjpknipnmagkaaTrialEnds
import Derived.Test.YthjpknipnmagkaaMany15
import Derived.Test.YthjpknipnmagkaaMany16
import Derived.BigQuiet
namespace Go.Proofs.Ythjpknipnmagkaa
open Mo
open Go.RowKit Go.Sort

theorem covO_step {o : OfT} {X : List JR} {k : Nat} {a : JR} (h : X[k]? = some a) : (X.take (k + 1)).filter (fun a => covO o a.j) = (X.take k).filter (fun a => covO o a.j) ++ if covO o a.j = true then [a] else [] := by
  obtain ⟨hk, rfl⟩ := List.getElem?_eq_some_iff.1 h
  rw [List.take_succ_eq_append_getElem hk, List.filter_append]
  simp [List.filter_cons]
theorem covO_parts {o : OfT} {j : Jrn} : covO o j = (((!j.void && (j.ent == o.ent)) && decide (o.frm ≤ j.per)) && decide (j.per ≤ o.til)) := by
  unfold covO
  rw [show decide (j.ent = o.ent) = (j.ent == o.ent) by rw [Bool.eq_iff_iff]; simp]
theorem map_filterJ (o : OfT) : ∀ X : List JR, (X.filter fun a => covO o a.j).map JR.j = (X.map JR.j).filter (covO o)
  | [] => rfl
  | a :: r => by
    have ih := map_filterJ o r
    rw [List.filter_cons, List.map_cons, List.filter_cons]
    cases covO o a.j
    · simpa using ih
    · simp only [if_true, List.map_cons, ih]
theorem tomeIn_len {M : List Jrn} {l : List JR} (h2 : l.map JR.j = M) (hl : M.length ≤ 40) : l.length ≤ 100 := by
  rw [← h2, List.length_map] at hl
  omega
set_option maxRecDepth 100000 in
set_option maxHeartbeats 8000000 in
theorem trialVoid_walk (l : List JR) (A : Option Addr) (n c : Nat) (o : OfT) (w : World) (h : JlRd w w.heap.size A n l) (hn : n ≤ maxLen) :
    Calls Try.prog 6 #[.slice A n c, .int .i64 o.ent, .int .i64 o.frm, .int .i64 o.til] w fun e w' => e = .returned (.bool true) ∧ Below w.heap.size w w' := by
  have kf := Lib.hid (fewM_any 40 (by omega) l A n c _ w h.rd (Nat.le_refl _) hn h.size)
  have KA : Hid (∀ w1, Calls Try.prog 16 #[] w1 fun e w' => e = .returned (.bool true) ∧ Below w1.heap.size w1 w') := alive10_any
  have KFIT : Hid (∀ w1, Below w.heap.size w w1 → Calls Try.prog 23 #[.slice A n c, .int .i64 40] w1 fun e w' => ∃ A' c' X, e = .returned (.slice A' (List.length X) c') ∧ JlRd w' w'.heap.size A' (List.length X) X ∧ GoodM (X.map JR.j) ∧ List.length X ≤ 40 ∧ List.length X ≤ n ∧ Below w1.heap.size w1 w') := fun w1 hb =>
    fitN_any 40 (by omega) l A n c w.heap.size w1 (h.far hb (Nat.le_refl _)) hb.size hn
  clear h hn
  go_enter Try.func6, Try.ntmps6
  go_wp2_with fail
  refine kf.out.mono ?_
  rintro e w1 ⟨z, rfl, _, hb1⟩
  have HB1 := Lib.hid hb1
  clear hb1 kf
  cases z
  · go_wp2_with fail
    refine (KA.out _).mono ?_
    rintro e w2 ⟨rfl, hb2⟩
    have HB2 := Lib.hid (HB1.out.trans (hb2.mono HB1.out.size))
    clear hb2
    go_wp2_with fail
    go_ret
    exact ⟨rfl, HB2.out⟩
  go_wp2_with fail
  refine (KA.out _).mono ?_
  rintro e w2 ⟨rfl, hb2⟩
  have HB2 := Lib.hid (HB1.out.trans (hb2.mono HB1.out.size))
  clear hb2 KA
  have KF2 := Lib.hid (KFIT.out w2 HB2.out)
  clear KFIT
  go_wp2_with fail
  refine KF2.out.mono ?_
  rintro e w3 ⟨A3, c3, X, rfl, hJ, hG, hX40, _, hb3⟩
  have HB3 := Lib.hid (HB2.out.trans (hb3.mono HB2.out.size))
  have HJ := Lib.hid hJ
  have HG := Lib.hid hG
  obtain ⟨m, hm⟩ : ∃ m, X.length = m := ⟨_, rfl⟩
  rw [hm] at HJ hX40 ⊢
  have HM := Lib.hid hm
  have hz3 := HB3.out.size
  clear hJ hG hb3 KF2 hm
  go_wp2_with fail
  go_loopw [10, 11] (fun sv iv wr => ∃ k : Nat, k ≤ m ∧ iv = .int .i64 k ∧ (∃ A' c', sv = .slice A' ((X.take k).filter (fun a => covO o a.j)).length c' ∧ wr.ownsRow w3.heap.size 38 6 (.slice A' ((X.take k).filter (fun a => covO o a.j)).length c') ((X.take k).filter (fun a => covO o a.j)).length (jrs ((X.take k).filter (fun a => covO o a.j)))) ∧ Below w3.heap.size w3 wr) (fun _ iv _ => m - (intOf iv).toNat)
  case atStart => exact ⟨0, Nat.zero_le _, rfl, ⟨none, 0, rfl, World.ownsRow_nil _ _ _ _⟩, Below.refl _ _⟩
  case round =>
    obtain ⟨k, hk, rfl, ⟨A', c', rfl, hown⟩, hbel⟩ := hrel
    have hzr := hbel.size
    have HBE := Lib.hid hbel
    have HO := Lib.hid hown
    have hYl : ((X.take k).filter fun a => covO o a.j).length ≤ 40 := Nat.le_trans (List.length_filter_le _ _) (by rw [List.length_take]; omega)
    by_cases hlt : k < m
    · obtain ⟨ad, a, rfl, hb0, hx, p0, p1, p2, p3, p4, p5⟩ := (HJ.out.rd.below hbel).jr hlt
      have hkI : (k : Int) < (m : Int) := by omega
      have HST := Lib.hid (covO_step (o := o) hx)
      have HCP := Lib.hid (covO_parts (o := o) (j := a.j))
      obtain ⟨v7, w7, hrun, hown7, hbut7, hb7⟩ := append_jr a hown (by omega) (by omega)
      obtain ⟨A7, c7, rfl⟩ := own_form hown7
      have HO7 := Lib.hid hown7
      have HB7 := Lib.hid (hbel.trans hb7)
      clear hx hown hbel hown7 hbut7 hb7 hb0
      obtain ⟨⟨jid, jent, jper, jref, jl, void⟩, Aj, cj⟩ := a
      obtain ⟨oe, of, ot⟩ := o
      dsimp only at *
      generalize jl.length = La at *
      cases void
      · by_cases e1 : jent = oe
        · have d1 : (jent == oe) = true := beq_iff_eq.2 e1
          by_cases e2 : of ≤ jper
          · by_cases e3 : jper ≤ ot
            · have HC : Hid (covO ⟨oe, of, ot⟩ ⟨jid, jent, jper, jref, jl, false⟩ = true) := by rw [Hid, HCP.out, d1, decide_eq_true e2, decide_eq_true e3]; rfl
              have E1 := Lib.hid e1
              clear e1 HCP
              go_wp2_with (at_builtin; refine Lib.wpList_append_run _ rfl _ _ _ _ rfl _ _ rfl rfl _ _ (hrun _) ?_)
              have HL : Hid (((X.take k).filter (fun a => covO ⟨oe, of, ot⟩ a.j) ++ if covO ⟨oe, of, ot⟩ ⟨jid, jent, jper, jref, jl, false⟩ = true then [(⟨⟨jid, jent, jper, jref, jl, false⟩, Aj, cj⟩ : JR)] else []) = (X.take k).filter (fun a => covO ⟨oe, of, ot⟩ a.j) ++ [⟨⟨jid, jent, jper, jref, jl, false⟩, Aj, cj⟩]) := by rw [Hid, HC.out, if_pos rfl]
              have HLL : Hid (((X.take k).filter (fun a => covO ⟨oe, of, ot⟩ a.j) ++ [(⟨⟨jid, jent, jper, jref, jl, false⟩, Aj, cj⟩ : JR)]).length = ((X.take k).filter (fun a => covO ⟨oe, of, ot⟩ a.j)).length + 1) := by simp [Hid]
              refine ⟨⟨k + 1, by omega, by go_num, ⟨A7, c7, ?_, ?_⟩, HB7.out⟩, by simp [intOf]; omega⟩
              · rw [HST.out, HL.out, HLL.out]
              · rw [HST.out, HL.out, HLL.out]; exact HO7.out
            · have HC : Hid (covO ⟨oe, of, ot⟩ ⟨jid, jent, jper, jref, jl, false⟩ = false) := by rw [Hid, HCP.out, d1, decide_eq_true e2, decide_eq_false e3]; rfl
              have HN : Hid ((X.take (k + 1)).filter (fun a => covO ⟨oe, of, ot⟩ a.j) = (X.take k).filter (fun a => covO ⟨oe, of, ot⟩ a.j)) := by rw [Hid, HST.out, HC.out, if_neg (by decide), List.append_nil]
              have E1 := Lib.hid e1
              clear e1 HCP hrun
              go_wp2_with fail
              refine ⟨⟨k + 1, by omega, by go_num, ⟨A', c', ?_, ?_⟩, HBE.out⟩, by simp [intOf]; omega⟩
              · rw [HN.out]
              · rw [HN.out]; exact HO.out
          · have HC : Hid (covO ⟨oe, of, ot⟩ ⟨jid, jent, jper, jref, jl, false⟩ = false) := by rw [Hid, HCP.out, d1, decide_eq_false e2]; rfl
            have HN : Hid ((X.take (k + 1)).filter (fun a => covO ⟨oe, of, ot⟩ a.j) = (X.take k).filter (fun a => covO ⟨oe, of, ot⟩ a.j)) := by rw [Hid, HST.out, HC.out, if_neg (by decide), List.append_nil]
            have E1 := Lib.hid e1
            clear e1 HCP hrun
            go_wp2_with fail
            refine ⟨⟨k + 1, by omega, by go_num, ⟨A', c', ?_, ?_⟩, HBE.out⟩, by simp [intOf]; omega⟩
            · rw [HN.out]
            · rw [HN.out]; exact HO.out
        · have d1 : (jent == oe) = false := beq_eq_false_iff_ne.2 e1
          have HC : Hid (covO ⟨oe, of, ot⟩ ⟨jid, jent, jper, jref, jl, false⟩ = false) := by rw [Hid, HCP.out, d1]; rfl
          have HN : Hid ((X.take (k + 1)).filter (fun a => covO ⟨oe, of, ot⟩ a.j) = (X.take k).filter (fun a => covO ⟨oe, of, ot⟩ a.j)) := by rw [Hid, HST.out, HC.out, if_neg (by decide), List.append_nil]
          have E1 := Lib.hid e1
          clear e1 HCP hrun
          go_wp2_with fail
          refine ⟨⟨k + 1, by omega, by go_num, ⟨A', c', ?_, ?_⟩, HBE.out⟩, by simp [intOf]; omega⟩
          · rw [HN.out]
          · rw [HN.out]; exact HO.out
      · have HC : Hid (covO ⟨oe, of, ot⟩ ⟨jid, jent, jper, jref, jl, true⟩ = false) := by rw [Hid, HCP.out]; rfl
        have HN : Hid ((X.take (k + 1)).filter (fun a => covO ⟨oe, of, ot⟩ a.j) = (X.take k).filter (fun a => covO ⟨oe, of, ot⟩ a.j)) := by rw [Hid, HST.out, HC.out, if_neg (by decide), List.append_nil]
        clear HCP hrun
        go_wp2_with fail
        refine ⟨⟨k + 1, by omega, by go_num, ⟨A', c', ?_, ?_⟩, HBE.out⟩, by simp [intOf]; omega⟩
        · rw [HN.out]
        · rw [HN.out]; exact HO.out
    · rename World => wm
      obtain rfl : k = m := by omega
      have e : X.take k = X := List.take_of_length_le (by rw [HM.out]; omega)
      rw [e] at hown hYl ⊢
      obtain ⟨Y, hY⟩ : ∃ Y, X.filter (fun a => covO o a.j) = Y := ⟨_, rfl⟩
      have hYM : Y.map JR.j = (X.map JR.j).filter (covO o) := by rw [← hY]; exact map_filterJ o X
      have hsub : ∀ a ∈ Y, a ∈ X := fun a ha => by rw [← hY] at ha; exact (List.mem_filter.1 ha).1
      rw [hY] at hown hYl ⊢
      have hJm : JlRd wm w3.heap.size A3 k X := HJ.out.far hbel (Nat.le_refl _)
      have hJY : JlRd wm wm.heap.size A' Y.length Y := ⟨rd_of_own hown, fun a ha => (hJm.lines a (hsub a ha)).wide hzr, fun a ha => hJm.nil a (hsub a ha), fun a ha => hJm.size a (hsub a ha)⟩
      have hg1 := GoodM.of (X.map JR.j) [] (by rw [List.nil_append]; exact HG.out)
      have hg2 := GoodM.of (Y.map JR.j) [] (by rw [List.nil_append, hYM]; exact HG.out.filter _)
      rw [List.nil_append] at hg1 hg2
      have ko1 := lawOf_any X A3 k c3 w3.heap.size wm hJm hzr (by unfold maxLen; omega) hg1.1
      rw [hg1.2] at ko1
      have KO1 := Lib.hid ko1
      have HJY := Lib.hid hJY
      have HG2 := Lib.hid hg2
      have HYM := Lib.hid hYM
      have HBm : Hid (Below w.heap.size w wm) := HB3.out.trans (hbel.mono hz3)
      have hMX : (X.map JR.j).length ≤ 40 := by rw [List.length_map, HM.out]; exact hX40
      obtain ⟨M, hMM⟩ : ∃ M, X.map JR.j = M := ⟨_, rfl⟩
      rw [hMM] at KO1 HYM hMX
      clear e hY hYM hsub hown hbel hJm hJY hg1 hg2 ko1 HO HBE HJ HG hMM
      go_wp2_with fail
      refine KO1.out.mono ?_
      rintro e w5 ⟨rfl, hT⟩
      have hbT := hT.below wm ((Below.refl _ _).alloc (Nat.le_refl _) _) fun q hq => ⟨by omega, by omega⟩
      obtain ⟨v1, l1, hat1, hl1⟩ := tome_of hT
      have HB5 := Lib.hid (HBm.out.trans (hbT.mono HBm.out.size))
      have hz5 := hbT.size
      have ko2 := lawOf_any Y A' Y.length c' wm.heap.size w5 (HJY.out.far hbT (Nat.le_refl _)) hz5 (by unfold maxLen; omega) HG2.out.1
      rw [HG2.out.2] at ko2
      have KO2 := Lib.hid ko2
      have HAT1 := Lib.hid hat1; have HL1 := Lib.hid hl1
      have HZ5 := Lib.hid hz5
      clear hT hbT hat1 hl1 ko2 KO1 hz5
      go_wp2_with fail
      refine KO2.out.mono ?_
      rintro e w6 ⟨rfl, hT⟩
      have hbT := hT.below w5 ((Below.refl _ _).alloc (Nat.le_refl _) _) fun q hq => ⟨by omega, by omega⟩
      obtain ⟨v2, l2, hat2, hl2⟩ := tome_of hT
      have HB6 := Lib.hid (HB5.out.trans (hbT.mono HB5.out.size))
      have HAT2 := Lib.hid hat2; have HL2 := Lib.hid (hl2.trans HYM.out)
      have HAT16 := Lib.hid (HAT1.out.below hbT)
      have hc1 : l1.length ≤ 100 := tomeIn_len HL1.out hMX
      have hc2 : l2.length ≤ 100 := tomeIn_len HL2.out (Nat.le_trans (List.length_filter_le _ _) hMX)
      have kb1 := balances_any o _ _ v1 l1 w6 HAT16.out hc1
      rw [HL1.out] at kb1
      have KB1 := Lib.hid kb1
      clear hT hbT hat2 hl2 kb1 KO2 HAT1
      unfold OfT.val at KB1
      go_wp2_with fail
      refine KB1.out.mono ?_
      rintro e w7 hbe
      obtain ⟨A7, c7, R1, rfl, hR1, hown7, hb7⟩ := balEnd_is hbe
      have HB7 := Lib.hid (HB6.out.trans (hb7.mono HB6.out.size))
      have HR7 : Hid (Rd w7 w7.heap.size 2 A7 R1.length (bals R1)) := rd_of_own hown7
      have HI1 := Lib.hid hR1
      have hT2 := HAT2.out.below hb7
      have hT1 := HAT16.out.below hb7
      have HT1 := Lib.hid hT1; have HT2 := Lib.hid hT2
      have kb2 := balances_any o _ _ v2 l2 w7 hT2 hc2
      rw [HL2.out] at kb2
      have KB2 := Lib.hid kb2
      clear hbe hR1 hown7 hb7 hT1 hT2 kb2 KB1 HAT16 HAT2
      unfold OfT.val at KB2
      go_wp2_with fail
      refine KB2.out.mono ?_
      rintro e w8 hbe
      obtain ⟨A8, c8, R2, rfl, hR2, hown8, hb8⟩ := balEnd_is hbe
      rw [balE_filter, gathL_filter] at hR2
      rw [balE_filter]
      obtain rfl : R1 = R2 := HI1.out.unique hR2 fun _ => rfl
      have HB8 := Lib.hid (HB7.out.trans (hb8.mono HB7.out.size))
      have HR8 : Hid (Rd w8 w8.heap.size 2 A8 R1.length (bals R1)) := rd_of_own hown8
      have HR78 : Hid (Rd w8 w8.heap.size 2 A7 R1.length (bals R1)) := (HR7.out.below hb8).wide hb8.size
      have hT2 := HT2.out.below hb8
      have hT1 := HT1.out.below hb8
      have hRl : R1.length ≤ 1000000 := by
        have h1 := hR2.len
        rw [balsOf_len] at h1
        have h2 := gathL_len (pk := pkL o) (l := M) fun j hj => pkL_le8 (by rw [← HL1.out] at hj; obtain ⟨a, ha, rfl⟩ := List.mem_map.1 hj; exact hT1.ok a ha)
        omega
      have HT1 := Lib.hid hT1; have HT2 := Lib.hid hT2
      have kp1 := partners_any o _ _ v1 l1 w8 hT1 hc1
      rw [HL1.out] at kp1
      have KP1 := Lib.hid kp1
      clear hbe hR2 hown8 hb8 hT1 hT2 kp1 KB2 HI1 HR7
      unfold OfT.val at KP1
      go_wp2_with fail
      refine KP1.out.mono ?_
      rintro e w9 hbe
      obtain ⟨A9, c9, rfl, hown9, hb9⟩ := partEnd_is hbe
      have HB9 := Lib.hid (HB8.out.trans (hb9.mono HB8.out.size))
      have HP9 : Hid (Rd w9 w9.heap.size 2 A9 (prtR o M).length (pairs (prtR o M))) := rd_of_own hown9
      have HR9a : Hid (Rd w9 w9.heap.size 2 A7 R1.length (bals R1)) := (HR78.out.below hb9).wide hb9.size
      have HR9b : Hid (Rd w9 w9.heap.size 2 A8 R1.length (bals R1)) := (HR8.out.below hb9).wide hb9.size
      have hT2 := HT2.out.below hb9
      have kp2 := partners_any o _ _ v2 l2 w9 hT2 hc2
      rw [HL2.out] at kp2
      have KP2 := Lib.hid kp2
      clear hbe hown9 hb9 hT2 kp2 KP1 HR78 HR8 HT1
      unfold OfT.val at KP2
      go_wp2_with fail
      refine KP2.out.mono ?_
      rintro e w10 hbe
      obtain ⟨A10, c10, rfl, hown10, hb10⟩ := partEnd_is hbe
      rw [prtR_filter] at hown10 ⊢
      rw [balE_filter]
      have HB10 := Lib.hid (HB9.out.trans (hb10.mono HB9.out.size))
      have hPl := prtR_len o M
      obtain ⟨PR, hPR⟩ : ∃ PR, prtR o M = PR := ⟨_, rfl⟩
      rw [hPR] at hown10 HP9 hPl ⊢
      have HP10 : Hid (Rd w10 w10.heap.size 2 A10 PR.length (pairs PR)) := rd_of_own hown10
      have HP910 : Hid (Rd w10 w10.heap.size 2 A9 PR.length (pairs PR)) := (HP9.out.below hb10).wide hb10.size
      have ks := sameBalances_any R1 R1 A7 A8 R1.length R1.length c7 c8 w10.heap.size w10.heap.size w10 ((HR9a.out.below hb10).wide hb10.size) ((HR9b.out.below hb10).wide hb10.size) hRl hRl
      rw [show (R1 == R1) = true from beq_self_eq_true R1] at ks
      have KS := Lib.hid ks
      obtain ⟨E, hE⟩ : ∃ E, balE o M = E := ⟨_, rfl⟩
      rw [hE]
      have hEE : (E == E) = true := beq_self_eq_true E
      clear hbe hown10 hb10 ks KP2 hPR hE HP9 HR9a HR9b
      go_wp2_with fail
      refine KS.out.mono ?_
      rintro e w11 ⟨rfl, hd⟩
      have hb11 : Below w10.heap.size w10 w11 := hd.below
      have HB11 := Lib.hid (HB10.out.trans (hb11.mono HB10.out.size))
      have kq := samePairs_any PR PR A9 A10 PR.length PR.length c9 c10 w11.heap.size w11.heap.size w11 ((HP910.out.below hb11).wide hb11.size) ((HP10.out.below hb11).wide hb11.size) (by omega) (by omega)
      rw [show (PR == PR) = true from beq_self_eq_true PR] at kq
      have KQ := Lib.hid kq
      clear hd hb11 kq KS HP910 HP10
      go_wp2_with fail
      refine KQ.out.mono ?_
      rintro e w12 ⟨rfl, hd⟩
      have HB12 : Hid (Below w.heap.size w w12) := HB11.out.trans (hd.below.mono HB11.out.size)
      clear hd
      go_wp2_with fail
      go_ret
      exact ⟨rfl, HB12.out⟩
end Go.Proofs.Ythjpknipnmagkaa

