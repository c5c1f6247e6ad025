/-
  The statement TrialTells.
-/
-- HOLE2: obtain ⟨fuel0, hf0⟩ := h0
-- obtain ⟨l0, q0, n0, m0, _⟩ := argJrns hf0
-- exact trialTells_walk l0 a0 len0 cap0 a1 a2 a3 W q0 n0
import Derived.Test.YtjlokkjbdgcooaaGreatMany23
import Derived.Test.YtjlokkjbdgcooaaGreatMany31
import Derived.Test.YtjlokkjbdgcooaaGreatTrialSet
import Derived.Test.YtjlokkjbdgcooaaGreatMany33
import Derived.Test.YtjlokkjbdgcooaaGreatMany34
import Derived.Test.YtjlokkjbdgcooaaGreatMany39
import Derived.Test.YtjlokkjbdgcooaaGreatMany40
import Derived.BigQuiet
namespace Go.Proofs.YtjlokkjbdgcooaaGreat
open Mo
open Go.RowKit Go.Sort

set_option maxRecDepth 100000 in
set_option maxHeartbeats 8000000 in
theorem trialTells_walk (l : List JR) (A : Option Addr) (n c : Nat) (ent frm til : Int) (w : World) (h : JlRd w w.heap.size A n l) (hn : n ≤ maxLen) :
    Calls Tryz.prog 5 #[.slice A n c, .int .i64 ent, .int .i64 frm, .int .i64 til] w fun e w' => e = .returned (.bool true) ∧ Below w.heap.size w w' := by
  have kf := Lib.hid (fewM_any 40 (by omega) l A n c _ w h.rd (Nat.le_refl _) hn h.size)
  have KA : Hid (∀ w1, Calls Tryz.prog 31 #[] w1 fun e w' => e = .returned (.bool true) ∧ Below w1.heap.size w1 w') := alive10_any
  have KSET : Hid (∀ w1, Below w.heap.size w w1 → Calls Tryz.prog 32 #[.slice none 0 0, .slice A n c] w1 (SetEnd w1)) := fun w1 hb =>
    trialSet_any [] l none A 0 n 0 c w.heap.size w1 Rd.nil_ (h.far hb (Nat.le_refl _)) hb.size (by unfold maxLen; omega) hn
  clear h hn
  go_enter Tryz.func5, Tryz.ntmps5
  go_wp2_with fail
  refine kf.out.mono ?_
  rintro e w1 ⟨z, rfl, _, hb1⟩
  have HB1 := Lib.hid hb1
  clear hb1 kf
  cases z
  · go_wp2_with fail
    refine (KA.out _).mono ?_
    rintro e w2 ⟨rfl, hb2⟩
    have HB2 := Lib.hid (HB1.out.trans (hb2.mono HB1.out.size))
    clear hb2
    go_wp2_with fail
    go_ret
    exact ⟨rfl, HB2.out⟩
  go_wp2_with fail
  refine (KA.out _).mono ?_
  rintro e w2 ⟨rfl, hb2⟩
  have HB2 := Lib.hid (HB1.out.trans (hb2.mono HB1.out.size))
  have KS2 := Lib.hid (KSET.out w2 HB2.out)
  clear hb2 KA KSET
  go_wp2_with fail
  refine KS2.out.mono ?_
  rintro e w3 ⟨cb, bb, Bc, Bb, vc, vb, C, lb, Ar, cr, Aj, cj, X, rfl, _, hT, hl, hG, hX40, _, hJ, _, _, hb3⟩
  have HB3 := Lib.hid (HB2.out.trans (hb3.mono HB2.out.size))
  have hc : lb.length ≤ 100 := by
    have := congrArg List.length hl
    rw [List.length_map, List.length_map] at this
    omega
  obtain ⟨M, hM⟩ : ∃ M, lb.map JR.j = M := ⟨_, rfl⟩
  have hok : ∀ j ∈ M, checkE j = 0 := fun j hj => by
    rw [← hM] at hj
    obtain ⟨a, ha, rfl⟩ := List.mem_map.1 hj
    exact hT.ok a ha
  have hXM : X.map JR.j = M := by rw [← hl, hM]
  have hokX : ∀ a ∈ X, checkE a.j = 0 := fun a ha => hok _ (by rw [← hXM]; exact List.mem_map.2 ⟨a, ha, rfl⟩)
  have hml : M.length ≤ 40 := by rw [← hXM, List.length_map]; exact hX40
  have hgl : (balsOf (gathL (pkL ⟨ent, frm, til⟩) M)).length ≤ 320 := by
    rw [balsOf_len]
    have := gathL_len (pk := pkL ⟨ent, frm, til⟩) (l := M) fun j hj => pkL_le8 (hok j hj)
    omega
  have HOK := Lib.hid hok; have HGL := Lib.hid hgl
  obtain ⟨W4, hW4⟩ : ∃ W4, w3.alloc (.cells #[.int .i64 ent, .int .i64 frm, .int .i64 til] 80) = W4 := ⟨_, rfl⟩
  have hb4 : Below w3.heap.size w3 W4 := by rw [← hW4]; exact (Below.refl _ _).alloc (Nat.le_refl _) _
  have hz4 : W4.heap.size = w3.heap.size + 1 := by rw [← hW4]; simp
  have x0 : W4.cell? ⟨w3.heap.size, 0, none⟩ = some (.int .i64 ent) := by rw [← hW4]; exact box_cell 0
  have x1 : W4.cell? ⟨w3.heap.size, 1, none⟩ = some (.int .i64 frm) := by rw [← hW4]; exact box_cell 1
  have x2 : W4.cell? ⟨w3.heap.size, 2, none⟩ = some (.int .i64 til) := by rw [← hW4]; exact box_cell 2
  have hJ4 := hJ.far hb4 (Nat.le_refl _)
  have kr := refBals_any ⟨ent, frm, til⟩ X Aj X.length cj w3.heap.size W4 hJ4 hb4.size (by omega) hokX
  rw [hXM] at kr
  have KR := Lib.hid kr
  have HW4 := Lib.hid hW4
  have HB4 := Lib.hid (HB3.out.trans (hb4.mono HB3.out.size))
  have HT4 := Lib.hid (hT.below hb4)
  have HJ4 := Lib.hid hJ4
  have HX0 := Lib.hid x0; have HX1 := Lib.hid x1; have HX2 := Lib.hid x2
  have HZ4 : Hid (w3.heap.size < W4.heap.size) := by unfold Hid; omega
  have HM := Lib.hid hM; have HXM := Lib.hid hXM; have HOKX := Lib.hid hokX
  clear hT hl hG hM KS2 hb3 hok hXM hokX hgl hW4 hb4 hz4 x0 x1 x2 hJ4 hJ kr hml
  go_wp2_with fail
  rw [HW4.out]
  refine KR.out.mono ?_
  rintro e w5 hbe
  obtain ⟨Aw, cw, R, rfl, hR, hownR, hb5⟩ := balEnd_is hbe
  have HB5 := Lib.hid (HB4.out.trans (hb5.mono HB4.out.size))
  have HI := Lib.hid hR
  have HT5 := Lib.hid (HT4.out.below hb5)
  have HJ5 := Lib.hid (HJ4.out.far hb5 (Nat.le_of_lt HZ4.out))
  have HRW : Hid (Rd w5 w5.heap.size 2 Aw R.length (bals R)) := rd_of_own hownR
  have HX05 : Hid (w5.cell? ⟨w3.heap.size, 0, none⟩ = some (.int .i64 ent)) := (hb5.cell (p := ⟨w3.heap.size, 0, none⟩) HZ4.out).trans HX0.out
  have HX15 : Hid (w5.cell? ⟨w3.heap.size, 1, none⟩ = some (.int .i64 frm)) := (hb5.cell (p := ⟨w3.heap.size, 1, none⟩) HZ4.out).trans HX1.out
  have HX25 : Hid (w5.cell? ⟨w3.heap.size, 2, none⟩ = some (.int .i64 til)) := (hb5.cell (p := ⟨w3.heap.size, 2, none⟩) HZ4.out).trans HX2.out
  have HZ5 : Hid (w3.heap.size < w5.heap.size) := Nat.lt_of_lt_of_le HZ4.out hb5.size
  have hrl : R.length ≤ 320 := Nat.le_trans hR.len HGL.out
  have hE : balE ⟨ent, frm, til⟩ M = 0 ∨ balE ⟨ent, frm, til⟩ M = 1 ∨ balE ⟨ent, frm, til⟩ M = 2 := by
    unfold balE
    split
    · split
      · exact .inl rfl
      · exact .inr (.inr rfl)
    · exact .inr (.inl rfl)
  have hP1 : balE ⟨ent, frm, til⟩ M ≠ 0 → prtR ⟨ent, frm, til⟩ M = [] := fun h => by unfold prtR; rw [if_neg h]
  have hP2 : balE ⟨ent, frm, til⟩ M = 0 → prtR ⟨ent, frm, til⟩ M = prsK (fun p => partSum p (gathL (pkP ⟨ent, frm, til⟩) M)) 10 := fun h => by unfold prtR; rw [if_pos h]
  have hS0 : balE ⟨ent, frm, til⟩ M = 0 → Mo.addV (amts R) = 0 ∧ Mo.addE (amts R) = 0 := fun h => sum_zero HOK.out (hR.1 h) (balE_zero h).2
  have hR1 : balE ⟨ent, frm, til⟩ M ≠ 0 → R = [] := hR.2
  have hpl := prtR_len ⟨ent, frm, til⟩ M
  obtain ⟨W6, hW6⟩ : ∃ W6, w5.alloc (.cells #[.slice none 0 0, .slice none 0 0, .slice none 0 0, .slice none 0 0, .slice none 0 0, .slice none 0 0, .slice none 0 0, .slice none 0 0, .slice none 0 0, .slice none 0 0, .slice none 0 0, .slice none 0 0, .slice none 0 0, .slice none 0 0, .slice none 0 0, .slice none 0 0, .slice none 0 0, .slice none 0 0, .slice none 0 0, .slice none 0 0] 45) = W6 := ⟨_, rfl⟩
  have hb6 : Below w5.heap.size w5 W6 := by rw [← hW6]; exact (Below.refl _ _).alloc (Nat.le_refl _) _
  have hk6 : BookAt W6 w5.heap.size fun _ => .slice none 0 0 := by rw [← hW6]; exact heap_new w5 _
  have HK6 : Hid (KeptBP W6 w5.heap.size w5.heap.size (fun _ => False) 0 0) := KeptBP.new hk6 (Nat.le_refl _)
  have HW6 := Lib.hid hW6; have HB6 := Lib.hid hb6
  have HP1 := Lib.hid hP1; have HP2 := Lib.hid hP2; have HS0 := Lib.hid hS0; have HR1 := Lib.hid hR1; have HE := Lib.hid hE
  clear hbe hR hownR hb5 KR HT4 HJ4 HX0 HX1 HX2 hW6 hb6 hk6 hP1 hP2 hS0 hR1 hE
  obtain ⟨E, hEE⟩ : ∃ E, balE ⟨ent, frm, til⟩ M = E := ⟨_, rfl⟩
  have HEE := Lib.hid hEE
  obtain ⟨P, hPP⟩ : ∃ P, prtR ⟨ent, frm, til⟩ M = P := ⟨_, rfl⟩
  have HPP := Lib.hid hPP
  rw [hEE] at HI HP1 HP2 HS0 HR1 HE ⊢
  rw [hPP] at HP1 HP2 hpl
  clear hEE hPP
  go_wp2_with fail
  rw [HW6.out]
  go_loopw [18] (fun iv wr => ∃ k : Nat, k ≤ 2 ∧ iv = .int .i64 k ∧ KeptBP wr w5.heap.size w5.heap.size (fun _ => False) k k ∧ Below w5.heap.size w5 wr) (fun iv _ => 2 - (intOf iv).toNat)
  case atStart => exact ⟨0, by omega, rfl, HK6.out, HB6.out⟩
  case round =>
    obtain ⟨k, hk, rfl, hkept, hbel⟩ := hrel
    have HK := Lib.hid hkept; have HB := Lib.hid hbel
    have x0 := (hbel.cell (p := ⟨w3.heap.size, 0, none⟩) HZ5.out).trans HX05.out
    have x1 := (hbel.cell (p := ⟨w3.heap.size, 1, none⟩) HZ5.out).trans HX15.out
    have x2 := (hbel.cell (p := ⟨w3.heap.size, 2, none⟩) HZ5.out).trans HX25.out
    have hzr := hbel.size
    clear hkept
    by_cases hlt : k < 2
    · have hT := HT5.out.below hbel
      have kb := balances_any ⟨ent, frm, til⟩ _ _ vb lb wr hT hc
      rw [HM.out] at kb
      have KB := Lib.hid kb
      have HT := Lib.hid hT
      have hkI : (k : Int) < 2 := by omega
      unfold OfT.val at KB
      dsimp only at KB
      clear hT kb hbel
      go_wp2_with fail
      refine KB.out.mono ?_
      rintro e w7 hbe
      obtain ⟨A7, c7, R', rfl, hR', hown7, hb7⟩ := balEnd_is hbe
      rw [HEE.out] at hR' ⊢
      obtain rfl : R' = R := hR'.unique HI.out fun _ => rfl
      have HO7 := Lib.hid hown7; have HB7 := Lib.hid hb7
      have HZR : Hid (w3.heap.size < wr.heap.size) := Nat.lt_of_lt_of_le HZ5.out hzr
      have y0 := (hb7.cell (p := ⟨w3.heap.size, 0, none⟩) HZR.out).trans x0
      have y1 := (hb7.cell (p := ⟨w3.heap.size, 1, none⟩) HZR.out).trans x1
      have y2 := (hb7.cell (p := ⟨w3.heap.size, 2, none⟩) HZR.out).trans x2
      have kp := partners_any ⟨ent, frm, til⟩ _ _ vb lb w7 (HT.out.below hb7) hc
      rw [HM.out] at kp
      have KP := Lib.hid kp
      unfold OfT.val at KP
      dsimp only at KP
      have hz7 := hb7.size
      clear hbe hR' hown7 hb7 kp KB x0 x1 x2
      go_wp2_with fail
      refine KP.out.mono ?_
      rintro e w8 hpe
      obtain ⟨A8, c8, rfl, hown8, hb8⟩ := partEnd_is hpe
      rw [HEE.out, HPP.out]
      rw [HPP.out] at hown8
      have hz8 := hb8.size
      have hx8 : w8.ownsRow wr.heap.size 161 2 (.slice A7 R'.length c7) R'.length (bals R') := own_kept HO7.out fun q hq _ => hb8.block q hq
      have hb78 : Below wr.heap.size wr w8 := HB7.out.trans (hb8.mono hz7)
      have hk8 : KeptBP w8 w5.heap.size w5.heap.size (fun q => (fun q => (Value.slice A8 P.length c8).ownBlock = some q) q ∨ (Value.slice A7 R'.length c7).ownBlock = some q) k k :=
        (HK.out.more fun q hq => .inr (hq.elim (fun h => Nat.le_trans hz7 (own_ge hown8 q h)) fun h => own_ge HO7.out q h)).below hb78
      have kk1 := keepBals_any w5.heap.size w5.heap.size k k R'.length c7 wr.heap.size _ A7 R' w8 hk8 (by omega) hx8 (by omega) hzr fun q hq => ⟨own_lt hown8 q hq, fun h => by
        have h1 := own_lt HO7.out q h
        have h2 := own_ge hown8 q hq
        omega⟩
      have KK1 := Lib.hid kk1
      have HO8 := Lib.hid hown8; have HX8 := Lib.hid hx8
      have HB8 : Hid (Below w5.heap.size w5 w8) := HB.out.trans (hb78.mono hzr)
      clear hpe hown8 hb8 hx8 hb78 hk8 kk1 KP y0 y1 y2 HT
      go_wp2_with fail
      refine KK1.out.mono ?_
      rintro e w9 ⟨rfl, hk9, hb9, ho9⟩
      have hx9 := ho9.own HX8.out (by decide)
      have hy9 := ho9.own HO8.out (by decide)
      have kk2 := keepPairs_any w5.heap.size w5.heap.size (k + 1) k P.length c8 w7.heap.size (fun _ => False) A8 P w9 (hk9.more fun q hq => .inl (hq.elim False.elim id)) (by omega) hy9 (by omega) (by omega) fun q hq => hq.elim
      have KK2 := Lib.hid kk2
      have HX9 := Lib.hid hx9; have HY9 := Lib.hid hy9
      have HB9 : Hid (Below w5.heap.size w5 w9) := HB8.out.trans hb9
      clear hk9 hb9 ho9 hx9 hy9 kk2 KK1 HX8 HO8
      go_wp2_with fail
      refine KK2.out.mono ?_
      rintro e w10 ⟨rfl, hk10, hb10, ho10⟩
      have hx10 := rd_of_own (ho10.own HX9.out (by decide))
      have hy10 := rd_of_own (ho10.own HY9.out (by decide))
      have HB10 : Hid (Below w5.heap.size w5 w10) := HB9.out.trans hb10
      have HK10 := Lib.hid hk10; have HX10 := Lib.hid hx10; have HY10 := Lib.hid hy10
      have ks := sameBalances_any R' R' A7 Aw R'.length R'.length c7 cw _ _ w10 hx10 (HRW.out.far HB10.out (Nat.le_refl _)) (by omega) (by omega)
      rw [beq_self_eq_true R'] at ks
      have KS := Lib.hid ks
      have e1 : (E != E) = false := by simp
      clear hk10 hb10 ho10 hx10 hy10 ks KK2 HX9 HY9
      go_wp2_with fail
      refine KS.out.mono ?_
      rintro e w11 ⟨rfl, hd⟩
      have hb11 : Below w10.heap.size w10 w11 := hd.below
      have HB11 : Hid (Below w5.heap.size w5 w11) := HB10.out.trans (hb11.mono HB10.out.size)
      have HK11 := Lib.hid (HK10.out.below hb11)
      have HX11 : Hid (Rd w11 w11.heap.size 2 A7 R'.length (bals R')) := (HX10.out.below hb11).wide hb11.size
      have HY11 : Hid (Rd w11 w11.heap.size 2 A8 P.length (pairs P)) := (HY10.out.below hb11).wide hb11.size
      clear hd hb11 KS HK10 HX10 HY10
      rcases HE.out with rfl | rfl | rfl
      · obtain ⟨s1, s2⟩ := HS0.out rfl
        have kr := refParts_any ⟨ent, frm, til⟩ X Aj X.length cj w3.heap.size w11 (HJ5.out.far HB11.out (Nat.le_of_lt HZ5.out)) (Nat.le_trans (Nat.le_of_lt HZ5.out) HB11.out.size) (by omega) HOKX.out
        rw [HXM.out, ← HP2.out rfl] at kr
        have KR := Lib.hid kr
        clear kr
        go_wp2_with fail
        refine KR.out.mono ?_
        rintro e w12 ⟨A12, c12, rfl, hown12, hb12⟩
        have kq := samePairs_any P P A8 A12 P.length P.length c8 c12 _ _ w12 (HY11.out.below hb12) (rd_of_own hown12) (by omega) (by omega)
        rw [beq_self_eq_true P] at kq
        have KQ := Lib.hid kq
        have HB12 : Hid (Below w5.heap.size w5 w12) := HB11.out.trans (hb12.mono HB11.out.size)
        have HK12 := Lib.hid (HK11.out.below hb12)
        have HX12 : Hid (Rd w12 w12.heap.size 2 A7 R'.length (bals R')) := (HX11.out.below hb12).wide hb12.size
        clear hown12 hb12 kq KR HK11 HX11 HY11
        go_wp2_with fail
        refine KQ.out.mono ?_
        rintro e w13 ⟨rfl, hd⟩
        have hb13 : Below w12.heap.size w12 w13 := hd.below
        have HB13 : Hid (Below w5.heap.size w5 w13) := HB12.out.trans (hb13.mono HB12.out.size)
        have HK13 := Lib.hid (HK12.out.below hb13)
        have ku := sumBals_any R' A7 R'.length c7 _ w13 (HX12.out.below hb13) hb13.size (by omega)
        rw [s1, s2] at ku
        have KU := Lib.hid ku
        clear hd hb13 ku KQ HK12 HX12 s1 s2
        go_wp2_with fail
        refine KU.out.mono ?_
        rintro e w14 ⟨rfl, hb14⟩
        have HB14 : Hid (Below w5.heap.size w5 w14) := HB13.out.trans (hb14.mono HB13.out.size)
        have HK14 := Lib.hid (HK13.out.below hb14)
        clear hb14 KU HK13
        by_cases h60 : (R'.length : Int) ≤ 60
        all_goals
          go_wp2_with fail
          exact ⟨⟨k + 1, by omega, by go_num, HK14.out, HB14.out⟩, by simp [intOf]; omega⟩
      · obtain rfl : P = [] := HP1.out (by decide)
        go_wp2_with fail
        exact ⟨⟨k + 1, by omega, by go_num, HK11.out, HB11.out⟩, by simp [intOf]; omega⟩
      · obtain rfl : P = [] := HP1.out (by decide)
        have ku := sumBals_any R' A7 R'.length c7 _ w11 HX11.out (Nat.le_refl _) (by omega)
        generalize Mo.addV (amts R') = s1 at ku
        generalize Mo.addE (amts R') = s2 at ku
        have KU := Lib.hid ku
        clear ku
        go_wp2_with fail
        refine KU.out.mono ?_
        rintro e w14 ⟨rfl, hb14⟩
        have HB14 : Hid (Below w5.heap.size w5 w14) := HB11.out.trans (hb14.mono HB11.out.size)
        have HK14 := Lib.hid (HK11.out.below hb14)
        clear hb14 KU HK11
        go_wp2_with fail
        exact ⟨⟨k + 1, by omega, by go_num, HK14.out, HB14.out⟩, by simp [intOf]; omega⟩
    · obtain rfl : k = 2 := by omega
      have KN1 := Lib.hid (balances_nil ⟨ent, frm, til⟩ wr)
      unfold OfT.val at KN1
      dsimp only at KN1
      clear hbel
      go_wp2_with fail
      refine KN1.out.mono ?_
      rintro e w7 ⟨rfl, hb7⟩
      have HZR : Hid (w3.heap.size < wr.heap.size) := Nat.lt_of_lt_of_le HZ5.out hzr
      have y0 := (hb7.cell (p := ⟨w3.heap.size, 0, none⟩) HZR.out).trans x0
      have y1 := (hb7.cell (p := ⟨w3.heap.size, 1, none⟩) HZR.out).trans x1
      have y2 := (hb7.cell (p := ⟨w3.heap.size, 2, none⟩) HZR.out).trans x2
      have HK7 := Lib.hid (HK.out.below hb7)
      have HB7 : Hid (Below w5.heap.size w5 w7) := HB.out.trans (hb7.mono hzr)
      have KN2 := Lib.hid (partners_nil ⟨ent, frm, til⟩ w7)
      unfold OfT.val at KN2
      dsimp only at KN2
      clear hb7 KN1 x0 x1 x2
      go_wp2_with fail
      refine KN2.out.mono ?_
      rintro e w8 ⟨rfl, hb8⟩
      have HB8 : Hid (Below w5.heap.size w5 w8) := HB7.out.trans (hb8.mono HB7.out.size)
      have KAP := Lib.hid (apartBP_any w5.heap.size w5.heap.size 2 2 _ w8 (HK7.out.below hb8) (by omega) (by omega))
      clear hb8 KN2 y0 y1 y2
      go_wp2_with fail
      refine KAP.out.mono ?_
      rintro e w9 ⟨rfl, hb9⟩
      have HB9 : Hid (Below w.heap.size w w9) := HB5.out.trans ((HB8.out.trans hb9).mono HB5.out.size)
      clear hb9
      go_wp2_with fail
      go_ret
      exact ⟨rfl, HB9.out⟩
end Go.Proofs.YtjlokkjbdgcooaaGreat

