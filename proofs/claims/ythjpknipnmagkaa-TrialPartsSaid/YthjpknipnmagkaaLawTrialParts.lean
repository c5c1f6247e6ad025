/-
  The statement TrialParts.
-/
-- HOLE2: obtain ⟨fuel0, hf0⟩ := h0
-- obtain ⟨l0, q0, n0, m0, _⟩ := argJrns hf0
-- exact trialParts_walk l0 a0 len0 cap0 a1 a2 a3 a4 W q0 n0
import Derived.Test.YthjpknipnmagkaaMany19
import Derived.Test.YthjpknipnmagkaaMany20
import Derived.Test.YthjpknipnmagkaaTrialSet
import Derived.Test.YthjpknipnmagkaaMany25
import Derived.Test.YthjpknipnmagkaaMany26
import Derived.Test.YthjpknipnmagkaaMany27
import Derived.BigQuiet
namespace Go.Proofs.Ythjpknipnmagkaa
open Mo
open Go.RowKit Go.Sort

set_option maxRecDepth 100000 in
set_option maxHeartbeats 8000000 in
theorem trialParts_walk (l : List JR) (A : Option Addr) (n c : Nat) (ent frm mid til : Int) (w : World) (h : JlRd w w.heap.size A n l) (hn : n ≤ maxLen) :
    Calls Try.prog 5 #[.slice A n c, .int .i64 ent, .int .i64 frm, .int .i64 mid, .int .i64 til] w fun e w' => e = .returned (.bool true) ∧ Below w.heap.size w w' := by
  have kf := Lib.hid (fewM_any 40 (by omega) l A n c _ w h.rd (Nat.le_refl _) hn h.size)
  have KA : Hid (∀ w1, Calls Try.prog 16 #[] w1 fun e w' => e = .returned (.bool true) ∧ Below w1.heap.size w1 w') := alive10_any
  have KSET : Hid (∀ w1, Below w.heap.size w w1 → Calls Try.prog 17 #[.slice none 0 0, .slice A n c] w1 (SetEnd w1)) := fun w1 hb =>
    trialSet_any [] l none A 0 n 0 c w.heap.size w1 Rd.nil_ (h.far hb (Nat.le_refl _)) hb.size (by unfold maxLen; omega) hn
  clear h hn
  go_enter Try.func5, Try.ntmps5
  go_wp2_with fail
  refine kf.out.mono ?_
  rintro e w1 ⟨z, rfl, _, hb1⟩
  have HB1 := Lib.hid hb1
  clear hb1 kf
  cases z
  · go_wp2_with fail
    refine (KA.out _).mono ?_
    rintro e w2 ⟨rfl, hb2⟩
    have HB2 := Lib.hid (HB1.out.trans (hb2.mono HB1.out.size))
    clear hb2
    go_wp2_with fail
    go_ret
    exact ⟨rfl, HB2.out⟩
  by_cases g1 : frm < 0
  · go_wp2_with fail
    refine (KA.out _).mono ?_
    rintro e w2 ⟨rfl, hb2⟩
    have HB2 := Lib.hid (HB1.out.trans (hb2.mono HB1.out.size))
    clear hb2
    go_wp2_with fail
    go_ret
    exact ⟨rfl, HB2.out⟩
  by_cases g2 : mid < frm
  · go_wp2_with fail
    refine (KA.out _).mono ?_
    rintro e w2 ⟨rfl, hb2⟩
    have HB2 := Lib.hid (HB1.out.trans (hb2.mono HB1.out.size))
    clear hb2
    go_wp2_with fail
    go_ret
    exact ⟨rfl, HB2.out⟩
  by_cases g3 : til ≤ mid
  · go_wp2_with fail
    refine (KA.out _).mono ?_
    rintro e w2 ⟨rfl, hb2⟩
    have HB2 := Lib.hid (HB1.out.trans (hb2.mono HB1.out.size))
    clear hb2
    go_wp2_with fail
    go_ret
    exact ⟨rfl, HB2.out⟩
  by_cases g4 : 1199 < til
  · go_wp2_with fail
    refine (KA.out _).mono ?_
    rintro e w2 ⟨rfl, hb2⟩
    have HB2 := Lib.hid (HB1.out.trans (hb2.mono HB1.out.size))
    clear hb2
    go_wp2_with fail
    go_ret
    exact ⟨rfl, HB2.out⟩
  go_wp2_with fail
  refine (KA.out _).mono ?_
  rintro e w2 ⟨rfl, hb2⟩
  have HB2 := Lib.hid (HB1.out.trans (hb2.mono HB1.out.size))
  have KS2 := Lib.hid (KSET.out w2 HB2.out)
  clear hb2 KA KSET
  go_wp2_with fail
  refine KS2.out.mono ?_
  rintro e w3 ⟨cb, bb, Bc, Bb, vc, vb, C, lb, Ar, cr, Aj, cj, X, rfl, _, hT, hl, hG, hX40, _, _, _, _, hb3⟩
  have HB3 := Lib.hid (HB2.out.trans (hb3.mono HB2.out.size))
  have hc : lb.length ≤ 100 := by
    have := congrArg List.length hl
    rw [List.length_map, List.length_map] at this
    omega
  obtain ⟨M, hM⟩ : ∃ M, lb.map JR.j = M := ⟨_, rfl⟩
  have HT3 := Lib.hid hT
  have HMM := Lib.hid hM
  have hok : Hid (∀ j ∈ M, checkE j = 0) := fun j hj => by
    rw [← hM] at hj
    obtain ⟨a, ha, rfl⟩ := List.mem_map.1 hj
    exact hT.ok a ha
  have hml : M.length ≤ 40 := by rw [← hM, hl, List.length_map]; exact hX40
  have HGL : Hid (∀ o : OfT, (balsOf (gathL (pkL o) M)).length ≤ 320) := fun o => by
    rw [balsOf_len]
    have := gathL_len (pk := pkL o) (l := M) fun j hj => pkL_le8 (hok.out j hj)
    omega
  have kb1 := balances_any ⟨ent, frm, mid⟩ _ _ vb lb w3 hT hc
  rw [hM] at kb1
  have KB1 := Lib.hid kb1
  have hw1 : wrap64 (mid + 1) = mid + 1 := by unfold wrap64; omega
  clear hT hl hG hM kb1 KS2 hb3
  unfold OfT.val at KB1
  dsimp only at KB1
  go_wp2_with fail
  refine KB1.out.mono ?_
  rintro e w4 hbe
  obtain ⟨A4, c4, R1, rfl, hR1, hown4, hb4⟩ := balEnd_is hbe
  have HB4 := Lib.hid (HB3.out.trans (hb4.mono HB3.out.size))
  have HR4 : Hid (Rd w4 w4.heap.size 2 A4 R1.length (bals R1)) := rd_of_own hown4
  have HI1 := Lib.hid hR1
  have hT4 := HT3.out.below hb4
  have HT4 := Lib.hid hT4
  have kb2 := balances_any ⟨ent, mid + 1, til⟩ _ _ vb lb w4 hT4 hc
  rw [HMM.out] at kb2
  have KB2 := Lib.hid kb2
  clear hbe hR1 hown4 hb4 hT4 kb2 KB1 HT3
  unfold OfT.val at KB2
  dsimp only at KB2
  obtain ⟨E1, hE1⟩ : ∃ E1, balE ⟨ent, frm, mid⟩ M = E1 := ⟨_, rfl⟩
  have HE1 := Lib.hid hE1
  rw [hE1] at HI1 ⊢
  clear hE1
  go_wp2_with fail
  refine KB2.out.mono ?_
  rintro e w5 hbe
  obtain ⟨A5, c5, R2, rfl, hR2, hown5, hb5⟩ := balEnd_is hbe
  have HB5 := Lib.hid (HB4.out.trans (hb5.mono HB4.out.size))
  have HR5 : Hid (Rd w5 w5.heap.size 2 A5 R2.length (bals R2)) := rd_of_own hown5
  have HR45 : Hid (Rd w5 w5.heap.size 2 A4 R1.length (bals R1)) := (HR4.out.below hb5).wide hb5.size
  have HI2 := Lib.hid hR2
  have hT5 := HT4.out.below hb5
  have kb3 := balances_any ⟨ent, frm, til⟩ _ _ vb lb w5 hT5 hc
  rw [HMM.out] at kb3
  have KB3 := Lib.hid kb3
  clear hbe hR2 hown5 hb5 hT5 kb3 KB2 HT4 HR4
  unfold OfT.val at KB3
  dsimp only at KB3
  obtain ⟨E2, hE2⟩ : ∃ E2, balE ⟨ent, mid + 1, til⟩ M = E2 := ⟨_, rfl⟩
  have HE2 := Lib.hid hE2
  rw [hE2] at HI2 ⊢
  clear hE2
  go_wp2_with fail
  refine KB3.out.mono ?_
  rintro e w6 hbe
  obtain ⟨A6, c6, R3, rfl, hR3, hown6, hb6⟩ := balEnd_is hbe
  have HB6 := Lib.hid (HB5.out.trans (hb6.mono HB5.out.size))
  have HR6 : Hid (Rd w6 w6.heap.size 2 A6 R3.length (bals R3)) := rd_of_own hown6
  have HR56 : Hid (Rd w6 w6.heap.size 2 A5 R2.length (bals R2)) := (HR5.out.below hb6).wide hb6.size
  have HR46 : Hid (Rd w6 w6.heap.size 2 A4 R1.length (bals R1)) := (HR45.out.below hb6).wide hb6.size
  have HI3 := Lib.hid hR3
  clear hbe hR3 hown6 hb6 KB3 HR5 HR45
  obtain ⟨E3, hE3⟩ : ∃ E3, balE ⟨ent, frm, til⟩ M = E3 := ⟨_, rfl⟩
  have HE3 := Lib.hid hE3
  rw [hE3] at HI3 ⊢
  clear hE3
  by_cases z1 : E1 = 0
  · by_cases z2 : E2 = 0
    · by_cases z3 : E3 = 0
      · subst z1 z2 z3
        have hP1 := HI1.out.1 rfl
        have hP2 := HI2.out.1 rfl
        have hP3 := HI3.out.1 rfl
        obtain ⟨hpb, hsum⟩ := plusB_parts (M := M) (by omega) (by omega) HE1.out HE2.out HE3.out hP1 hP2
        have hl1 : R1.length ≤ 320 := Nat.le_trans hP1.lenB (HGL.out _)
        have hl2 : R2.length ≤ 320 := Nat.le_trans hP2.lenB (HGL.out _)
        have hl3 : R3.length ≤ 320 := Nat.le_trans hP3.lenB (HGL.out _)
        have HPB := Lib.hid hpb; have HSUM := Lib.hid hsum; have HP3 := Lib.hid hP3
        have KL1 := Lib.hid (lentBalances_any R1 A4 R1.length c4 w6.heap.size w6 HR46.out (by omega))
        clear hP1 hP2 hP3 hpb hsum
        go_wp2_with fail
        refine KL1.out.mono ?_
        rintro e w7 ⟨g1, k1, rfl, hL1, hb7⟩
        have HB7 := Lib.hid (HB6.out.trans (hb7.mono HB6.out.size))
        have HL1 := Lib.hid hL1
        have HR57 : Hid (Rd w7 w7.heap.size 2 A5 R2.length (bals R2)) := (HR56.out.below hb7).wide hb7.size
        have HR47 : Hid (Rd w7 w7.heap.size 2 A4 R1.length (bals R1)) := (HR46.out.below hb7).wide hb7.size
        have HR67 : Hid (Rd w7 w7.heap.size 2 A6 R3.length (bals R3)) := (HR6.out.below hb7).wide hb7.size
        have KL2 := Lib.hid (lentBalances_any R2 A5 R2.length c5 w7.heap.size w7 HR57.out (by omega))
        clear hL1 hb7 KL1 HR56 HR46 HR6
        go_wp2_with fail
        refine KL2.out.mono ?_
        rintro e w8 ⟨g2, k2, rfl, hL2, hb8⟩
        have HB8 := Lib.hid (HB7.out.trans (hb8.mono HB7.out.size))
        have HL18 := Lib.hid (HL1.out.below hb8)
        have HL2 := Lib.hid hL2
        have HR58 : Hid (Rd w8 w8.heap.size 2 A5 R2.length (bals R2)) := (HR57.out.below hb8).wide hb8.size
        have HR48 : Hid (Rd w8 w8.heap.size 2 A4 R1.length (bals R1)) := (HR47.out.below hb8).wide hb8.size
        have HR68 : Hid (Rd w8 w8.heap.size 2 A6 R3.length (bals R3)) := (HR67.out.below hb8).wide hb8.size
        have KP1 := Lib.hid (plus_any R1 R2 (some ⟨g1, 0, none⟩) (some ⟨g2, 0, none⟩) R1.length R2.length k1 k2 w8.heap.size w8 HL18.out.rd HL2.out.rd (Nat.le_refl _) (by omega))
        clear hL2 hb8 KL2 HR57 HR47 HR67 HL1
        go_wp2_with fail
        refine KP1.out.mono ?_
        rintro e w9 ⟨hb9, ⟨hbad, _⟩ | ⟨_, A9, c9, S, hS, rfl, hown9⟩⟩
        · rw [HPB.out] at hbad; cases hbad
        obtain rfl : S = R3 := hS.unique HP3.out HSUM.out
        have HB9 := Lib.hid (HB8.out.trans (hb9.mono HB8.out.size))
        have HL19 := Lib.hid (HL18.out.below hb9)
        have HL29 := Lib.hid (HL2.out.below hb9)
        have HR59 : Hid (Rd w9 w9.heap.size 2 A5 R2.length (bals R2)) := (HR58.out.below hb9).wide hb9.size
        have HR49 : Hid (Rd w9 w9.heap.size 2 A4 R1.length (bals R1)) := (HR48.out.below hb9).wide hb9.size
        have HR69 : Hid (Rd w9 w9.heap.size 2 A6 S.length (bals S)) := (HR68.out.below hb9).wide hb9.size
        have HS9 : Hid (Rd w9 w9.heap.size 2 A9 S.length (bals S)) := rd_of_own hown9
        have KP2 := Lib.hid (plus_any R2 R1 (some ⟨g2, 0, none⟩) (some ⟨g1, 0, none⟩) R2.length R1.length k2 k1 w9.heap.size w9 HL29.out.rd HL19.out.rd (Nat.le_refl _) (by omega))
        clear hb9 hS hown9 KP1 HR58 HR48 HR68 HL18 HL2
        go_wp2_with fail
        refine KP2.out.mono ?_
        rintro e w10 ⟨hb10, hres⟩
        have hperm : (R1 ++ R2).Perm (R2 ++ R1) := List.perm_append_comm
        rcases hres with ⟨hbad, _⟩ | ⟨_, A10, c10, S2, hS2, rfl, hown10⟩
        · rw [← plusB_perm hperm, HPB.out] at hbad; cases hbad
        obtain rfl : S2 = S := hS2.unique HP3.out fun a => by rw [← sumB_perm a hperm]; exact HSUM.out a
        have HB10 := Lib.hid (HB9.out.trans (hb10.mono HB9.out.size))
        have HL110 := Lib.hid (HL19.out.below hb10)
        have HL210 := Lib.hid (HL29.out.below hb10)
        have HR510 : Hid (Rd w10 w10.heap.size 2 A5 R2.length (bals R2)) := (HR59.out.below hb10).wide hb10.size
        have HR410 : Hid (Rd w10 w10.heap.size 2 A4 R1.length (bals R1)) := (HR49.out.below hb10).wide hb10.size
        have HR610 : Hid (Rd w10 w10.heap.size 2 A6 S2.length (bals S2)) := (HR69.out.below hb10).wide hb10.size
        have HS10 : Hid (Rd w10 w10.heap.size 2 A9 S2.length (bals S2)) := (HS9.out.below hb10).wide hb10.size
        have HT10 : Hid (Rd w10 w10.heap.size 2 A10 S2.length (bals S2)) := rd_of_own hown10
        have eS : (S2 == S2) = true := beq_self_eq_true S2
        have e1 : (R1 == R1) = true := beq_self_eq_true R1
        have e2 : (R2 == R2) = true := beq_self_eq_true R2
        have k1' := sameBalances_any S2 S2 A9 A6 S2.length S2.length c9 c6 w10.heap.size w10.heap.size w10 HS10.out HR610.out (by omega) (by omega)
        rw [eS] at k1'
        have K1 := Lib.hid k1'
        have ES := Lib.hid eS; have EE1 := Lib.hid e1; have EE2 := Lib.hid e2
        clear hb10 hS2 hown10 KP2 HR59 HR49 HR69 HS9 HL19 HL29 k1' hperm HPB HSUM HP3 HI1 HI2 HI3 HE1 HE2 HE3 eS e1 e2
        go_wp2_with fail
        refine K1.out.mono ?_
        rintro e w11 ⟨rfl, hd⟩
        have hb11 : Below w10.heap.size w10 w11 := hd.below
        have HB11 := Lib.hid (HB10.out.trans (hb11.mono HB10.out.size))
        have k2' := sameBalances_any S2 S2 A10 A6 S2.length S2.length c10 c6 w11.heap.size w11.heap.size w11 ((HT10.out.below hb11).wide hb11.size) ((HR610.out.below hb11).wide hb11.size) (by omega) (by omega)
        rw [ES.out] at k2'
        have K2 := Lib.hid k2'
        have HL111 := Lib.hid (HL110.out.below hb11)
        have HL211 := Lib.hid (HL210.out.below hb11)
        have HR511 : Hid (Rd w11 w11.heap.size 2 A5 R2.length (bals R2)) := (HR510.out.below hb11).wide hb11.size
        have HR411 : Hid (Rd w11 w11.heap.size 2 A4 R1.length (bals R1)) := (HR410.out.below hb11).wide hb11.size
        clear hd hb11 k2' K1 HS10 HT10 HR610 HR510 HR410 HL110 HL210
        go_wp2_with fail
        refine K2.out.mono ?_
        rintro e w12 ⟨rfl, hd⟩
        have hb12 : Below w11.heap.size w11 w12 := hd.below
        have HB12 := Lib.hid (HB11.out.trans (hb12.mono HB11.out.size))
        have k3' := staysBalances_any R1 R1 A4 R1.length R1.length c4 w6.heap.size w12.heap.size g1 k1 w12 (HL111.out.below hb12) rfl ((HR411.out.below hb12).wide hb12.size) (by omega) (by omega)
        rw [EE1.out] at k3'
        have K3 := Lib.hid k3'
        have HL212 := Lib.hid (HL211.out.below hb12)
        have HR512 : Hid (Rd w12 w12.heap.size 2 A5 R2.length (bals R2)) := (HR511.out.below hb12).wide hb12.size
        clear hd hb12 k3' K2 HL111 HL211 HR511 HR411
        go_wp2_with fail
        refine K3.out.mono ?_
        rintro e w13 ⟨rfl, hd⟩
        have hb13 : Below w12.heap.size w12 w13 := hd.below
        have HB13 := Lib.hid (HB12.out.trans (hb13.mono HB12.out.size))
        have k4' := staysBalances_any R2 R2 A5 R2.length R2.length c5 w7.heap.size w13.heap.size g2 k2 w13 (HL212.out.below hb13) rfl ((HR512.out.below hb13).wide hb13.size) (by omega) (by omega)
        rw [EE2.out] at k4'
        have K4 := Lib.hid k4'
        clear hd hb13 k4' K3 HL212 HR512
        go_wp2_with fail
        refine K4.out.mono ?_
        rintro e w14 ⟨rfl, hd⟩
        have HB14 : Hid (Below w.heap.size w w14) := HB13.out.trans (hd.below.mono HB13.out.size)
        clear hd
        go_wp2_with fail
        go_ret
        exact ⟨rfl, HB14.out⟩
      · have b1 : (E3 != 0) = true := by simpa using z3
        subst z1 z2
        clear z3
        go_wp2_with fail
        go_ret
        exact ⟨rfl, HB6.out⟩
    · have b1 : (E2 != 0) = true := by simpa using z2
      subst z1
      clear z2
      go_wp2_with fail
      go_ret
      exact ⟨rfl, HB6.out⟩
  · have b1 : (E1 != 0) = true := by simpa using z1
    clear z1
    go_wp2_with fail
    go_ret
    exact ⟨rfl, HB6.out⟩
end Go.Proofs.Ythjpknipnmagkaa

