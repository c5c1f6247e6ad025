/-
  The statement IncomeTells.
-/
-- HOLE2: obtain ⟨fuel0, hf0⟩ := h0
-- obtain ⟨fuel1, hf1⟩ := h1
-- obtain ⟨l0, q0⟩ := argAccs hf0
-- obtain ⟨l1, q1, n1, m1, _⟩ := argJrns hf1
-- exact incomeTells_walk l0 l1 a0 a1 len0 len1 cap0 cap1 a2 a3 a4 W q0.rd q1 q0.len n1
import Derived.Test.YtjlokkjbdgcooaaGreatMany34
import Derived.Test.YtjlokkjbdgcooaaGreatMany35
import Derived.Test.YtjlokkjbdgcooaaGreatMany40
import Derived.Test.YtjlokkjbdgcooaaGreatMany41
import Derived.BigQuiet
namespace Go.Proofs.YtjlokkjbdgcooaaGreat
open Mo
open Go.RowKit Go.Sort

/-- What Make told, in one form. -/
theorem makeEnd_is {w w' : World} {C : List Acc} {o : OfT} {M : List Jrn} {e : Ending} (h : MakeEnd w C o M e w') : ∃ A1 c1 A2 c2 L1 L2 ve vs vn, e = .returned (.tuple #[.agg #[.slice A1 (List.length L1) c1, .slice A2 (List.length L2) c2, .int .i64 ve, .int .i64 vs, .int .i64 vn], .int .i64 (incE C o M)]) ∧
    w'.ownsRow w.heap.size 161 2 (.slice A1 (List.length L1) c1) (List.length L1) (bals L1) ∧ w'.ownsRow w.heap.size 161 2 (.slice A2 (List.length L2) c2) (List.length L2) (bals L2) ∧
    Hid (∀ q, (Value.slice A1 (List.length L1) c1).ownBlock = some q → (Value.slice A2 (List.length L2) c2).ownBlock ≠ some q) ∧
    Hid (incE C o M ≠ 0 → L1 = [] ∧ L2 = [] ∧ ve = 0 ∧ vs = 0 ∧ vn = 0) ∧
    Hid (incE C o M = 0 → L1 = inL C (balR o M) ∧ L2 = outL C (balR o M) ∧ ve = earnB C (balR o M) ∧ vs = spentB C (balR o M) ∧ vn = netB C (balR o M)) ∧ Below w.heap.size w w' := by
  obtain ⟨hb, ⟨h0, rfl⟩ | ⟨h0, A1, c1, A2, c2, rfl, h1, h2, h3⟩⟩ := h
  · exact ⟨none, 0, none, 0, [], [], 0, 0, 0, rfl, World.ownsRow_nil _ _ _ _, World.ownsRow_nil _ _ _ _, fun q hq => (by cases hq), fun _ => ⟨rfl, rfl, rfl, rfl, rfl⟩, fun h => absurd h h0, hb⟩
  · exact ⟨A1, c1, A2, c2, _, _, _, _, _, by rw [h0], h1, h2, h3, fun h => absurd h0 h, fun _ => ⟨rfl, rfl, rfl, rfl, rfl⟩, hb⟩

set_option maxRecDepth 100000 in
set_option maxHeartbeats 8000000 in
theorem incomeTells_walk (rows : List Acc) (l : List JR) (A0 A : Option Addr) (n0 n c0 c : Nat) (ent frm til : Int) (w : World) (h0 : Rd w w.heap.size 3 A0 n0 (accs rows)) (h : JlRd w w.heap.size A n l) (hn0 : n0 ≤ maxLen) (hn : n ≤ maxLen) :
    Calls Tryz.prog 6 #[.slice A0 n0 c0, .slice A n c, .int .i64 ent, .int .i64 frm, .int .i64 til] w fun e w' => e = .returned (.bool true) ∧ Below w.heap.size w w' := by
  have kf := Lib.hid (fewM_any 40 (by omega) l A n c _ w h.rd (Nat.le_refl _) hn h.size)
  have KA : Hid (∀ w1, Calls Tryz.prog 42 #[] w1 fun e w' => e = .returned (.bool true) ∧ Below w1.heap.size w1 w') := alive11_any
  have KSET : Hid (∀ w1, Below w.heap.size w w1 → Calls Tryz.prog 32 #[.slice A0 n0 c0, .slice A n c] w1 (SetEnd w1)) := fun w1 hb =>
    trialSet_any rows l A0 A n0 n c0 c w.heap.size w1 (h0.far hb (Nat.le_refl _)) (h.far hb (Nat.le_refl _)) hb.size hn0 hn
  clear h h0 hn hn0
  go_enter Tryz.func6, Tryz.ntmps6
  go_wp2_with fail
  refine kf.out.mono ?_
  rintro e w1 ⟨z, rfl, _, hb1⟩
  have HB1 := Lib.hid hb1
  clear hb1 kf
  cases z
  · go_wp2_with fail
    refine (KA.out _).mono ?_
    rintro e w2 ⟨rfl, hb2⟩
    have HB2 := Lib.hid (HB1.out.trans (hb2.mono HB1.out.size))
    clear hb2
    go_wp2_with fail
    go_ret
    exact ⟨rfl, HB2.out⟩
  go_wp2_with fail
  refine (KA.out _).mono ?_
  rintro e w2 ⟨rfl, hb2⟩
  have HB2 := Lib.hid (HB1.out.trans (hb2.mono HB1.out.size))
  have KS2 := Lib.hid (KSET.out w2 HB2.out)
  clear hb2 KA KSET
  go_wp2_with fail
  refine KS2.out.mono ?_
  rintro e w3 ⟨cb, bb, Bc, Bb, vc, vb, C, lb, Ar, cr, Aj, cj, X, rfl, hC, hT, hl, hG, hX40, hAC, hJ, hGA, hC30, hb3⟩
  have HB3 := Lib.hid (HB2.out.trans (hb3.mono HB2.out.size))
  have hc : lb.length ≤ 100 := by
    have := congrArg List.length hl
    rw [List.length_map, List.length_map] at this
    omega
  obtain ⟨M, hM⟩ : ∃ M, lb.map JR.j = M := ⟨_, rfl⟩
  have hok : ∀ j ∈ M, checkE j = 0 := fun j hj => by
    rw [← hM] at hj
    obtain ⟨a, ha, rfl⟩ := List.mem_map.1 hj
    exact hT.ok a ha
  have hXM : X.map JR.j = M := by rw [← hl, hM]
  have hokX : ∀ a ∈ X, checkE a.j = 0 := fun a ha => hok _ (by rw [← hXM]; exact List.mem_map.2 ⟨a, ha, rfl⟩)
  have hml : M.length ≤ 40 := by rw [← hXM, List.length_map]; exact hX40
  have hgl : (balsOf (gathL (pkL ⟨ent, frm, til⟩) M)).length ≤ 320 := by
    rw [balsOf_len]
    have := gathL_len (pk := pkL ⟨ent, frm, til⟩) (l := M) fun j hj => pkL_le8 (hok j hj)
    omega
  have HGL := Lib.hid hgl
  obtain ⟨W4, hW4⟩ : ∃ W4, w3.alloc (.cells #[.int .i64 ent, .int .i64 frm, .int .i64 til] 80) = W4 := ⟨_, rfl⟩
  have hb4 : Below w3.heap.size w3 W4 := by rw [← hW4]; exact (Below.refl _ _).alloc (Nat.le_refl _) _
  have hz4 : W4.heap.size = w3.heap.size + 1 := by rw [← hW4]; simp
  have x0 : W4.cell? ⟨w3.heap.size, 0, none⟩ = some (.int .i64 ent) := by rw [← hW4]; exact box_cell 0
  have x1 : W4.cell? ⟨w3.heap.size, 1, none⟩ = some (.int .i64 frm) := by rw [← hW4]; exact box_cell 1
  have x2 : W4.cell? ⟨w3.heap.size, 2, none⟩ = some (.int .i64 til) := by rw [← hW4]; exact box_cell 2
  have kr := refBals_any ⟨ent, frm, til⟩ X Aj X.length cj w3.heap.size W4 (hJ.far hb4 (Nat.le_refl _)) hb4.size (by omega) hokX
  rw [hXM] at kr
  have KR := Lib.hid kr
  have HW4 := Lib.hid hW4
  have HB4 := Lib.hid (HB3.out.trans (hb4.mono HB3.out.size))
  have HT4 := Lib.hid (hT.below hb4)
  have HC4 := Lib.hid (hC.below hb4)
  have HA4 := Lib.hid (hAC.far hb4 (Nat.le_refl _))
  have HX0 := Lib.hid x0; have HX1 := Lib.hid x1; have HX2 := Lib.hid x2
  have HZ4 : Hid (w3.heap.size < W4.heap.size) := by unfold Hid; omega
  have HM := Lib.hid hM; have HGA := Lib.hid hGA
  clear hT hl hG hM KS2 hb3 hok hXM hokX hgl hW4 hb4 hz4 x0 x1 x2 hJ kr hml hC hAC hGA
  obtain ⟨m, hm⟩ : ∃ m, C.length = m := ⟨_, rfl⟩
  rw [hm] at HA4 hC30 ⊢
  have HMC := Lib.hid hm
  clear hm
  go_wp2_with fail
  rw [HW4.out]
  refine KR.out.mono ?_
  rintro e w5 hbe
  obtain ⟨Aw, cw, R, rfl, hR, hownR, hb5⟩ := balEnd_is hbe
  have hRR := balIs_R hR
  have HB5 := Lib.hid (HB4.out.trans (hb5.mono HB4.out.size))
  have HT5 := Lib.hid (HT4.out.below hb5)
  have HC5 := Lib.hid (HC4.out.below hb5)
  have HA5 := Lib.hid (HA4.out.far hb5 (Nat.le_of_lt HZ4.out))
  have HRW : Hid (Rd w5 w5.heap.size 2 Aw R.length (bals R)) := rd_of_own hownR
  have HX05 : Hid (w5.cell? ⟨w3.heap.size, 0, none⟩ = some (.int .i64 ent)) := (hb5.cell (p := ⟨w3.heap.size, 0, none⟩) HZ4.out).trans HX0.out
  have HX15 : Hid (w5.cell? ⟨w3.heap.size, 1, none⟩ = some (.int .i64 frm)) := (hb5.cell (p := ⟨w3.heap.size, 1, none⟩) HZ4.out).trans HX1.out
  have HX25 : Hid (w5.cell? ⟨w3.heap.size, 2, none⟩ = some (.int .i64 til)) := (hb5.cell (p := ⟨w3.heap.size, 2, none⟩) HZ4.out).trans HX2.out
  have HZ5 : Hid (w3.heap.size < w5.heap.size) := Nat.lt_of_lt_of_le HZ4.out hb5.size
  have hrl : R.length ≤ 320 := Nat.le_trans hR.len HGL.out
  have hfa : balE ⟨ent, frm, til⟩ M = 0 → fitsAll (amts R) = true := fun h => (hR.1 h).fits (balE_zero h).2
  have hie1 : balE ⟨ent, frm, til⟩ M ≠ 0 → incE C ⟨ent, frm, til⟩ M = balE ⟨ent, frm, til⟩ M := fun h => by unfold incE; rw [if_neg h]
  have hie2 : balE ⟨ent, frm, til⟩ M = 0 → incE C ⟨ent, frm, til⟩ M = if incFits C R = true then 0 else 2 := fun h => by unfold incE; rw [if_pos h, ← hRR]
  have hLen : incE C ⟨ent, frm, til⟩ M = 0 → (inL C (balR ⟨ent, frm, til⟩ M)).length ≤ 320 ∧ (outL C (balR ⟨ent, frm, til⟩ M)).length ≤ 320 := fun _ => by
    rw [← hRR]
    unfold inL outL
    rw [negB_len]
    exact ⟨Nat.le_trans (pickB_len _ _) hrl, Nat.le_trans (pickB_len _ _) hrl⟩
  obtain ⟨W6, hW6⟩ : ∃ W6, w5.alloc (.cells #[.slice none 0 0, .slice none 0 0, .slice none 0 0, .slice none 0 0, .slice none 0 0, .slice none 0 0, .slice none 0 0, .slice none 0 0, .slice none 0 0, .slice none 0 0, .slice none 0 0, .slice none 0 0, .slice none 0 0, .slice none 0 0, .slice none 0 0, .slice none 0 0, .slice none 0 0, .slice none 0 0, .slice none 0 0, .slice none 0 0] 45) = W6 := ⟨_, rfl⟩
  have hb6 : Below w5.heap.size w5 W6 := by rw [← hW6]; exact (Below.refl _ _).alloc (Nat.le_refl _) _
  have hk6 : BookAt W6 w5.heap.size fun _ => .slice none 0 0 := by rw [← hW6]; exact heap_new w5 _
  have HK6 : Hid (KeptBP W6 w5.heap.size w5.heap.size (fun _ => False) 0 0) := KeptBP.new hk6 (Nat.le_refl _)
  have HW6 := Lib.hid hW6; have HB6 := Lib.hid hb6
  have HFA := Lib.hid hfa; have HIE1 := Lib.hid hie1; have HIE2 := Lib.hid hie2; have HLEN := Lib.hid hLen
  have HRR := Lib.hid hRR
  clear hbe hR hownR hb5 KR HT4 HX0 HX1 HX2 hW6 hb6 hk6 hfa hie1 hie2 hRR HC4 HA4 hLen
  obtain ⟨E, hEE⟩ : ∃ E, balE ⟨ent, frm, til⟩ M = E := ⟨_, rfl⟩
  obtain ⟨I, hII⟩ : ∃ I, incE C ⟨ent, frm, til⟩ M = I := ⟨_, rfl⟩
  have HII := Lib.hid hII
  rw [hEE] at HFA HIE1 HIE2 ⊢
  rw [hII] at HIE1 HIE2 HLEN
  clear hEE hII
  go_wp2_with fail
  rw [HW6.out]
  go_loopw [20] (fun iv wr => ∃ k : Nat, k ≤ 2 ∧ iv = .int .i64 k ∧ KeptBP wr w5.heap.size w5.heap.size (fun _ => False) (2 * k) 0 ∧ Below w5.heap.size w5 wr) (fun iv _ => 2 - (intOf iv).toNat)
  case atStart => exact ⟨0, by omega, rfl, HK6.out, HB6.out⟩
  case round =>
    obtain ⟨k, hk, rfl, hkept, hbel⟩ := hrel
    have HK := Lib.hid hkept; have HB := Lib.hid hbel
    have x0 := (hbel.cell (p := ⟨w3.heap.size, 0, none⟩) HZ5.out).trans HX05.out
    have x1 := (hbel.cell (p := ⟨w3.heap.size, 1, none⟩) HZ5.out).trans HX15.out
    have x2 := (hbel.cell (p := ⟨w3.heap.size, 2, none⟩) HZ5.out).trans HX25.out
    have hzr := hbel.size
    clear hkept
    by_cases hlt : k < 2
    · have km := make_any Bc cb Bb bb vc vb C lb M ⟨ent, frm, til⟩ wr (HC5.out.below hbel) (HT5.out.below hbel) hc HM.out (by have := HGL.out; omega) HGA.out (by have := HMC.out; omega)
      have KM := Lib.hid km
      have hkI : (k : Int) < 2 := by omega
      unfold OfT.val at KM
      dsimp only at KM
      clear km hbel
      go_wp2_with fail
      refine KM.out.mono ?_
      rintro e w7 hme
      obtain ⟨A1, c1, A2, c2, L1, L2, ve, vs, vn, rfl, hown1, hown2, HD, HN, HY, hb7⟩ := makeEnd_is hme
      rw [HII.out] at HN HY ⊢
      have hz7 := hb7.size
      have hln : L1.length ≤ 320 ∧ L2.length ≤ 320 := by
        by_cases h0 : I = 0
        · obtain ⟨h1, h2, _⟩ := HY.out h0
          obtain ⟨h3, h4⟩ := HLEN.out h0
          rw [h1, h2]
          exact ⟨h3, h4⟩
        · obtain ⟨h1, h2, _⟩ := HN.out h0
          rw [h1, h2]
          exact ⟨Nat.zero_le _, Nat.zero_le _⟩
      obtain ⟨hln1, hln2⟩ := hln
      obtain ⟨W8, hW8⟩ : ∃ W8, w7.alloc (.cells #[.slice A1 L1.length c1, .slice A2 L2.length c2, .int .i64 ve, .int .i64 vs, .int .i64 vn] 97) = W8 := ⟨_, rfl⟩
      have hb8 : Below w7.heap.size w7 W8 := by rw [← hW8]; exact (Below.refl _ _).alloc (Nat.le_refl _) _
      have hh8 : W8.heap[w7.heap.size]? = some (.cells #[.slice A1 L1.length c1, .slice A2 L2.length c2, .int .i64 ve, .int .i64 vs, .int .i64 vn] 97 (0, 0)) := by rw [← hW8]; exact heap_new w7 _
      have hb78 : Below wr.heap.size wr W8 := hb7.trans (hb8.mono hz7)
      have h18 := own_kept hown1 fun q hq _ => hb8.block q hq
      have h28 := own_kept hown2 fun q hq _ => hb8.block q hq
      have hk8 : KeptBP W8 w5.heap.size w5.heap.size (fun q => (fun q => (Value.slice A2 L2.length c2).ownBlock = some q) q ∨ (Value.slice A1 L1.length c1).ownBlock = some q) (2 * k) 0 :=
        (HK.out.more fun q hq => .inr (hq.elim (fun h => own_ge hown2 q h) fun h => own_ge hown1 q h)).below hb78
      have kk1 := keepBals_any w5.heap.size w5.heap.size (2 * k) 0 L1.length c1 wr.heap.size _ A1 L1 W8 hk8 (by omega) h18 (by omega) hzr fun q hq => ⟨own_lt h28 q hq, fun h => HD.out q h hq⟩
      have KK1 := Lib.hid kk1
      have HO2 := Lib.hid h28; have HO1 := Lib.hid h18; have HH8 := Lib.hid hh8; have HW8 := Lib.hid hW8
      have HB8 : Hid (Below w5.heap.size w5 W8) := HB.out.trans (hb78.mono hzr)
      clear x0 x1 x2
      have y0 := cell_of hh8 0
      have y1 := cell_of hh8 1
      dsimp at y0 y1
      clear hme hown1 hown2 hb7 hb8 hh8 hb78 h18 h28 hk8 kk1 KM hW8
      go_wp2_with fail
      rw [HW8.out]
      go_wp2_with fail
      refine KK1.out.mono ?_
      rintro e w9 ⟨rfl, hk9, hb9, ho9⟩
      have h19 := ho9.own HO1.out (by decide)
      have h29 := ho9.own HO2.out (by decide)
      have hh9 := (ho9 _ _ _ HH8.out (by decide)).trans HH8.out
      have kk2 := keepBals_any w5.heap.size w5.heap.size (2 * k + 1) 0 L2.length c2 wr.heap.size (fun _ => False) A2 L2 w9 (hk9.more fun q hq => .inl (hq.elim False.elim id)) (by omega) h29 (by omega) hzr fun q hq => hq.elim
      have KK2 := Lib.hid kk2
      have H19 := Lib.hid h19; have H29 := Lib.hid h29; have HH9 := Lib.hid hh9
      have HB9 : Hid (Below w5.heap.size w5 w9) := HB8.out.trans hb9
      clear y0 y1
      have y0 := cell_of hh9 0
      have y1 := cell_of hh9 1
      dsimp at y0 y1
      clear hk9 hb9 ho9 h19 h29 hh9 kk2 KK1 HO1 HO2 HH8
      go_wp2_with fail
      refine KK2.out.mono ?_
      rintro e w10 ⟨rfl, hk10, hb10, ho10⟩
      have hx10 := rd_of_own (ho10.own H19.out (by decide))
      have hy10 := rd_of_own (ho10.own H29.out (by decide))
      have hh10 := (ho10 _ _ _ HH9.out (by decide)).trans HH9.out
      have HB10 : Hid (Below w5.heap.size w5 w10) := HB9.out.trans hb10
      have HK10 : Hid (KeptBP w10 w5.heap.size w5.heap.size (fun _ => False) (2 * (k + 1)) 0) := by rw [show 2 * (k + 1) = 2 * k + 1 + 1 by omega]; exact hk10
      have HX10 := Lib.hid hx10; have HY10 := Lib.hid hy10; have HH10 := Lib.hid hh10
      have e1 : (E != E) = false := by simp
      clear y0 y1
      have y0 := cell_of hh10 0
      have y1 := cell_of hh10 1
      have y2 := cell_of hh10 2
      have y3 := cell_of hh10 3
      have y4 := cell_of hh10 4
      dsimp at y0 y1 y2 y3 y4
      clear hk10 hb10 ho10 hx10 hy10 hh10 KK2 H19 H29 HH9 HB9
      by_cases hE : E = 0
      · have hie := HIE2.out hE
        have hfa := HFA.out hE
        have kp1 := refPick_any true 4 C R Ar Aw m cr R.length cw w5.heap.size w10 ((HA5.out.far HB10.out (Nat.le_of_lt HZ5.out)).wide (Nat.le_of_lt HZ5.out)) (HRW.out.far HB10.out (Nat.le_refl _)) HB10.out.size (by omega) (by omega) hfa
        rw [pkR_in HGA.out, sum_in] at kp1
        have KP1 := Lib.hid kp1
        have HF := Lib.hid hfa; have HIE := Lib.hid hie
        subst hE
        clear kp1 hfa hie
        obtain ⟨Ve, hVe⟩ : ∃ x, earnB C R = x := ⟨_, rfl⟩
        obtain ⟨Vs, hVs⟩ : ∃ x, spentB C R = x := ⟨_, rfl⟩
        obtain ⟨Z, hZ⟩ : ∃ x, incFits C R = x := ⟨_, rfl⟩
        have HVE := Lib.hid hVe; have HVS := Lib.hid hVs; have HZZ := Lib.hid hZ
        rw [hVe] at KP1
        rw [hZ] at HIE
        clear hVe hVs hZ
        go_wp2_with fail
        refine KP1.out.mono ?_
        rintro e w11 ⟨A11, c11, rfl, hown11, hb11⟩
        have hz10 := HB10.out.size
        have HB11 : Hid (Below w5.heap.size w5 w11) := HB10.out.trans (hb11.mono hz10)
        have HK11 := Lib.hid (HK10.out.below hb11)
        have HX11 := Lib.hid ((HX10.out.below hb11).wide hb11.size)
        have HY11 := Lib.hid ((HY10.out.below hb11).wide hb11.size)
        have hh11 := (hb11.block _ (lt_of_blk HH10.out)).trans HH10.out
        have HH11 := Lib.hid hh11
        have HI11 := Lib.hid (rd_of_own hown11)
        have kp2 := refPick_any false 5 C R Ar Aw m cr R.length cw w5.heap.size w11 ((HA5.out.far HB11.out (Nat.le_of_lt HZ5.out)).wide (Nat.le_of_lt HZ5.out)) (HRW.out.far HB11.out (Nat.le_refl _)) HB11.out.size (by omega) (by omega) HF.out
        rw [pkR_out HGA.out, sum_out, HVS.out] at kp2
        have KP2 := Lib.hid kp2
        clear kp2 hown11 hb11 hh11 KP1 HX10 HY10 HH10 HK10 y0 y1 y2 y3 y4
        go_wp2_with fail
        refine KP2.out.mono ?_
        rintro e w12 ⟨A12, c12, rfl, hown12, hb12⟩
        have HB12 : Hid (Below w5.heap.size w5 w12) := HB11.out.trans (hb12.mono HB11.out.size)
        have HK12 := Lib.hid (HK11.out.below hb12)
        have HX12 := Lib.hid ((HX11.out.below hb12).wide hb12.size)
        have HY12 := Lib.hid ((HY11.out.below hb12).wide hb12.size)
        have HI12 := Lib.hid ((HI11.out.below hb12).wide hb12.size)
        have HO12 := Lib.hid (rd_of_own hown12)
        have hh12 := (hb12.block _ (lt_of_blk HH11.out)).trans HH11.out
        have HH12 := Lib.hid hh12
        have kn := refNet_any C R Ar Aw m cr R.length cw w5.heap.size w12 ((HA5.out.far HB12.out (Nat.le_of_lt HZ5.out)).wide (Nat.le_of_lt HZ5.out)) (HRW.out.far HB12.out (Nat.le_refl _)) HB12.out.size (by omega) (by omega) HF.out HGA.out
        rw [HVE.out, HVS.out, HZZ.out] at kn
        have KN := Lib.hid kn
        clear kn hown12 hb12 hh12 KP2 HX11 HY11 HH11 HK11 HI11
        go_wp2_with fail
        refine KN.out.mono ?_
        rintro e w13 ⟨rfl, hb13⟩
        have HB13 : Hid (Below w5.heap.size w5 w13) := HB12.out.trans (hb13.mono HB12.out.size)
        have HK13 := Lib.hid (HK12.out.below hb13)
        have HX13 := Lib.hid ((HX12.out.below hb13).wide hb13.size)
        have HY13 := Lib.hid ((HY12.out.below hb13).wide hb13.size)
        have HI13 := Lib.hid ((HI12.out.below hb13).wide hb13.size)
        have HO13 := Lib.hid ((HO12.out.below hb13).wide hb13.size)
        have hh13 := (hb13.block _ (lt_of_blk HH12.out)).trans HH12.out
        have HH13 := Lib.hid hh13
        have y0 := cell_of hh13 0
        have y1 := cell_of hh13 1
        have y2 := cell_of hh13 2
        have y3 := cell_of hh13 3
        have y4 := cell_of hh13 4
        dsimp at y0 y1 y2 y3 y4
        clear hb13 hh13 KN HX12 HY12 HH12 HK12 HI12 HO12
        have hil : (inL C R).length = (inL C R).length := rfl
        cases Z
        · have hI2 : I = 2 := HIE.out
          obtain ⟨r1, r2, r3, r4, r5⟩ := HN.out (by rw [hI2]; decide)
          subst r1 r2 r3 r4 r5 hI2
          go_wp2_with fail
          exact ⟨⟨k + 1, by omega, by go_num, HK13.out, HB13.out⟩, by simp [intOf]; omega⟩
        · have hI0 : I = 0 := HIE.out
          obtain ⟨r1, r2, r3, r4, r5⟩ := HY.out hI0
          rw [← HRR.out] at r1 r2 r3 r4 r5
          have hvn : vn = Ve - Vs := by rw [r5]; unfold netB; rw [HVE.out, HVS.out]
          rw [HVE.out] at r3
          rw [HVS.out] at r4
          have hz := HZZ.out
          unfold incFits netB at hz
          rw [HVE.out, HVS.out, Bool.and_eq_true, Bool.and_eq_true] at hz
          have g3 := fits1_iff.1 hz.2.2
          have hw : IntKind.i64.wrap (Ve - Vs) = Ve - Vs := by rw [IntKind.wrap_i64]; omega
          rw [← r1] at HI13 ⊢
          rw [← r2] at HO13 ⊢
          subst r3 r4 hI0 hvn
          have q1 : (ve != ve) = false := by simp
          have q2 : (vs != vs) = false := by simp
          have q3 : (ve - vs != ve - vs) = false := by simp
          have ks1 := sameBalances_any L1 L1 A1 A11 L1.length L1.length c1 c11 _ _ w13 HX13.out HI13.out (by omega) (by omega)
          rw [beq_self_eq_true L1] at ks1
          have KS1 := Lib.hid ks1
          clear ks1 hz g3 r5 r1 r2
          go_wp2_with fail
          refine KS1.out.mono ?_
          rintro e w14 ⟨rfl, hd⟩
          have hb14 : Below w13.heap.size w13 w14 := hd.below
          have HB14 : Hid (Below w5.heap.size w5 w14) := HB13.out.trans (hb14.mono HB13.out.size)
          have HK14 := Lib.hid (HK13.out.below hb14)
          have hh14 := (hb14.block _ (lt_of_blk HH13.out)).trans HH13.out
          clear y0 y1 y2 y3 y4
          have y1 := cell_of hh14 1
          dsimp at y1
          have ks2 := sameBalances_any L2 L2 A2 A12 L2.length L2.length c2 c12 _ _ w14 (HY13.out.below hb14) (HO13.out.below hb14) (by omega) (by omega)
          rw [beq_self_eq_true L2] at ks2
          have KS2 := Lib.hid ks2
          clear hd hb14 ks2 KS1 HX13 HY13 HI13 HO13 HK13 hh14
          go_wp2_with fail
          refine KS2.out.mono ?_
          rintro e w15 ⟨rfl, hd⟩
          have hb15 : Below w14.heap.size w14 w15 := hd.below
          have HB15 : Hid (Below w5.heap.size w5 w15) := HB14.out.trans (hb15.mono HB14.out.size)
          have HK15 := Lib.hid (HK14.out.below hb15)
          clear hd hb15 KS2
          go_wp2_with fail
          exact ⟨⟨k + 1, by omega, by go_num, HK15.out, HB15.out⟩, by simp [intOf]; omega⟩
      · have hI := HIE1.out hE
        have hI0 : I ≠ 0 := by rw [hI]; exact hE
        obtain ⟨r1, r2, r3, r4, r5⟩ := HN.out hI0
        subst r1 r2 r3 r4 r5 hI
        have t1 : (I != 0) = true := by simpa using hI0
        clear hE hI0
        go_wp2_with fail
        exact ⟨⟨k + 1, by omega, by go_num, HK10.out, HB10.out⟩, by simp [intOf]; omega⟩
    · obtain rfl : k = 2 := by omega
      have KN1 := Lib.hid (make_nil ⟨ent, frm, til⟩ (.pointer (some ⟨bb, 0, none⟩)) wr)
      unfold OfT.val at KN1
      dsimp only at KN1
      clear hbel
      go_wp2_with fail
      refine KN1.out.mono ?_
      rintro e w7 ⟨rfl, hb7⟩
      have HK7 := Lib.hid (HK.out.below hb7)
      have HB7 : Hid (Below w5.heap.size w5 w7) := HB.out.trans (hb7.mono hzr)
      obtain ⟨W8, hW8⟩ : ∃ W8, w7.alloc (.cells #[.slice none 0 0, .slice none 0 0, .int .i64 0, .int .i64 0, .int .i64 0] 97) = W8 := ⟨_, rfl⟩
      have hb8 : Below w7.heap.size w7 W8 := by rw [← hW8]; exact (Below.refl _ _).alloc (Nat.le_refl _) _
      have HK8 := Lib.hid (HK7.out.below hb8)
      have HB8 : Hid (Below w5.heap.size w5 W8) := HB7.out.trans (hb8.mono HB7.out.size)
      have HW8 := Lib.hid hW8
      have KN2 := Lib.hid (ofS_nil Aw R.length cw W8)
      clear hb7 KN1 x0 x1 x2 hb8 hW8
      unfold zeroS
      go_wp2_with fail
      rw [HW8.out]
      refine KN2.out.mono ?_
      rintro e w9 ⟨rfl, hb9⟩
      have HK9 := Lib.hid (HK8.out.below hb9)
      have HB9 : Hid (Below w5.heap.size w5 w9) := HB8.out.trans (hb9.mono HB8.out.size)
      obtain ⟨W10, hW10⟩ : ∃ W10, w9.alloc (.cells #[.slice none 0 0, .slice none 0 0, .int .i64 0, .int .i64 0, .int .i64 0] 97) = W10 := ⟨_, rfl⟩
      have hb10 : Below w9.heap.size w9 W10 := by rw [← hW10]; exact (Below.refl _ _).alloc (Nat.le_refl _) _
      have HB10 : Hid (Below w5.heap.size w5 W10) := HB9.out.trans (hb10.mono HB9.out.size)
      have HW10 := Lib.hid hW10
      have KAP := Lib.hid (apartBP_any w5.heap.size w5.heap.size (2 * 2) 0 _ W10 (HK9.out.below hb10) (by omega) (by omega))
      clear hb9 hb10 hW10 KN2 HK7 HK8
      unfold zeroS
      go_wp2_with fail
      rw [HW10.out]
      refine KAP.out.mono ?_
      rintro e w11 ⟨rfl, hb11⟩
      have HB11 : Hid (Below w.heap.size w w11) := HB5.out.trans ((HB10.out.trans hb11).mono HB5.out.size)
      clear hb11
      go_wp2_with fail
      go_ret
      exact ⟨rfl, HB11.out⟩
end Go.Proofs.YtjlokkjbdgcooaaGreat

