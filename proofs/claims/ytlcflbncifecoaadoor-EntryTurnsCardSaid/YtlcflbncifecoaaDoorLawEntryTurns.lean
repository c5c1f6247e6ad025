/-
  The walk of the statement EntryTurns.
-/
-- HOLE3: obtain ⟨j0, A0, n0, c0, rfl, q0, r0, s0⟩ := argJrn hf0
-- exact entryTurns_walk j0 A0 n0 c0 a1 a2 W G q0.rd q0.len s0
import Derived.Test.YtlcflbncifecoaaDoorRefReverse
import Derived.Test.YtlcflbncifecoaaDoorRefCopy
import Derived.Test.YtlcflbncifecoaaDoorEntrySmall
import Derived.Test.YtlcflbncifecoaaDoorTurnsRest
import Derived.Test.YtlcflbncifecoaaDoorSpoiltRest
import Derived.Test.YtlcflbncifecoaaDoorArgJrn
namespace Go.Proofs.YtlcflbncifecoaaDoor
open Go.RowKit Go.Sort

theorem rev_form {w w' : World} {j V : Jrn} {id per E : Int} {e : Ending} (hV : revV j id per = V) (hE : revE j id per = E) (h : RevEnd w j id per e w') :
    ∃ A n c, e = .returned (.tuple #[.agg #[.int .i64 V.id, .int .i64 V.ent, .int .i64 V.per, .string V.ref, .slice A n c, .bool V.void], .int .i64 E]) ∧ w'.ownsRow w.heap.size 44 3 (.slice A n c) n (lins V.lines) ∧ Below w.heap.size w w' := by
  subst hV hE
  exact h
theorem revV_len (j : Jrn) (id per : Int) : (revV j id per).lines.length ≤ j.lines.length ∧ (revV j id per).ref.size = 0 := by
  unfold revV
  split
  · exact ⟨Nat.le_of_eq (turnL_len _), rfl⟩
  · exact ⟨Nat.zero_le _, rfl⟩
theorem jat_below {w w' : World} {q n c : Nat} {j : Jrn} {A : Option Addr} (h : JAt w q j A n c) (hb : Below w.heap.size w w') : JAt w' q j A n c := (hb.block _ (lt_of_blk h)).trans h

set_option maxRecDepth 100000 in
set_option maxHeartbeats 4000000 in
theorem entryTurns_walk (j : Jrn) (A : Option Addr) (n c : Nat) (id per : Int) (w : World) (G : Glob w) (h : Rd w w.heap.size 3 A n (lins j.lines)) (hn : n ≤ maxLen) (hs : j.ref.size ≤ maxLen) :
    Calls Tryd.prog 4 #[j.val A n c, .int .i64 id, .int .i64 per] w fun e w' => e = .returned (.bool true) ∧ Below w.heap.size w w' := by
  have HL := Lib.hid h.lins_len
  obtain ⟨W2, hW2⟩ : ∃ W2, (w.alloc (.cells #[.int .i64 j.id, .int .i64 j.ent, .int .i64 j.per, .string j.ref, .slice A n c, .bool j.void] 24)).alloc (.cells #[.int .i64 j.id, .int .i64 j.ent, .int .i64 j.per, .string j.ref, .slice A n c, .bool j.void] 24) = W2 := ⟨_, rfl⟩
  have HW2 := Lib.hid hW2
  have hb2 : Below w.heap.size w W2 := by rw [← hW2]; exact ((Below.refl _ _).alloc (Nat.le_refl _) _).alloc (by simp) _
  have hjb : JAt W2 w.heap.size j A n c := by
    rw [← hW2]
    exact (Below.heap_alloc _ _ _ (by simp)).trans (heap_new w _)
  have ks := small_two j A n c w (.cells #[.int .i64 j.id, .int .i64 j.ent, .int .i64 j.per, .string j.ref, .slice A n c, .bool j.void] 24) _ rfl
  rw [hW2] at ks
  have KS := Lib.hid ks
  have ka := Lib.hid (fun w1 (hb : Below W2.heap.size W2 w1) => alive_any w1 ((G.below hb2).below hb))
  have HB2 := Lib.hid hb2
  have HJB := Lib.hid hjb
  cases hsm : smallB j n
  · rw [hsm] at KS
    clear hW2 hb2 hjb ks h
    unfold Jrn.val
    go_enter Tryd.func4, Tryd.ntmps4
    go_wp2_with fail
    rw [HW2.out]
    refine KS.out.mono ?_
    rintro e w1 ⟨rfl, rfl⟩
    go_wp2_with fail
    refine (ka.out _ (Below.refl _ _)).mono ?_
    rintro e w2 ⟨rfl, hb3⟩
    have HB3 := Lib.hid hb3
    clear hb3
    go_wp2_with fail
    go_ret
    exact ⟨rfl, HB2.out.trans (HB3.out.mono HB2.out.size)⟩
  · rw [hsm] at KS
    have hn30 : n ≤ 30 := by
      unfold smallB at hsm
      rw [Bool.and_eq_true, decide_eq_true_eq, decide_eq_true_eq] at hsm
      exact hsm.2
    have HRD := Lib.hid (fun w1 (hb : Below W2.heap.size W2 w1) => h.far (hb2.trans (hb.mono hb2.size)) (Nat.le_refl _))
    clear hW2 hb2 hjb ks h
    obtain ⟨V, hV⟩ : ∃ V, revV j id per = V := ⟨_, rfl⟩
    obtain ⟨E, hE⟩ : ∃ E, revE j id per = E := ⟨_, rfl⟩
    have hVl : V.lines.length ≤ 30 ∧ V.ref.size = 0 := by
      have h1 := revV_len j id per
      have h2 := HL.out
      rw [hV] at h1
      exact ⟨by omega, h1.2⟩
    have HVL := Lib.hid hVl
    have HKR := Lib.hid (fun (A' : Option Addr) (c' : Nat) (w1 : World) (h1 : Rd w1 w1.heap.size 3 A' n (lins j.lines)) => (reverse_any j A' n c' w1.heap.size id per w1 h1 (Nat.le_refl _) hn hs).mono fun e w' h => rev_form hV hE h)
    have HKF := Lib.hid (fun (w1 : World) (hb : Below W2.heap.size W2 w1) => (refReverse_any j A n c w.heap.size id per w1 (HRD.out w1 hb) (Nat.le_trans HB2.out.size hb.size) hn).mono fun e w' h => rev_form hV hE h)
    have HSV := Lib.hid (fun (A1 A2 : Option Addr) (n1 n2 c1 c2 : Nat) (w1 : World) (h1 : Rd w1 w1.heap.size 3 A1 n1 (lins V.lines)) (h2 : Rd w1 w1.heap.size 3 A2 n2 (lins V.lines)) (hn1 : n1 ≤ maxLen) (hn2 : n2 ≤ maxLen) => (refSame_any V V A1 A2 n1 n2 c1 c2 w1.heap.size w1.heap.size w1 h1 h2 (Nat.le_refl _) (Nat.le_refl _) hn1 hn2).mono fun e w' h => (⟨by rw [h.1, sameJ_iff.2 rfl], h.2⟩ : e = .returned (.bool true) ∧ Below w1.heap.size w1 w'))
    have HVE : Hid (revV j id per = V ∧ revE j id per = E) := ⟨hV, hE⟩
    clear hV hE hVl
    unfold Jrn.val at *
    go_enter Tryd.func4, Tryd.ntmps4
    go_wp2_with fail
    rw [HW2.out]
    refine KS.out.mono ?_
    rintro e w1 ⟨rfl, rfl⟩
    go_wp2_with fail
    refine (ka.out _ (Below.refl _ _)).mono ?_
    rintro e w2 ⟨rfl, hb3⟩
    have hj2 : JAt w2 w.heap.size j A n c := jat_below HJB.out hb3
    obtain ⟨b0, b1, b2, b3, b4, b5⟩ := six_cells hj2
    have hlt2 : w.heap.size < w2.heap.size := lt_of_blk hj2
    have HB3 := Lib.hid hb3
    clear hb3 hj2 ka KS HW2
    go_wp2_with fail
    clear b0 b1 b2 b3 b4 b5
    obtain ⟨W3, hW3⟩ : ∃ W3, w2.alloc (.cells #[.int .i64 j.id, .int .i64 j.ent, .int .i64 j.per, .string j.ref, .slice A n c, .bool j.void] 24) = W3 := ⟨_, rfl⟩
    rw [hW3]
    have hb23 : Below W2.heap.size W2 W3 := by rw [← hW3]; exact HB3.out.alloc HB3.out.size _
    have hm3 : JAt W3 w2.heap.size j A n c := by rw [← hW3]; exact heap_new w2 _
    obtain ⟨mb, hmb⟩ : ∃ mb, w2.heap.size = mb := ⟨_, rfl⟩
    rw [hmb] at hm3 ⊢
    have hz2 : W2.heap.size ≤ mb := by rw [← hmb]; exact HB3.out.size
    clear hW3 hmb hlt2 HB3
    refine (lentLines_any j.lines A n c w.heap.size W3 (HRD.out W3 hb23) (by omega)).mono ?_
    rintro e w3 ⟨g, cap, rfl, hl3, hb33⟩
    have hm33 : JAt w3 mb j A n c := jat_below hm3 hb33
    have hb2w3 : Below W2.heap.size W2 w3 := hb23.trans (hb33.mono hb23.size)
    obtain ⟨W4, hW4⟩ : ∃ W4, w3.setCell ⟨mb, 4, none⟩ (.slice (some ⟨g, 0, none⟩) n cap) = W4 := ⟨_, rfl⟩
    have hm4 : JAt W4 mb j (some ⟨g, 0, none⟩) n cap := by rw [← hW4]; exact set_here hm33
    have hk4 : Kp (fun q => q = mb) w3 W4 := by rw [← hW4]; exact Kp.setCell (S := fun q => q = mb) (p := ⟨mb, 4, none⟩) (Kp.refl _ _) (Eq.refl mb) _
    have hl4 : LentLins W4 W3.heap.size g cap j.lines := own_kept hl3 fun q hq ho => hk4.block q hq (by
      have := own_ge hl3 q ho
      have := lt_of_blk hm3
      intro e
      omega)
    have hb24 : Below W2.heap.size W2 W4 := hb2w3.trans (hk4.below (by rintro q rfl; exact hz2) hb2w3.size)
    obtain ⟨m0, m1, m2, m3, m4, m5⟩ := six_cells hm33
    have mf := warm_of hm33 4
    have HM4 := Lib.hid hm4
    have HL4 := Lib.hid hl4
    have HB4 := Lib.hid hb24
    have HW4 := Lib.hid hW4
    clear hm4 hk4 hl4 hb24 hb2w3 hm33 hl3 hb33 hb23 hm3 hW4
    go_wp2_with fail
    rw [HW4.out]
    clear HW4 m0 m1 m2 m3 m4 m5 mf
    refine (HKR.out (some ⟨g, 0, none⟩) cap W4 (by have := HL4.out.rd; rw [HL.out] at this; exact this)).mono ?_
    rintro e w5 ⟨A5, n5, c5, rfl, hown5, hb5⟩
    have hb25 : Below W2.heap.size W2 w5 := HB4.out.trans (hb5.mono HB4.out.size)
    have hj5 : JAt w5 w.heap.size j A n c := jat_below HJB.out hb25
    have hm5 : JAt w5 mb j (some ⟨g, 0, none⟩) n cap := jat_below HM4.out hb5
    have hl5 := HL4.out.below hb5
    have hn5 : n5 ≤ 30 := by have h1 := (rd_of_own hown5).lins_len; have := HVL.out.1; omega
    obtain ⟨b0, b1, b2, b3, b4, b5⟩ := six_cells hj5
    have hlt5 : w.heap.size < w5.heap.size := lt_of_blk hj5
    have HB5 := Lib.hid hb25
    have HM5 := Lib.hid hm5
    have HL5 := Lib.hid hl5
    have HO5 := Lib.hid hown5
    clear hb25 hj5 hm5 hl5 hown5 hb5 HM4 HL4 HB4 HKR
    go_wp2_with fail
    clear b0 b1 b2 b3 b4 b5
    obtain ⟨W6, hW6⟩ : ∃ W6, w5.alloc (.cells #[.int .i64 V.id, .int .i64 V.ent, .int .i64 V.per, .string V.ref, .slice A5 n5 c5, .bool V.void] 24) = W6 := ⟨_, rfl⟩
    rw [hW6]
    have hb56 : Below w5.heap.size w5 W6 := by rw [← hW6]; exact (Below.refl _ _).alloc (Nat.le_refl _) _
    have hb26 : Below W2.heap.size W2 W6 := HB5.out.trans (hb56.mono HB5.out.size)
    have ha6 : JAt W6 w5.heap.size V A5 n5 c5 := by rw [← hW6]; exact heap_new w5 _
    obtain ⟨ab, hab⟩ : ∃ ab, w5.heap.size = ab := ⟨_, rfl⟩
    rw [hab] at ha6 ⊢
    have hm6 := jat_below HM5.out hb56
    have hl6 := HL5.out.below hb56
    have hown6 := own_kept HO5.out fun q hq _ => hb56.block q hq
    clear hW6 hab hb56 HM5 HL5 HO5 HB5 hlt5
    refine (HKF.out W6 hb26).mono ?_
    rintro e w7 ⟨A7, n7, c7, rfl, hown7, hb7⟩
    have hb27 : Below W2.heap.size W2 w7 := hb26.trans (hb7.mono hb26.size)
    have hj7 : JAt w7 w.heap.size j A n c := jat_below HJB.out hb27
    have ha7 := jat_below ha6 hb7
    have hm7 := jat_below hm6 hb7
    have hl7 := hl6.below hb7
    have hown5 := own_kept hown6 fun q hq _ => hb7.block q hq
    have hn7 : n7 ≤ 30 := by have h1 := (rd_of_own hown7).lins_len; have := HVL.out.1; omega
    obtain ⟨a0, a1, a2, a3, a4, a5⟩ := six_cells ha7
    have hlt7 : ab < w7.heap.size := lt_of_blk ha7
    have t0 : (E != E) = false := by simp
    have HB7 := Lib.hid hb27
    have HJ7 := Lib.hid hj7
    have HA7 := Lib.hid ha7
    have HM7 := Lib.hid hm7
    have HL7 := Lib.hid hl7
    have HO5 := Lib.hid hown5
    have HO7 := Lib.hid hown7
    clear hb27 hj7 ha7 hm7 hl7 hown5 hown7 hb7 hown6 hl6 hm6 ha6 hb26
    go_wp2_with fail
    clear a0 a1 a2 a3 a4 a5
    obtain ⟨W8, hW8⟩ : ∃ W8, w7.alloc (.cells #[.int .i64 V.id, .int .i64 V.ent, .int .i64 V.per, .string V.ref, .slice A7 n7 c7, .bool V.void] 24) = W8 := ⟨_, rfl⟩
    rw [hW8]
    have hb78 : Below w7.heap.size w7 W8 := by rw [← hW8]; exact (Below.refl _ _).alloc (Nat.le_refl _) _
    have hown5 := own_kept HO5.out fun q hq _ => hb78.block q hq
    have hown7 := own_kept HO7.out fun q hq _ => hb78.block q hq
    refine (HSV.out A5 A7 n5 n7 c5 c7 W8 (rd_of_own hown5) (rd_of_own hown7) (by unfold maxLen; omega) (by unfold maxLen; omega)).mono ?_
    rintro e w9 ⟨rfl, hb9⟩
    have hb79 : Below w7.heap.size w7 w9 := hb78.trans (hb9.mono hb78.size)
    have hj9 := jat_below HJ7.out hb79
    have ha9 := jat_below HA7.out hb79
    have hm9 := jat_below HM7.out hb79
    have hl9 := HL7.out.below hb79
    have hown9 := own_kept HO5.out fun q hq _ => hb79.block q hq
    have hb29 : Below W2.heap.size W2 w9 := HB7.out.trans (hb79.mono HB7.out.size)
    have b4 := cell_of hj9 4
    have m4 := cell_of hm9 4
    simp only [List.getElem?_toArray, List.getElem?_cons_zero, List.getElem?_cons_succ] at b4 m4
    have kst := staysLines_any j.lines j.lines A n n c W3.heap.size w.heap.size g cap w9 hl9 HL.out (HRD.out w9 hb29) (by omega) (by omega)
    rw [show (j.lines == j.lines) = true from beq_iff_eq.2 rfl] at kst
    have KST := Lib.hid kst
    have HJ9 := Lib.hid hj9
    have HA9 := Lib.hid ha9
    have HO9 := Lib.hid hown9
    have HB9 := Lib.hid hb29
    clear hj9 ha9 hm9 hl9 hown9 hb29 hb79 hb9 hown5 hown7 hb78 hW8 kst HJ7 HA7 HM7 HL7 HO5 HO7 HB7 hlt7 HSV
    go_wp2_with fail
    refine KST.out.mono ?_
    rintro e w10 ⟨rfl, hd⟩
    have hbd : Below w9.heap.size w9 w10 := hd.below
    have hj10 := jat_below HJ9.out hbd
    have ha10 := jat_below HA9.out hbd
    have hown10 := own_kept HO9.out fun q hq _ => hbd.block q hq
    have hb210 : Below W2.heap.size W2 w10 := HB9.out.trans (hbd.mono HB9.out.size)
    obtain ⟨b0, b1, b2, b3, b4', b5⟩ := six_cells hj10
    obtain ⟨a0, a1, a2, a3, a4, a5⟩ := six_cells ha10
    have HJ10 := Lib.hid hj10
    have HA10 := Lib.hid ha10
    have HO10 := Lib.hid hown10
    have HB10 := Lib.hid hb210
    clear hj10 ha10 hown10 hb210 hbd hd KST HJ9 HA9 HO9 HB9 b4 m4
    by_cases hE : E = 0
    rotate_left
    · have t1 : (E != 0) = true := by simpa using hE
      go_wp2_with fail
      go_ret
      exact ⟨rfl, HB2.out.trans (HB10.out.mono HB2.out.size)⟩
    · subst hE
      obtain ⟨hV, hE0⟩ := HVE.out
      have hV' : V = revJ j id per := by rw [← hV]; unfold revV; rw [if_pos hE0]
      obtain ⟨hE2, hJ2⟩ := rev_back hE0
      have hT := total_rev hE0
      rw [← hV'] at hE2 hJ2 hT
      have hV2 : revV V j.id j.per = ⟨j.id, j.ent, j.per, ⟨#[]⟩, j.lines, false⟩ := by unfold revV; rw [if_pos hE2, hJ2]
      have kr2 : Calls Tryd.prog 15 #[.agg #[.int .i64 V.id, .int .i64 V.ent, .int .i64 V.per, .string V.ref, .slice A5 n5 c5, .bool V.void], .int .i64 j.id, .int .i64 j.per] w10 fun e w' => ∃ A' n' c', e = .returned (.tuple #[.agg #[.int .i64 j.id, .int .i64 j.ent, .int .i64 j.per, .string ⟨#[]⟩, .slice A' n' c', .bool false], .int .i64 0]) ∧ w'.ownsRow w10.heap.size 44 3 (.slice A' n' c') n' (lins j.lines) ∧ Below w10.heap.size w10 w' :=
        (reverse_any V A5 n5 c5 w10.heap.size j.id j.per w10 (rd_of_own HO10.out) (Nat.le_refl _) (by unfold maxLen; omega) (by rw [HVL.out.2]; exact Nat.zero_le _)).mono fun e w' h => rev_form hV2 hE2 h
      have KR2 := Lib.hid kr2
      have HT := Lib.hid hT
      have z0 : ((0 : Int) != 0) = false := rfl
      clear kr2 hT hV2 hJ2 hE2 hV' hV hE0 HVE
      go_wp2_with fail
      refine KR2.out.mono ?_
      rintro e w11 ⟨A11, n11, c11, rfl, hown11, hb11⟩
      clear b0 b1 b2 b3 b4' b5 a0 a1 a2 a3 a4 a5 KR2
      have hj11 := jat_below HJ10.out hb11
      have ha11 := jat_below HA10.out hb11
      have hownA := own_kept HO10.out fun q hq _ => hb11.block q hq
      have hb211 : Below W2.heap.size W2 w11 := HB10.out.trans (hb11.mono HB10.out.size)
      obtain rfl : n11 = n := (rd_of_own hown11).lins_len.symm.trans HL.out
      obtain ⟨b0, b1, b2, b3, b4, b5⟩ := six_cells hj11
      have hlt11 : w.heap.size < w11.heap.size := lt_of_blk hj11
      have HA11 := Lib.hid ha11
      have HOA := Lib.hid hownA
      have HOC := Lib.hid hown11
      have HB11 := Lib.hid hb211
      clear ha11 hownA hown11 hb211 hb11 HJ10 HA10 HO10 HB10 hj11
      go_wp2_with fail
      clear b0 b1 b2 b3 b4 b5 hlt11
      obtain ⟨W12, hW12⟩ : ∃ W12, w11.alloc (.cells #[.int .i64 j.id, .int .i64 j.ent, .int .i64 j.per, .string ⟨#[]⟩, .slice A11 n11 c11, .bool false] 24) = W12 := ⟨_, rfl⟩
      rw [hW12]
      have hb1112 : Below w11.heap.size w11 W12 := by rw [← hW12]; exact (Below.refl _ _).alloc (Nat.le_refl _) _
      have hb212 : Below W2.heap.size W2 W12 := HB11.out.trans (hb1112.mono HB11.out.size)
      have hc12 : JAt W12 w11.heap.size ⟨j.id, j.ent, j.per, ⟨#[]⟩, j.lines, false⟩ A11 n11 c11 := by rw [← hW12]; exact heap_new w11 _
      obtain ⟨cb, hcb⟩ : ∃ cb, w11.heap.size = cb := ⟨_, rfl⟩
      rw [hcb] at hc12 ⊢
      have ha12 := jat_below HA11.out hb1112
      have hownA := own_kept HOA.out fun q hq _ => hb1112.block q hq
      have hownC := own_kept HOC.out fun q hq _ => hb1112.block q hq
      clear hW12 hcb hb1112 HA11 HOA HOC HB11
      refine (refCopy_any j A n11 c w.heap.size W12 (HRD.out W12 hb212) (Nat.le_trans HB2.out.size hb212.size) (by omega)).mono ?_
      rintro e w13 ⟨A13, c13, rfl, hown13, hb13⟩
      have hb213 : Below W2.heap.size W2 w13 := hb212.trans (hb13.mono hb212.size)
      have hj13 : JAt w13 w.heap.size j A n11 c := jat_below HJB.out hb213
      have ha13 := jat_below ha12 hb13
      have hc13 := jat_below hc12 hb13
      have hownA3 := own_kept hownA fun q hq _ => hb13.block q hq
      have hownC3 := own_kept hownC fun q hq _ => hb13.block q hq
      have HJ13 := Lib.hid hj13
      have HA13 := Lib.hid ha13
      have HC13 := Lib.hid hc13
      have HOA := Lib.hid hownA3
      have HOC := Lib.hid hownC3
      have HOD := Lib.hid hown13
      have HB13 := Lib.hid hb213
      clear hj13 ha13 hc13 hownA3 hownC3 hown13 hb213 hb13 hownA hownC ha12 hc12 hb212
      go_wp2_with fail
      obtain ⟨db, hdb⟩ : ∃ db, w13.heap.size = db := ⟨_, rfl⟩
      obtain ⟨W15, hW15⟩ : ∃ W15, w13.alloc (.cells #[.int .i64 j.id, .int .i64 j.ent, .int .i64 j.per, .string ⟨#[]⟩, .slice A13 n11 c13, .bool false] 24) = W15 := ⟨_, rfl⟩
      rw [hW15, hdb]
      have hb15 : Below w13.heap.size w13 W15 := by rw [← hW15]; exact (Below.refl _ _).alloc (Nat.le_refl _) _
      have hd15 : JAt W15 db ⟨j.id, j.ent, j.per, ⟨#[]⟩, j.lines, false⟩ A13 n11 c13 := by rw [← hW15, ← hdb]; exact heap_new w13 _
      have hj15 := jat_below HJ13.out hb15
      have ha15 := jat_below HA13.out hb15
      have hc15 := jat_below HC13.out hb15
      have hownA := own_kept HOA.out fun q hq _ => hb15.block q hq
      have hownC := own_kept HOC.out fun q hq _ => hb15.block q hq
      have hownD := own_kept HOD.out fun q hq _ => hb15.block q hq
      have hb215 : Below W2.heap.size W2 W15 := HB13.out.trans (hb15.mono HB13.out.size)
      have HB15 : Hid (Below w.heap.size w W15) := HB2.out.trans (hb215.mono HB2.out.size)
      rename_i K hK
      exact tu14_any _ _ _ _ _ _ _ _ _ _ _ _ _ _ _ _ _ _ _ _ _ _ _ _ _ _ _ _ _ _ _ _ _ _ _ _ _ _ _ _ _ _ _ _ _ _ _ _ _ _ _ _ _ _ _ _ _ _ _ _ _ _ _ _ _ _ _ _ _ _ _ _ _ _ _ _ _ _ _ _ _ _ _ j V A A5 A11 A13 n11 n5 c c5 c11 c13 ab cb db false w W15 hj15 ha15 hc15 hd15 (HRD.out W15 hb215) (rd_of_own hownA) (rd_of_own hownC) (rd_of_own hownD) hn (by unfold maxLen; omega) hs (by rw [HVL.out.2]; exact Nat.zero_le _) HT.out HB15.out K hK
end Go.Proofs.YtlcflbncifecoaaDoor
