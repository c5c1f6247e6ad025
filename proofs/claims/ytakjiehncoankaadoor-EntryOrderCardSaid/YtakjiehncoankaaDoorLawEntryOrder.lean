/-
  The walk of the statement EntryOrder.
-/
-- HOLE3: obtain ⟨j0, A0, n0, c0, rfl, q0, r0, s0⟩ := argJrn hf0
-- exact entryOrder_walk j0 A0 n0 c0 a1 a2 W G q0.rd
import Derived.Test.YtakjiehncoankaaDoorOrderRest
import Derived.Test.YtakjiehncoankaaDoorSpoiltMath
import Derived.Test.YtakjiehncoankaaDoorEntrySmall
import Derived.Test.YtakjiehncoankaaDoorEntryAlive
import Derived.Test.YtakjiehncoankaaDoorArgJrn
namespace Go.Proofs.YtakjiehncoankaaDoor
open Go.RowKit Go.Sort

set_option maxRecDepth 100000 in
set_option maxHeartbeats 4000000 in
theorem eoR9_any (s0 s1 s2 s4 s5 s6 s11 s12 s13 s14 s15 s16 s17 s18 s19 s20 s21 s22 s23 s24 s25 s26 s27 s28 s29 s30 s31 s32 s33 s34 s35 s36 s37 s38 s39 s40 s41 s42 s43 s44 s45 s46 s47 s48 s49 s50 s51 s52 s53 s54 s55 s56 s57 s58 s59 s60 s61 s62 s63 s64 s65 s66 s67 s68 s69 s70 s71 s72 s73 s74 s75 s76 s77 s78 s79 s80 s81 s82 s83 s84 s85 s86 s87 s88 s89 s90 s91 s92 s93 s94 s95 s96 s97 s98 s99 s100 : Value) (j : Jrn) (x : Lin) (A : Option Addr) (n c jb B k b1 b2 b3 g1 g2 g3 c1 c2 c3 : Nat) (v : Int) (w0 w : World) (hE : checkE j = 0) (hx : j.lines[k]? = some x) (hk : k < n) (hn : n ≤ 30) (hs : j.ref.size ≤ 60) (hv : 1000000000000000 < v)
    (hJ : JAt w jb j A n c) (hR : Rd w B 3 A n (lins j.lines)) (hB : B ≤ w.heap.size)
    (J1 : JAt w b1 (amtJ j k x (x.amt + 1)) (some ⟨g1, 0, none⟩) n c1) (J2 : JAt w b2 (amtJ j k x v) (some ⟨g2, 0, none⟩) n c2) (J3 : JAt w b3 ⟨j.id, 0, j.per, j.ref, (amtJ j k x (-9223372036854775808)).lines, j.void⟩ (some ⟨g3, 0, none⟩) n c3)
    (R1 : Rd w w.heap.size 3 (some ⟨g1, 0, none⟩) n (lins (amtJ j k x (x.amt + 1)).lines)) (R2 : Rd w w.heap.size 3 (some ⟨g2, 0, none⟩) n (lins (amtJ j k x v).lines)) (R3 : Rd w w.heap.size 3 (some ⟨g3, 0, none⟩) n (lins (amtJ j k x (-9223372036854775808)).lines)) (hBel : Below w0.heap.size w0 w) :
    Code.wp Tryd.prog eoR9 (bodyPost Tryd.prog Tryd.f4 fun e w' => e = .returned (.bool true) ∧ Below w0.heap.size w0 w') ⟨#[s0, s1, s2, .pointer (some ⟨jb, 0, none⟩), s4, s5, s6, .int .i64 (k : Int), .pointer (some ⟨b1, 0, none⟩), .pointer (some ⟨b2, 0, none⟩), .pointer (some ⟨b3, 0, none⟩), s11, s12, s13, s14, s15, s16, s17, s18, s19, s20, s21, s22, s23, s24, s25, s26, s27, s28, s29, s30, s31, s32, s33, s34, s35, s36, s37, s38, s39, s40, s41, s42, s43, s44, s45, s46, s47, s48, s49, s50, s51, s52, s53, s54, s55, s56, s57, s58, s59, s60, s61, s62, s63, s64, s65, s66, s67, s68, s69, s70, s71, s72, s73, s74, s75, s76, s77, s78, s79, s80, s81, s82, s83, s84, s85, s86, s87, s88, s89, s90, s91, s92, s93, s94, s95, s96, s97, s98, s99, s100], []⟩ w := by
  have hz0 := hBel.size
  have k0 := Lib.hid (fun w1 (hb : Below w.heap.size w w1) => check_any j A n c B w1 (hR.below (hb.mono hB)) (Nat.le_trans hB hb.size) (by unfold maxLen; omega) (by unfold maxLen; omega))
  have k1 := Lib.hid (fun w1 (hb : Below w.heap.size w w1) => check_any (amtJ j k x (x.amt + 1)) _ n c1 w.heap.size w1 (R1.below hb) hb.size (by unfold maxLen; omega) (by unfold maxLen; show j.ref.size ≤ _; omega))
  have k2 := Lib.hid (fun w1 (hb : Below w.heap.size w w1) => check_any (amtJ j k x v) _ n c2 w.heap.size w1 (R2.below hb) hb.size (by unfold maxLen; omega) (by unfold maxLen; show j.ref.size ≤ _; omega))
  have k3 := Lib.hid (fun w1 (hb : Below w.heap.size w w1) => check_any ⟨j.id, 0, j.per, j.ref, (amtJ j k x (-9223372036854775808)).lines, j.void⟩ _ n c3 w.heap.size w1 (R3.below hb) hb.size (by unfold maxLen; omega) (by unfold maxLen; show j.ref.size ≤ _; omega))
  rw [hE] at k0
  rw [check_up hE hx] at k1
  rw [check_big hE hx hv] at k2
  rw [check_none rfl] at k3
  obtain ⟨ad, x', rfl, hb1, hx', p1, p2, p3⟩ := hR.lin hk
  rw [hx] at hx'
  injection hx' with hx'
  subst hx'
  have p2' := cell_behind p2 (by omega)
  have hkI : (k : Int) < (n : Int) := by omega
  have HJ := Lib.hid hJ; have HJ1 := Lib.hid J1; have HJ2 := Lib.hid J2; have HJ3 := Lib.hid J3; have HB := Lib.hid hBel
  have h4 := (six_cells hJ).2.2.2.2.1
  clear p1 p2 p3 hJ J1 J2 J3 hBel hR R1 R2 R3 hE hx hb1
  obtain ⟨x1, x2, x3⟩ := x
  dsimp only at *
  unfold Jrn.val at k0 k1 k2 k3
  by_cases ha : x2 = 1000000000000000
  · skip
    rw [if_pos ha] at k1
    have t1 : (x2 == -1) = false := by simp [ha]
    have t2 : (x2 == 1000000000000000) = true := by simp [ha]
    obtain ⟨z0, z1, z2, z3, z4, z5⟩ := six_cells HJ.out
    conv => arg 2; whnf
    conv => arg 4; dsimp only
    go_wp2_with fail
    refine (k0.out _ (Below.refl _ _)).mono ?_
    rintro e wa ⟨rfl, hba⟩
    clear z0 z1 z2 z3 z4 z5 h4 p2'
    obtain ⟨z0, z1, z2, z3, z4, z5⟩ := six_cells ((hba.block _ (lt_of_blk HJ1.out)).trans HJ1.out)
    have HA := Lib.hid hba
    clear hba
    go_wp2_with fail
    refine (k1.out _ HA.out).mono ?_
    rintro e wb ⟨rfl, hbb⟩
    have HBB : Hid (Below w.heap.size w wb) := HA.out.trans (hbb.mono HA.out.size)
    clear z0 z1 z2 z3 z4 z5 hbb
    obtain ⟨z0, z1, z2, z3, z4, z5⟩ := six_cells ((HBB.out.block _ (lt_of_blk HJ2.out)).trans HJ2.out)
    go_wp2_with fail
    refine (k2.out _ HBB.out).mono ?_
    rintro e wc ⟨rfl, hbc⟩
    have HC : Hid (Below w.heap.size w wc) := HBB.out.trans (hbc.mono HBB.out.size)
    clear z0 z1 z2 z3 z4 z5 hbc
    obtain ⟨z0, z1, z2, z3, z4, z5⟩ := six_cells ((HC.out.block _ (lt_of_blk HJ3.out)).trans HJ3.out)
    go_wp2_with fail
    refine (k3.out _ HC.out).mono ?_
    rintro e wd ⟨rfl, hbd⟩
    have HD : Hid (Below w.heap.size w wd) := HC.out.trans (hbd.mono HC.out.size)
    clear z0 z1 z2 z3 z4 z5 hbd
    go_wp2_with fail
    go_ret
    exact ⟨rfl, HB.out.trans (HD.out.mono hz0)⟩
  by_cases hb : x2 = -1
  · skip
    rw [if_neg ha, if_pos hb] at k1
    have t1 : (x2 == -1) = true := by simp [hb]
    have t2 : (x2 == 1000000000000000) = false := by simp [hb]
    obtain ⟨z0, z1, z2, z3, z4, z5⟩ := six_cells HJ.out
    conv => arg 2; whnf
    conv => arg 4; dsimp only
    go_wp2_with fail
    refine (k0.out _ (Below.refl _ _)).mono ?_
    rintro e wa ⟨rfl, hba⟩
    clear z0 z1 z2 z3 z4 z5 h4 p2'
    obtain ⟨z0, z1, z2, z3, z4, z5⟩ := six_cells ((hba.block _ (lt_of_blk HJ1.out)).trans HJ1.out)
    have HA := Lib.hid hba
    clear hba
    go_wp2_with fail
    refine (k1.out _ HA.out).mono ?_
    rintro e wb ⟨rfl, hbb⟩
    have HBB : Hid (Below w.heap.size w wb) := HA.out.trans (hbb.mono HA.out.size)
    clear z0 z1 z2 z3 z4 z5 hbb
    obtain ⟨z0, z1, z2, z3, z4, z5⟩ := six_cells ((HBB.out.block _ (lt_of_blk HJ2.out)).trans HJ2.out)
    go_wp2_with fail
    refine (k2.out _ HBB.out).mono ?_
    rintro e wc ⟨rfl, hbc⟩
    have HC : Hid (Below w.heap.size w wc) := HBB.out.trans (hbc.mono HBB.out.size)
    clear z0 z1 z2 z3 z4 z5 hbc
    obtain ⟨z0, z1, z2, z3, z4, z5⟩ := six_cells ((HC.out.block _ (lt_of_blk HJ3.out)).trans HJ3.out)
    go_wp2_with fail
    refine (k3.out _ HC.out).mono ?_
    rintro e wd ⟨rfl, hbd⟩
    have HD : Hid (Below w.heap.size w wd) := HC.out.trans (hbd.mono HC.out.size)
    clear z0 z1 z2 z3 z4 z5 hbd
    go_wp2_with fail
    go_ret
    exact ⟨rfl, HB.out.trans (HD.out.mono hz0)⟩
  · skip
    rw [if_neg ha, if_neg hb] at k1
    have t1 : (x2 == -1) = false := by simp [hb]
    have t2 : (x2 == 1000000000000000) = false := by simp [ha]
    obtain ⟨z0, z1, z2, z3, z4, z5⟩ := six_cells HJ.out
    conv => arg 2; whnf
    conv => arg 4; dsimp only
    go_wp2_with fail
    refine (k0.out _ (Below.refl _ _)).mono ?_
    rintro e wa ⟨rfl, hba⟩
    clear z0 z1 z2 z3 z4 z5 h4 p2'
    obtain ⟨z0, z1, z2, z3, z4, z5⟩ := six_cells ((hba.block _ (lt_of_blk HJ1.out)).trans HJ1.out)
    have HA := Lib.hid hba
    clear hba
    go_wp2_with fail
    refine (k1.out _ HA.out).mono ?_
    rintro e wb ⟨rfl, hbb⟩
    have HBB : Hid (Below w.heap.size w wb) := HA.out.trans (hbb.mono HA.out.size)
    clear z0 z1 z2 z3 z4 z5 hbb
    obtain ⟨z0, z1, z2, z3, z4, z5⟩ := six_cells ((HBB.out.block _ (lt_of_blk HJ2.out)).trans HJ2.out)
    go_wp2_with fail
    refine (k2.out _ HBB.out).mono ?_
    rintro e wc ⟨rfl, hbc⟩
    have HC : Hid (Below w.heap.size w wc) := HBB.out.trans (hbc.mono HBB.out.size)
    clear z0 z1 z2 z3 z4 z5 hbc
    obtain ⟨z0, z1, z2, z3, z4, z5⟩ := six_cells ((HC.out.block _ (lt_of_blk HJ3.out)).trans HJ3.out)
    go_wp2_with fail
    refine (k3.out _ HC.out).mono ?_
    rintro e wd ⟨rfl, hbd⟩
    have HD : Hid (Below w.heap.size w wd) := HC.out.trans (hbd.mono HC.out.size)
    clear z0 z1 z2 z3 z4 z5 hbd
    go_wp2_with fail
    go_ret
    exact ⟨rfl, HB.out.trans (HD.out.mono hz0)⟩

set_option maxRecDepth 100000 in
set_option maxHeartbeats 4000000 in
theorem entryOrder_walk (j : Jrn) (A : Option Addr) (n c : Nat) (at_ how : Int) (w : World) (G : Glob w) (h : Rd w w.heap.size 3 A n (lins j.lines)) :
    Calls Tryd.prog 4 #[j.val A n c, .int .i64 at_, .int .i64 how] w fun e w' => e = .returned (.bool true) ∧ Below w.heap.size w w' := by
  have HL := Lib.hid h.lins_len
  obtain ⟨W2, hW2⟩ : ∃ W2, (w.alloc (.cells #[.int .i64 j.id, .int .i64 j.ent, .int .i64 j.per, .string j.ref, .slice A n c, .bool j.void] 24)).alloc (.cells #[.int .i64 j.id, .int .i64 j.ent, .int .i64 j.per, .string j.ref, .slice A n c, .bool j.void] 24) = W2 := ⟨_, rfl⟩
  have HW2 := Lib.hid hW2
  have hb2 : Below w.heap.size w W2 := by rw [← hW2]; exact ((Below.refl _ _).alloc (Nat.le_refl _) _).alloc (by simp) _
  have hjb : JAt W2 w.heap.size j A n c := by
    rw [← hW2]
    exact (Below.heap_alloc _ _ _ (by simp)).trans (heap_new w _)
  have ks := small_two j A n c w (.cells #[.int .i64 j.id, .int .i64 j.ent, .int .i64 j.per, .string j.ref, .slice A n c, .bool j.void] 24) _ rfl
  rw [hW2] at ks
  have KS := Lib.hid ks
  have ka := Lib.hid (fun w1 (hb : Below W2.heap.size W2 w1) => alive_any w1 ((G.below hb2).below hb))
  have HB2 := Lib.hid hb2
  have HJB := Lib.hid hjb
  cases hsm : smallB j n
  · rw [hsm] at KS
    clear hW2 hb2 hjb ks h
    unfold Jrn.val
    go_enter Tryd.func4, Tryd.ntmps4
    go_wp2_with fail
    rw [HW2.out]
    refine KS.out.mono ?_
    rintro e w1 ⟨rfl, rfl⟩
    go_wp2_with fail
    refine (ka.out _ (Below.refl _ _)).mono ?_
    rintro e w2 ⟨rfl, hb3⟩
    have HB3 := Lib.hid hb3
    clear hb3
    go_wp2_with fail
    go_ret
    exact ⟨rfl, HB2.out.trans (HB3.out.mono HB2.out.size)⟩
  rw [hsm] at KS
  obtain ⟨hs60, hn30⟩ : j.ref.size ≤ 60 ∧ n ≤ 30 := by
    unfold smallB at hsm
    rwa [Bool.and_eq_true, decide_eq_true_eq, decide_eq_true_eq] at hsm
  have kc := refCheck_any j A n c w.heap.size W2 (h.far hb2 (Nat.le_refl _)) hb2.size
  obtain ⟨b0, b1, b2, b3, b4, b5⟩ := six_cells hjb
  by_cases hE : checkE j = 0
  rotate_left
  · have t1 : (checkE j != 0) = true := by simpa using hE
    generalize checkE j = E at *
    have KC := Lib.hid kc
    clear hW2 hb2 hjb ks h kc
    unfold Jrn.val at *
    go_enter Tryd.func4, Tryd.ntmps4
    go_wp2_with fail
    rw [HW2.out]
    refine KS.out.mono ?_
    rintro e w1 ⟨rfl, rfl⟩
    go_wp2_with fail
    refine KC.out.mono ?_
    rintro e w2 ⟨rfl, hb3⟩
    have ka2 := Lib.hid (ka.out _ hb3)
    have HB3 := Lib.hid hb3
    clear hb3
    go_wp2_with fail
    refine ka2.out.mono ?_
    rintro e w3 ⟨rfl, hb4⟩
    have HB4 := Lib.hid hb4
    clear hb4
    go_wp2_with fail
    go_ret
    exact ⟨rfl, HB2.out.trans ((HB3.out.trans (HB4.out.mono HB3.out.size)).mono HB2.out.size)⟩
  · rw [hE] at kc
    have hlen := linesOk_len (checkE_ok hE).2.1
    rw [HL.out] at hlen
    have HE := Lib.hid hE
    have HRD := Lib.hid (fun w1 (hb : Below W2.heap.size W2 w1) => h.far (hb2.trans (hb.mono hb2.size)) (Nat.le_refl _))
    have KC := Lib.hid kc
    obtain ⟨k, hkn, hke⟩ := turn_at at_ (n := n) (by omega) (by omega)
    obtain ⟨x, hx⟩ : ∃ x, j.lines[k]? = some x := ⟨_, List.getElem?_eq_getElem (by rw [HL.out]; exact hkn)⟩
    have hfx := fits1_iff.1 (List.all_eq_true.1 (checkE_ok hE).2.2.1 x (List.mem_of_getElem? hx))
    have hz : ((n : Int) == 0) = false := by rw [beq_eq_false_iff_ne]; omega
    clear hW2 hb2 hjb ks h kc hE
    unfold Jrn.val at *
    go_enter Tryd.func4, Tryd.ntmps4
    go_wp2_with fail
    rw [HW2.out]
    refine KS.out.mono ?_
    rintro e w1 ⟨rfl, rfl⟩
    go_wp2_with fail
    refine KC.out.mono ?_
    rintro e w3 ⟨rfl, hb3⟩
    clear b0 b1 b2 b3 b4 b5
    have ka2 := Lib.hid (ka.out _ hb3)
    have HB3 := Lib.hid hb3
    clear hb3 ka KS KC HW2
    go_wp2_with fail
    refine ka2.out.mono ?_
    rintro e w4 ⟨rfl, hb4⟩
    have hb24 : Below W2.heap.size W2 w4 := HB3.out.trans (hb4.mono HB3.out.size)
    have hj4 : JAt w4 w.heap.size j A n c := (hb24.block _ (lt_of_blk HJB.out)).trans HJB.out
    obtain ⟨b0, b1, b2, b3, b4, b5⟩ := six_cells hj4
    have HB4 := Lib.hid hb24
    have HJ4 := Lib.hid hj4
    clear hb24 hj4 hb4 ka2 HB3
    go_wp2_with fail
    go_big_quiet (fail)
    clear b0 b1 b2 b3 b4 b5
    obtain ⟨w5, hw5⟩ : ∃ w5, w4.drewN nq = w5 := ⟨_, rfl⟩
    have hb45 : Below w4.heap.size w4 w5 := by rw [← hw5]; exact (Drew.mk _ _).below
    rw [hw5]
    have hz4 := HB4.out.size
    have hz5 := hb45.size
    have hz2 := HB2.out.size
    have HB5 : Hid (Below W2.heap.size W2 w5) := HB4.out.trans (hb45.mono hz4)
    have HJ5 : Hid (JAt w5 w.heap.size j A n c) := (hb45.block _ (lt_of_blk HJ4.out)).trans HJ4.out
    clear hw5 hb45
    go_wp2_with fail
    refine eoR4_any _ _ _ _ _ _ _ _ _ _ _ _ _ _ _ _ _ _ _ _ _ _ _ _ _ _ _ _ _ _ _ _ _ _ _ _ _ _ _ _ _ _ _ _ _ _ _ _ _ _ _ _ _ _ _ _ _ _ _ _ _ _ _ _ _ _ _ _ _ _ _ _ _ _ _ _ _ _ _ _ _ _ _ _ _ _ _ _ _ _ _ _ _ _ _ _ _ _ _ _ _ j A n c w.heap.size w.heap.size w5 HJ5.out (HRD.out w5 HB5.out) (by omega) (by omega) (by omega) ?_
    intro u39 u40 u41 u42 u43 u44 b1 b2 b3 g1 g2 g3 c1 c2 c3 w6 J1 J2 J3 R1 R2 R3 hne hb6
    rename_i K hK
    refine hK _ _ ?_
    refine eoRest_any _ _ _ _ _ _ _ _ _ _ _ _ _ _ _ _ _ _ _ _ _ _ _ _ _ _ _ _ _ _ _ _ _ _ _ _ _ _ _ _ _ _ _ _ _ _ _ _ _ _ _ _ _ _ _ _ _ _ _ _ _ _ _ _ _ _ _ _ _ _ _ _ _ _ _ _ _ _ _ _ _ _ _ _ _ _ _ _ _ _ _ _ _ _ _ _ j x A n c w.heap.size w.heap.size k b1 b2 b3 g1 g2 g3 c1 c2 c3 how w5 w6 hx hkn (by omega) hfx J1 J2 J3 R1 R2 R3 hne ?_
    intro u45 u46 u47 u48 u49 u50 u51 u52 u53 u54 u55 u56 u57 u58 u59 u60 u61 u62 u63 u64 u65 u66 u67 v w7 hv J1' J2' J3' R1' R2' R3' hb7
    have hb57 : Below w5.heap.size w5 w7 := hb6.trans hb7
    refine eoR9_any _ _ _ _ _ _ _ _ _ _ _ _ _ _ _ _ _ _ _ _ _ _ _ _ _ _ _ _ _ _ _ _ _ _ _ _ _ _ _ _ _ _ _ _ _ _ _ _ _ _ _ _ _ _ _ _ _ _ _ _ _ _ _ _ _ _ _ _ _ _ _ _ _ _ _ _ _ _ _ _ _ _ _ _ _ _ _ _ _ _ _ _ _ _ _ _ j x A n c w.heap.size w.heap.size k b1 b2 b3 g1 g2 g3 c1 c2 c3 v w w7 HE.out hx hkn hn30 hs60 hv ((hb57.block _ (lt_of_blk HJ5.out)).trans HJ5.out) ((HRD.out w5 HB5.out).below (hb57.mono (by omega))) (by have := hb57.size; omega) J1' J2' J3' R1' R2' R3' ?_
    exact HB2.out.trans ((HB5.out.trans (hb57.mono (by omega))).mono hz2)
end Go.Proofs.YtakjiehncoankaaDoor
