/-
  EntryTells: its end, from the book of lists on.
-/
import Derived.Test.YtbdhhfaelnnocaaGreatDoorTellCopies
import Derived.Test.YtbdhhfaelnnocaaGreatDoorEntrySame
import Derived.Test.YtbdhhfaelnnocaaGreatDoorEntryTotal
import Derived.Test.YtbdhhfaelnnocaaGreatDoorLinsPush
import Derived.Test.YtbdhhfaelnnocaaGreatDoorApartLines
import Derived.Test.YtbdhhfaelnnocaaGreatDoorQuietTail
import Derived.BigQuiet
namespace Go.Proofs.YtbdhhfaelnnocaaGreatDoor
open Go.RowKit Go.Sort

theorem Only.jat {S : List TypeId} {w w' : World} {q n c : Nat} {j : Jrn} {A : Option Addr} (h : Only S w w') (hj : JAt w q j A n c) (hs : ¬ 24 ∈ S) : JAt w' q j A n c := (h q _ _ hj hs).trans hj
theorem jat_below {w w' : World} {q n c : Nat} {j : Jrn} {A : Option Addr} (h : JAt w q j A n c) (hb : Below w.heap.size w w') : JAt w' q j A n c := (hb.block _ (lt_of_blk h)).trans h
noncomputable def etTail : Code := subCode [1, 1, 1, 1, 1, 1, 1, 1, 1, 1, 1] (Tryz.f3.body.getD .skip)
noncomputable def etR18 : Code := subCode [1, 1, 1, 1, 1, 1, 1, 1, 1, 1, 1, 1, 1, 0] (Tryz.f3.body.getD .skip)

/-- What the last line reads. -/
structure TellAt (W : World) (B ab bb mb b1 g : Nat) (a b : Jrn) (A Ab A1 : Option Addr) (c nb cb cap c1 : Nat) : Prop where
  ja : JAt W ab a A a.lines.length c
  jb : JAt W bb b Ab nb cb
  jm : JAt W mb a (some ⟨g, 0, none⟩) a.lines.length cap
  j1 : JAt W b1 a A1 a.lines.length c1
  ra : Rd W B 3 A a.lines.length (lins a.lines)
  rb : Rd W B 3 Ab nb (lins b.lines)
  rm : LentLins W 0 g cap a.lines
  r1 : Rd W W.heap.size 3 A1 a.lines.length (lins a.lines)
  bB : B ≤ W.heap.size
  na : a.lines.length ≤ 30
  nb : nb ≤ 30
  sa : a.ref.size ≤ 60

set_option maxRecDepth 100000 in
set_option maxHeartbeats 8000000 in
theorem etR18_any (s0 s1 s4 s6 s7 s8 s10 s13 s14 s15 s16 s17 s18 s19 s20 s21 s22 s23 s24 s25 s26 s27 s28 s29 s30 s31 s32 s33 s34 s35 s36 s37 s38 s39 s40 s41 s42 s43 s44 s45 s46 s47 s48 s49 s50 s51 s52 s53 s54 s55 s56 s57 s58 s59 s60 s61 s62 s63 s64 s65 s66 s67 s68 s69 s70 s71 s72 s73 s74 s75 s76 s77 s78 s79 s80 s81 s82 s83 s84 s85 s86 s87 s88 s89 s90 s91 s92 s93 s94 s95 s96 s97 s98 s99 s100 s101 s102 s103 s104 s105 s106 s107 s108 s109 s110 s111 s112 s113 s114 s115 s116 s117 s118 s119 s120 s121 s122 s123 s124 s125 s126 s127 s128 s129 s130 : Value) (Q0 : Exit → Act → World → Prop) (w0 : World) (T : Int) (a b : Jrn) (hTT : totalJ a = T) (A Ab A1 : Option Addr) (c nb cb cap c1 B ab bb mb b1 kb g Bk : Nat) (W : World) (h : TellAt W B ab bb mb b1 g a b A Ab A1 c nb cb cap c1)
    (KA : ∀ w', Below W.heap.size W w' → Calls Tryz.prog 17 #[.pointer (some ⟨kb, 0, none⟩)] w' fun e w'' => e = .returned (.bool true) ∧ Below Bk w' w'') (hBk : w0.heap.size ≤ Bk) (hbel : Below w0.heap.size w0 W)
    (hQ : ∀ (u97 u98 u99 u100 u101 u102 u103 u104 u105 u106 u107 u108 u109 u110 u111 u112 u113 u114 u115 u116 u117 u118 u119 u120 u121 u122 u123 u124 u125 u126 u127 u128 u129 u130 : Value) (w' : World), Below w0.heap.size w0 w' → Q0 .normal ⟨#[s0, s1, .pointer (some ⟨ab, 0, none⟩), .pointer (some ⟨bb, 0, none⟩), .bool true, .pointer (some ⟨mb, 0, none⟩), s6, s7, s8, .int .i64 T, s10, .pointer (some ⟨kb, 0, none⟩), .pointer (some ⟨b1, 0, none⟩), s13, s14, s15, s16, s17, s18, s19, s20, s21, s22, s23, s24, s25, s26, s27, s28, s29, s30, s31, s32, s33, s34, s35, s36, s37, s38, s39, s40, s41, s42, s43, s44, s45, s46, s47, s48, s49, s50, s51, s52, s53, s54, s55, s56, s57, s58, s59, s60, s61, s62, s63, s64, s65, s66, s67, s68, s69, s70, s71, s72, s73, s74, s75, s76, s77, s78, s79, s80, s81, s82, s83, s84, s85, s86, s87, s88, s89, s90, s91, s92, s93, s94, s95, s96, u97, u98, u99, u100, u101, u102, u103, u104, u105, u106, u107, u108, u109, u110, u111, u112, u113, u114, u115, u116, u117, u118, u119, u120, u121, u122, u123, u124, u125, u126, u127, u128, u129, u130], []⟩ w') :
    Code.wp Tryz.prog etR18 Q0 ⟨#[s0, s1, .pointer (some ⟨ab, 0, none⟩), .pointer (some ⟨bb, 0, none⟩), s4, .pointer (some ⟨mb, 0, none⟩), s6, s7, s8, .int .i64 T, s10, .pointer (some ⟨kb, 0, none⟩), .pointer (some ⟨b1, 0, none⟩), s13, s14, s15, s16, s17, s18, s19, s20, s21, s22, s23, s24, s25, s26, s27, s28, s29, s30, s31, s32, s33, s34, s35, s36, s37, s38, s39, s40, s41, s42, s43, s44, s45, s46, s47, s48, s49, s50, s51, s52, s53, s54, s55, s56, s57, s58, s59, s60, s61, s62, s63, s64, s65, s66, s67, s68, s69, s70, s71, s72, s73, s74, s75, s76, s77, s78, s79, s80, s81, s82, s83, s84, s85, s86, s87, s88, s89, s90, s91, s92, s93, s94, s95, s96, s97, s98, s99, s100, s101, s102, s103, s104, s105, s106, s107, s108, s109, s110, s111, s112, s113, s114, s115, s116, s117, s118, s119, s120, s121, s122, s123, s124, s125, s126, s127, s128, s129, s130], []⟩ W := by
  have hna := h.na
  have hnb := h.nb
  have hsa := h.sa
  have rmr : ∀ w1, Below W.heap.size W w1 → Rd w1 w1.heap.size 3 (some ⟨g, 0, none⟩) a.lines.length (lins a.lines) := fun w1 hb => (h.rm.below hb).rd
  have rar : ∀ w1, Below W.heap.size W w1 → Rd w1 B 3 A a.lines.length (lins a.lines) := fun w1 hb => h.ra.below (hb.mono h.bB)
  have rbr : ∀ w1, Below W.heap.size W w1 → Rd w1 B 3 Ab nb (lins b.lines) := fun w1 hb => h.rb.below (hb.mono h.bB)
  have r1r : ∀ w1, Below W.heap.size W w1 → Rd w1 W.heap.size 3 A1 a.lines.length (lins a.lines) := fun w1 hb => h.r1.below hb
  have hBz : ∀ w1, Below W.heap.size W w1 → B ≤ w1.heap.size := fun w1 hb => Nat.le_trans h.bB hb.size
  have Q1 := Lib.hid (regrown_calls (w := W) fun w1 hb => total_any a (some ⟨g, 0, none⟩) a.lines.length cap _ w1 (rmr w1 hb) (Nat.le_refl _) (by unfold maxLen; omega) (by unfold maxLen; omega))
  have Q2 := Lib.hid (regrown_calls (w := W) fun w1 hb => same_any a b (some ⟨g, 0, none⟩) Ab a.lines.length nb cap cb _ B w1 (rmr w1 hb) (rbr w1 hb) (Nat.le_refl _) (hBz w1 hb) (by unfold maxLen; omega) (by unfold maxLen; omega))
  have Q3 := Lib.hid (regrown_calls (w := W) fun w1 hb => refSame_any a b A Ab a.lines.length nb c cb B B w1 (rar w1 hb) (rbr w1 hb) (hBz w1 hb) (hBz w1 hb) (by unfold maxLen; omega) (by unfold maxLen; omega))
  have Q4 := Lib.hid (regrown_calls (w := W) fun w1 hb => same_any a a (some ⟨g, 0, none⟩) A a.lines.length a.lines.length cap c _ B w1 (rmr w1 hb) (rar w1 hb) (Nat.le_refl _) (hBz w1 hb) (by unfold maxLen; omega) (by unfold maxLen; omega))
  have Q5 := Lib.hid (regrown_calls (w := W) fun w1 hb => refSame_any a a A1 A a.lines.length a.lines.length c1 c W.heap.size B w1 (r1r w1 hb) (rar w1 hb) hb.size (hBz w1 hb) (by unfold maxLen; omega) (by unfold maxLen; omega))
  have Q6 := Lib.hid (regrown_calls (w := W) fun w1 hb => (staysLines_any a.lines a.lines A a.lines.length a.lines.length c 0 B g cap w1 (h.rm.below hb) rfl (rar w1 hb) (by omega) (by omega)).mono fun e w' (hh : _ ∧ Drew w1 w') => ⟨hh.1, hh.2.below⟩)
  rw [sameJ_self] at Q4 Q5
  rw [hTT] at Q1
  rw [show (a.lines == a.lines) = true by simp] at Q6
  obtain ⟨a0, a1, a2, a3, a4, a5⟩ := six_cells h.ja
  obtain ⟨e0, e1, e2, e3, e4, e5⟩ := six_cells h.jb
  obtain ⟨m0, m1, m2, m3, m4, m5⟩ := six_cells h.jm
  obtain ⟨k0, k1, k2, k3, k4, k5⟩ := six_cells h.j1
  replace a0 := cell_regrown a0; replace a1 := cell_regrown a1; replace a2 := cell_regrown a2; replace a3 := cell_regrown a3; replace a4 := cell_regrown a4; replace a5 := cell_regrown a5
  replace e0 := cell_regrown e0; replace e1 := cell_regrown e1; replace e2 := cell_regrown e2; replace e3 := cell_regrown e3; replace e4 := cell_regrown e4; replace e5 := cell_regrown e5
  replace m0 := cell_regrown m0; replace m1 := cell_regrown m1; replace m2 := cell_regrown m2; replace m3 := cell_regrown m3; replace m4 := cell_regrown m4; replace m5 := cell_regrown m5
  replace k0 := cell_regrown k0; replace k1 := cell_regrown k1; replace k2 := cell_regrown k2; replace k3 := cell_regrown k3; replace k4 := cell_regrown k4; replace k5 := cell_regrown k5
  have HKA := Lib.hid KA
  have HB := Lib.hid hbel
  have HQ := Lib.hid hQ
  clear h rmr rar rbr r1r hBz KA hbel hQ hTT
  unfold Jrn.val at Q1 Q2 Q3 Q4 Q5
  generalize sameJ a b = z at *
  have tt : (T == T) = true := by simp
  have tz : (z == z) = true := by simp
  conv => arg 2; whnf
  conv => arg 4; dsimp only
  refine wp_region_below_tail 31 (by kernel_rfl) (by kernel_rfl) ?_
  simp only [List.take_succ_cons, List.take_zero, List.drop_succ_cons, List.drop_zero]
  repeat (go_big_quiet_step (fail))
  go_big_quiet_want
  go_big_quiet_op
  go_big_quiet_call (exact Q1.out _ _)
  repeat (go_big_quiet_step (fail))
  go_big_quiet_want
  go_big_quiet_op
  go_big_quiet_call (exact Q2.out _ _)
  repeat (go_big_quiet_step (fail))
  go_big_quiet_want
  go_big_quiet_op
  go_big_quiet_call (exact Q3.out _ _)
  repeat (go_big_quiet_step (fail))
  go_big_quiet_want
  go_big_quiet_op
  go_big_quiet_call (exact Q4.out _ _)
  repeat (go_big_quiet_step (fail))
  go_big_quiet_want
  go_big_quiet_op
  go_big_quiet_call (exact Q5.out _ _)
  repeat (go_big_quiet_step (fail))
  go_big_quiet_want
  go_big_quiet_op
  go_big_quiet_call (exact Q6.out _ _)
  repeat (go_big_quiet_step (fail))
  refine wpQuiet_nil ?_
  intro w2 hw2
  have HB3 : Hid (Below W.heap.size W w2) := by
    obtain ⟨p, rfl⟩ := hw2
    exact below_regrown _ _ _
  clear hw2 Q1 Q2 Q3 Q4 Q5 Q6 a0 a1 a2 a3 a4 a5 e0 e1 e2 e3 e4 e5 m0 m1 m2 m3 m4 m5 k0 k1 k2 k3 k4 k5
  go_wp2_with fail
  refine (HKA.out w2 HB3.out).mono ?_
  rintro e w3 ⟨rfl, hb3⟩
  have HB4 : Hid (Below w0.heap.size w0 w3) := (HB.out.trans (HB3.out.mono HB.out.size)).trans (hb3.mono hBk)
  clear hb3
  go_wp2_with fail
  exact HQ.out _ _ _ _ _ _ _ _ _ _ _ _ _ _ _ _ _ _ _ _ _ _ _ _ _ _ _ _ _ _ _ _ _ _ w3 HB4.out

set_option maxRecDepth 100000 in
set_option maxHeartbeats 8000000 in
theorem etTail_any (s0 s1 s4 s6 s7 s8 s10 s14 s15 s16 s17 s18 s19 s20 s21 s22 s23 s24 s25 s26 s27 s28 s29 s30 s31 s32 s33 s34 s35 s36 s37 s38 s39 s40 s41 s42 s43 s44 s45 s46 s47 s48 s49 s50 s51 s52 s53 s54 s55 s56 s57 s58 s59 s60 s61 s62 s63 s64 s65 s66 s67 s68 s69 s70 s71 s72 s73 s74 s75 s76 s77 s78 s79 s80 s81 s82 s83 s84 s85 s86 s87 s88 s89 s90 s91 s92 s93 s94 s95 s96 s97 s98 s99 s100 s101 s102 s103 s104 s105 s106 s107 s108 s109 s110 s111 s112 s113 s114 s115 s116 s117 s118 s119 s120 s121 s122 s123 s124 s125 s126 s127 s128 s129 s130 : Value) (w0 : World) (T : Int) (a b : Jrn) (hTT : totalJ a = T) (A Ab A1 A2 : Option Addr) (c nb cb cap c1 c2 B ab bb mb b1 b2 kb g : Nat) (W : World) (h : TellAt W B ab bb mb b1 g a b A Ab A1 c nb cb cap c1)
    (j2 : JAt W b2 a A2 a.lines.length c2) (hk : BookAt W kb fun _ => .slice none 0 0) (o1 : W.ownsRow kb 34 3 (.slice A1 a.lines.length c1) a.lines.length (lins a.lines)) (o2 : W.ownsRow kb 34 3 (.slice A2 a.lines.length c2) a.lines.length (lins a.lines)) (hd : Dis A1 A2 a.lines.length c1 c2)
    (hlow : B ≤ kb ∧ g < kb) (hBk : w0.heap.size ≤ kb) (hbel : Below w0.heap.size w0 W) :
    Code.wp Tryz.prog etTail (bodyPost Tryz.prog Tryz.f3 fun e w' => e = .returned (.bool true) ∧ Below w0.heap.size w0 w') ⟨#[s0, s1, .pointer (some ⟨ab, 0, none⟩), .pointer (some ⟨bb, 0, none⟩), s4, .pointer (some ⟨mb, 0, none⟩), s6, s7, s8, .int .i64 T, s10, .pointer (some ⟨kb, 0, none⟩), .pointer (some ⟨b1, 0, none⟩), .pointer (some ⟨b2, 0, none⟩), s14, s15, s16, s17, s18, s19, s20, s21, s22, s23, s24, s25, s26, s27, s28, s29, s30, s31, s32, s33, s34, s35, s36, s37, s38, s39, s40, s41, s42, s43, s44, s45, s46, s47, s48, s49, s50, s51, s52, s53, s54, s55, s56, s57, s58, s59, s60, s61, s62, s63, s64, s65, s66, s67, s68, s69, s70, s71, s72, s73, s74, s75, s76, s77, s78, s79, s80, s81, s82, s83, s84, s85, s86, s87, s88, s89, s90, s91, s92, s93, s94, s95, s96, s97, s98, s99, s100, s101, s102, s103, s104, s105, s106, s107, s108, s109, s110, s111, s112, s113, s114, s115, s116, s117, s118, s119, s120, s121, s122, s123, s124, s125, s126, s127, s128, s129, s130], []⟩ W := by
  have hna := h.na
  have k0 := Kind.Kept.new kLines W kb kb _ hk (Nat.le_refl _) rfl rfl (fun _ => .bool false) (fun _ => .bool false) (fun _ => 0) (fun _ => [])
  have K1 := Lib.hid (bookLines_any kb kb 0 a.lines.length c1 _ _ _ _ _ A1 a.lines W k0 (by omega) o1 (by omega) (fun i hi => by omega))
  have H := Lib.hid h
  have HTT := Lib.hid hTT
  have J2 := Lib.hid j2
  have O2 := Lib.hid o2
  have HD := Lib.hid hd
  have HB := Lib.hid hbel
  have q4 := (six_cells h.j1).2.2.2.2.1
  clear h j2 o1 o2 hd hbel k0 hk hTT
  conv => arg 2; whnf
  conv => arg 4; dsimp only
  go_wp2_with fail
  refine K1.out.mono ?_
  rintro e w1 ⟨rfl, F1, cv1, hk1, hF1, hb1, hcv1, ho1⟩
  have hS : ¬ 24 ∈ [kLines.t, 47] := by decide
  have hSL : ¬ 34 ∈ [kLines.t, 47] := by decide
  have J21 := ho1.jat J2.out hS
  have O21 := ho1.own O2.out hSL
  have q5 := (six_cells J21).2.2.2.2.1
  have K2 := Lib.hid (bookLines_any kb kb 1 a.lines.length c2 _ _ _ _ _ A2 a.lines w1 hk1 (by omega) O21 (by omega) (fun i hi k hk => by
    obtain rfl : i = 0 := by omega
    rw [upd_same]
    exact HD.out k hk))
  have HO1 := Lib.hid ho1
  have HB1 := Lib.hid hb1
  have HF1 := Lib.hid hF1
  clear hk1 hF1 hb1 hcv1 ho1 J21 O21 q4
  go_wp2_with fail
  refine K2.out.mono ?_
  rintro e w2 ⟨rfl, F2, cv2, hk2, hF2, hb2, hcv2, ho2⟩
  have ho : Only [kLines.t, 47] W w2 := HO1.out.trans ho2
  have hb : Below kb W w2 := HB1.out.trans hb2
  have h2 : TellAt w2 B ab bb mb b1 g a b A Ab A1 c nb cb cap c1 := by
    have h := H.out
    refine ⟨ho.jat h.ja hS, ho.jat h.jb hS, ho.jat h.jm hS, ho.jat h.j1 hS, h.ra.below (hb.mono hlow.1), h.rb.below (hb.mono hlow.1), ?_, ?_, Nat.le_trans h.bB hb.size, h.na, h.nb, h.sa⟩
    · exact own_kept h.rm fun k hk he => by
        have : g = k := by simpa [Value.ownBlock] using he
        exact hb.block k (by omega)
    · have hown := hk2.2.2.2.2.2.1.1 0 (by omega)
      rw [upd_other _ _ (by decide), upd_same] at hown
      exact rd_of_own hown
  have KA : Hid (∀ w', Below w2.heap.size w2 w' → Calls Tryz.prog 17 #[.pointer (some ⟨kb, 0, none⟩)] w' fun e w'' => e = .returned (.bool true) ∧ Below kb w' w'') := fun w' hbw => by
    have hk3 := (hk2.below hbw).congr (N' := fun i => ((fun _ => a.lines) i : List Lin).length) (L' := fun i => lins ((fun _ => a.lines) i)) (fun i hi => by
      by_cases e : i = 1
      · simp [e]
      · have : i = 0 := by omega
        simp [this]) (fun i hi => by
      by_cases e : i = 1
      · simp [e]
      · have : i = 0 := by omega
        simp [this])
    refine apartLines_any kb kb F2 w' 2 _ _ (fun _ => a.lines) hk3 (by omega) (fun i _ => by omega) fun k hk n8 n9 => ?_
    rw [hF2 k n8 n9, HF1.out k n8 n9]
  have H2 := Lib.hid h2
  have HB2 : Hid (Below w0.heap.size w0 w2) := HB.out.trans (hb.mono hBk)
  clear hk2 hF2 hb2 hcv2 ho2 ho hb h2 q5
  go_wp2_with fail
  refine etR18_any _ _ _ _ _ _ _ _ _ _ _ _ _ _ _ _ _ _ _ _ _ _ _ _ _ _ _ _ _ _ _ _ _ _ _ _ _ _ _ _ _ _ _ _ _ _ _ _ _ _ _ _ _ _ _ _ _ _ _ _ _ _ _ _ _ _ _ _ _ _ _ _ _ _ _ _ _ _ _ _ _ _ _ _ _ _ _ _ _ _ _ _ _ _ _ _ _ _ _ _ _ _ _ _ _ _ _ _ _ _ _ _ _ _ _ _ _ _ _ _ _ _ _ _ _ _ w0 T a b HTT.out A Ab A1 c nb cb cap c1 B ab bb mb b1 kb g kb w2 H2.out KA.out hBk HB2.out ?_
  intro u97 u98 u99 u100 u101 u102 u103 u104 u105 u106 u107 u108 u109 u110 u111 u112 u113 u114 u115 u116 u117 u118 u119 u120 u121 u122 u123 u124 u125 u126 u127 u128 u129 u130 w3 hb3
  have HB3 := Lib.hid hb3
  clear hb3
  go_wp2_with fail
  go_ret
  exact ⟨rfl, HB3.out⟩
end Go.Proofs.YtbdhhfaelnnocaaGreatDoor
