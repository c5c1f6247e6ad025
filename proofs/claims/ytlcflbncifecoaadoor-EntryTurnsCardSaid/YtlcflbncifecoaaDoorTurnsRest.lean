/-
  EntryTurns: its last region.
-/
import Derived.Test.YtlcflbncifecoaaDoorEntryParse
import Derived.Test.YtlcflbncifecoaaDoorEntrySame
import Derived.Test.YtlcflbncifecoaaDoorEntryTotal
import Derived.Test.YtlcflbncifecoaaDoorCodeSub
import Derived.Test.YtlcflbncifecoaaDoorEntryLineText
namespace Go.Proofs.YtlcflbncifecoaaDoor
open Go.RowKit Go.Sort

noncomputable def tuR14 : Code := subCode [1, 1, 1, 1, 1, 1, 1, 1, 1, 1, 1, 0] (Tryd.f4.body.getD .skip)
noncomputable def tuR15 : Code := subCode [1, 1, 1, 1, 1, 1, 1, 1, 1, 1, 1, 1] (Tryd.f4.body.getD .skip)
set_option maxRecDepth 100000 in
set_option maxHeartbeats 4000000 in
theorem tu14_any (s0 s1 s2 s4 s5 s7 s9 s10 s11 s15 s16 s17 s18 s19 s20 s21 s22 s23 s24 s25 s26 s27 s28 s29 s30 s31 s32 s33 s34 s35 s36 s37 s38 s39 s40 s41 s42 s43 s44 s45 s46 s47 s48 s49 s50 s51 s52 s53 s54 s55 s56 s57 s58 s59 s60 s61 s62 s63 s64 s65 s66 s67 s68 s69 s70 s71 s72 s73 s74 s75 s76 s77 s78 s79 s80 s81 s82 s83 s84 s85 s86 s87 s88 : Value) (j V : Jrn) (A A5 A11 A13 : Option Addr) (n n5 c c5 c11 c13 ab cb db : Nat) (r6 : Bool) (w W : World)
    (hj : JAt W w.heap.size j A n c) (ha : JAt W ab V A5 n5 c5) (hc : JAt W cb ⟨j.id, j.ent, j.per, ⟨#[]⟩, j.lines, false⟩ A11 n c11) (hd : JAt W db ⟨j.id, j.ent, j.per, ⟨#[]⟩, j.lines, false⟩ A13 n c13)
    (rj : Rd W w.heap.size 3 A n (lins j.lines)) (ra : Rd W W.heap.size 3 A5 n5 (lins V.lines)) (rc : Rd W W.heap.size 3 A11 n (lins j.lines)) (rd : Rd W W.heap.size 3 A13 n (lins j.lines))
    (hn : n ≤ maxLen) (hn5 : n5 ≤ maxLen) (hs : j.ref.size ≤ maxLen) (hVs : V.ref.size ≤ maxLen) (hT : totalJ V = totalJ j) (hBel : Below w.heap.size w W)
    (K : Act → World → Prop) (hK : ∀ a w7, Code.wp Tryd.prog tuR15 (bodyPost Tryd.prog Tryd.f4 fun e w' => e = .returned (.bool true) ∧ Below w.heap.size w w') a w7 → K a w7) :
    Code.wp Tryd.prog tuR14 (Exit.then K (bodyPost Tryd.prog Tryd.f4 fun e w' => e = .returned (.bool true) ∧ Below w.heap.size w w')) ⟨#[s0, s1, s2, .pointer (some ⟨w.heap.size, 0, none⟩), s4, s5, .bool r6, s7, .pointer (some ⟨ab, 0, none⟩), s9, s10, s11, .pointer (some ⟨cb, 0, none⟩), .int .i64 0, .pointer (some ⟨db, 0, none⟩), s15, s16, s17, s18, s19, s20, s21, s22, s23, s24, s25, s26, s27, s28, s29, s30, s31, s32, s33, s34, s35, s36, s37, s38, s39, s40, s41, s42, s43, s44, s45, s46, s47, s48, s49, s50, s51, s52, s53, s54, s55, s56, s57, s58, s59, s60, s61, s62, s63, s64, s65, s66, s67, s68, s69, s70, s71, s72, s73, s74, s75, s76, s77, s78, s79, s80, s81, s82, s83, s84, s85, s86, s87, s88], []⟩ W := by
  have hzw := hBel.size
  have q1 := regrown_calls (w := W) fun w1 hb => (show Calls Tryd.prog 12 #[.agg #[.int .i64 j.id, .int .i64 j.ent, .int .i64 j.per, .string ⟨#[]⟩, .slice A11 n c11, .bool false], .agg #[.int .i64 j.id, .int .i64 j.ent, .int .i64 j.per, .string ⟨#[]⟩, .slice A13 n c13, .bool false]] w1 fun e w' => e = .returned (.bool true) ∧ Below w1.heap.size w1 w' from
    (refSame_any ⟨j.id, j.ent, j.per, ⟨#[]⟩, j.lines, false⟩ ⟨j.id, j.ent, j.per, ⟨#[]⟩, j.lines, false⟩ A11 A13 n n c11 c13 W.heap.size W.heap.size w1 (rc.far hb (Nat.le_refl _)) (rd.far hb (Nat.le_refl _)) hb.size hb.size hn hn).mono fun e w' h => ⟨by rw [h.1, sameJ_iff.2 rfl], h.2⟩)
  have q2 := regrown_calls (w := W) fun w1 hb => (show Calls Tryd.prog 19 #[.agg #[.int .i64 V.id, .int .i64 V.ent, .int .i64 V.per, .string V.ref, .slice A5 n5 c5, .bool V.void]] w1 fun e w' => e = .returned (.int .i64 (totalJ j)) ∧ Below w1.heap.size w1 w' from
    (total_any V A5 n5 c5 W.heap.size w1 (ra.far hb (Nat.le_refl _)) hb.size hn5 hVs).mono fun e w' h => ⟨by rw [h.1, hT], h.2⟩)
  have q3 := regrown_calls (w := W) fun w1 hb => (show Calls Tryd.prog 19 #[.agg #[.int .i64 j.id, .int .i64 j.ent, .int .i64 j.per, .string j.ref, .slice A n c, .bool j.void]] w1 fun e w' => e = .returned (.int .i64 (totalJ j)) ∧ Below w1.heap.size w1 w' from
    total_any j A n c w.heap.size w1 (rj.far hb hzw) (Nat.le_trans hzw hb.size) hn hs)
  have Q1 := Lib.hid q1
  have Q2 := Lib.hid q2
  have Q3 := Lib.hid q3
  obtain ⟨b0, b1, b2, b3, b4, b5⟩ := six_cells hj
  obtain ⟨a0, a1, a2, a3, a4, a5⟩ := six_cells ha
  obtain ⟨c0, c1, c2, c3, c4, c5'⟩ := six_cells hc
  obtain ⟨d0, d1, d2, d3, d4, d5⟩ := six_cells hd
  dsimp only at c0 c1 c2 c3 c4 c5' d0 d1 d2 d3 d4 d5
  replace b0 := cell_regrown b0
  replace b1 := cell_regrown b1
  replace b2 := cell_regrown b2
  replace b3 := cell_regrown b3
  replace b4 := cell_regrown b4
  replace b5 := cell_regrown b5
  replace a0 := cell_regrown a0
  replace a1 := cell_regrown a1
  replace a2 := cell_regrown a2
  replace a3 := cell_regrown a3
  replace a4 := cell_regrown a4
  replace a5 := cell_regrown a5
  replace c0 := cell_regrown c0
  replace c1 := cell_regrown c1
  replace c2 := cell_regrown c2
  replace c3 := cell_regrown c3
  replace c4 := cell_regrown c4
  replace c5' := cell_regrown c5'
  replace d0 := cell_regrown d0
  replace d1 := cell_regrown d1
  replace d2 := cell_regrown d2
  replace d3 := cell_regrown d3
  replace d4 := cell_regrown d4
  replace d5 := cell_regrown d5
  have HB := Lib.hid hBel
  have HK := Lib.hid hK
  clear q1 q2 q3 hj ha hc hd rj ra rc rd hT hBel hK
  generalize totalJ j = T at *
  have tt : (T == T) = true := by simp
  conv => arg 2; whnf
  conv => arg 4; dsimp only
  refine wp_region_quiet_below (by kernel_rfl) (by kernel_rfl) ?_
  repeat (quiet_step (fail))
  quiet_step (exact Q1.out _ _)
  repeat (quiet_step (fail))
  quiet_step (exact Q2.out _ _)
  repeat (quiet_step (fail))
  quiet_step (exact Q3.out _ _)
  repeat (quiet_step (fail))
  refine wpQuiet_nil ?_
  intro _ hw'
  obtain ⟨⟨dq, osq⟩, hw''⟩ := hw'
  subst hw''
  refine HK.out _ _ ?_
  conv => arg 2; whnf
  go_wp2_with fail
  go_ret
  exact ⟨rfl, HB.out.trans ((below_regrown W dq osq).mono HB.out.size)⟩
end Go.Proofs.YtlcflbncifecoaaDoor
