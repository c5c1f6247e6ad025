/-
  The reference's Parse: what it leaves; its end.
-/
import Derived.Test.YtakjiehncoankaaDoorRefTextJ
import Derived.Test.YtakjiehncoankaaDoorRefCut
import Derived.Test.YtakjiehncoankaaDoorRefReadMonth
import Derived.Test.YtakjiehncoankaaDoorRefCheck2
namespace Go.Proofs.YtakjiehncoankaaDoor
open Go.RowKit Go.Sort

/-- What the reference's Parse leaves. -/
def RefParsed (w : World) (s : List UInt8) (e : Ending) (w' : World) : Prop :=
  (match parseJ s with
  | some j => ∃ A c, e = .returned (.tuple #[.agg #[.int .i64 j.id, .int .i64 j.ent, .int .i64 j.per, .string j.ref, .slice A j.lines.length c, .bool j.void], .bool true]) ∧ w'.ownsRow w.heap.size 39 3 (.slice A j.lines.length c) j.lines.length (lins j.lines)
  | none => e = .returned (.tuple #[.agg #[.int .i64 0, .int .i64 0, .int .i64 0, .string ⟨#[]⟩, .slice none 0 0, .bool false], .bool false])) ∧ Below w.heap.size w w'
theorem RefParsed.no {w w' : World} {s : List UInt8} (h : parseJ s = none) (hb : Below w.heap.size w w') : RefParsed w s (.returned (.tuple #[.agg #[.int .i64 0, .int .i64 0, .int .i64 0, .string ⟨#[]⟩, .slice none 0 0, .bool false], .bool false])) w' := by
  unfold RefParsed
  rw [h]
  exact ⟨rfl, hb⟩

noncomputable def rpTail : Code := subCode [1, 1, 1, 1, 1, 1, 1, 1, 1] (Tryd.f8.body.getD .skip)

set_option maxRecDepth 100000 in
set_option maxHeartbeats 4000000 in
theorem rpTail_any (s2 s3 s5 s6 s7 s8 s9 s10 s13 s14 s15 s16 s17 s18 s19 s20 s21 s22 s23 s24 s25 s26 s27 s28 s29 s30 s31 s32 s33 s34 s35 s36 s37 s38 s39 s40 s41 s42 s43 s44 s45 s46 s47 s48 s49 s50 s51 s52 s53 s54 s55 s56 s57 s58 s59 s60 s61 s62 s63 s64 s65 s66 s67 s68 s69 s70 s71 s72 s73 s74 s75 s76 s77 s78 s79 s80 s81 s82 s83 s84 s85 s86 s87 s88 s89 s90 s91 s92 s93 s94 s95 s96 s97 s98 s99 s100 s101 s102 s103 s104 s105 s106 s107 s108 s109 s110 s111 s112 s113 s114 s115 s116 s117 s118 s119 s120 s121 s122 s123 s124 s125 s126 s127 s128 s129 s130 s131 s132 s133 s134 s135 s136 s137 s138 s139 s140 s141 : Value) (s : List UInt8) (j : Jrn) (A : Option Addr) (c jb : Nat) (ok : Bool) (w wr : World) (hBel : Below w.heap.size w wr) (hres : JAt wr w.heap.size zeroJ none 0 0) (hJ : JAt wr jb j A j.lines.length c) (hjb : w.heap.size < jb) (hown : wr.ownsRow w.heap.size 39 3 (.slice A j.lines.length c) j.lines.length (lins j.lines))
    (hstar : ∀ j', parseJ s = some j' → ok = true ∧ j = j') :
    Code.wp Tryd.prog rpTail (bodyPost Tryd.prog Tryd.f8 (RefParsed w s)) ⟨#[.string (bs s), .int .u8 32, s2, s3, .pointer (some ⟨w.heap.size, 0, none⟩), s5, s6, s7, s8, s9, s10, .pointer (some ⟨jb, 0, none⟩), .bool ok, s13, s14, s15, s16, s17, s18, s19, s20, s21, s22, s23, s24, s25, s26, s27, s28, s29, s30, s31, s32, s33, s34, s35, s36, s37, s38, s39, s40, s41, s42, s43, s44, s45, s46, s47, s48, s49, s50, s51, s52, s53, s54, s55, s56, s57, s58, s59, s60, s61, s62, s63, s64, s65, s66, s67, s68, s69, s70, s71, s72, s73, s74, s75, s76, s77, s78, s79, s80, s81, s82, s83, s84, s85, s86, s87, s88, s89, s90, s91, s92, s93, s94, s95, s96, s97, s98, s99, s100, s101, s102, s103, s104, s105, s106, s107, s108, s109, s110, s111, s112, s113, s114, s115, s116, s117, s118, s119, s120, s121, s122, s123, s124, s125, s126, s127, s128, s129, s130, s131, s132, s133, s134, s135, s136, s137, s138, s139, s140, s141], []⟩ wr := by
  have hz := hBel.size
  have HB := Lib.hid hBel; have HRES := Lib.hid hres; have HJ := Lib.hid hJ; have HO := Lib.hid hown
  obtain ⟨r0, r1, r2, r3, r4, r5⟩ := six_cells hres
  have rf := fun o => warm_of hres o
  clear hBel hres hJ hown
  conv => arg 2; whnf
  conv => arg 4; dsimp only
  cases ok
  · have hno : parseJ s = none := by
      cases h : parseJ s with
      | none => rfl
      | some j' => exact absurd (hstar j' h).1 (by decide)
    have HN := Lib.hid hno
    clear hstar hno
    go_wp2_with fail
    refine bodyPost_ret (v := .tuple #[.agg #[.int .i64 0, .int .i64 0, .int .i64 0, .string ⟨#[]⟩, .slice none 0 0, .bool false], .bool false]) (by simp [results, Tryd.results8, go_sem, r0, r1, r2, r3, r4, r5]) rfl ?_
    exact RefParsed.no HN.out (below_six HB.out (Nat.le_refl _) _ _ _ _ _ _)
  · have kc := Lib.hid (refCheck_any j A j.lines.length c wr.heap.size wr (rd_of_own HO.out) (Nat.le_refl _))
    obtain ⟨z0, z1, z2, z3, z4, z5⟩ := six_cells HJ.out
    by_cases hE : checkE j = 0
    rotate_left
    · have hno : parseJ s = none := by
        cases h : parseJ s with
        | none => rfl
        | some j' =>
          have e := (hstar j' h).2
          subst e
          exact absurd (parseJ_is h).1 hE
      have HN := Lib.hid hno
      have t1 : (checkE j != 0) = true := by simpa using hE
      generalize checkE j = E at *
      unfold Jrn.val at kc
      clear hstar hno hE
      go_wp2_with fail
      refine kc.out.mono ?_
      rintro e w1 ⟨rfl, hb1⟩
      have hr1 := (hb1.block _ (lt_of_blk HRES.out)).trans HRES.out
      clear r0 r1 r2 r3 r4 r5 rf
      obtain ⟨r0, r1, r2, r3, r4, r5⟩ := six_cells hr1
      have rf := fun o => warm_of hr1 o
      have HB1 : Hid (Below w.heap.size w w1) := HB.out.trans (hb1.mono hz)
      clear hb1 z0 z1 z2 z3 z4 z5 hr1
      go_wp2_with fail
      refine bodyPost_ret (v := .tuple #[.agg #[.int .i64 0, .int .i64 0, .int .i64 0, .string ⟨#[]⟩, .slice none 0 0, .bool false], .bool false]) (by simp [results, Tryd.results8, go_sem, r0, r1, r2, r3, r4, r5]) rfl ?_
      exact RefParsed.no HN.out (below_six HB1.out (Nat.le_refl _) _ _ _ _ _ _)
    · rw [hE] at kc
      unfold Jrn.val at kc
      have HE := Lib.hid hE
      have HST := Lib.hid hstar
      clear hE hstar
      go_wp2_with fail
      refine kc.out.mono ?_
      rintro e w1 ⟨rfl, hb1⟩
      have hz1 := hb1.size
      have HB1 := Lib.hid hb1
      have HJ1 : Hid (JAt w1 jb j A j.lines.length c) := (hb1.block _ (lt_of_blk HJ.out)).trans HJ.out
      clear z0 z1 z2 z3 z4 z5 r0 r1 r2 r3 r4 r5 rf hb1
      obtain ⟨z0, z1, z2, z3, z4, z5⟩ := six_cells HJ1.out
      have ko := one_text w1 32 (by omega) (by omega)
      have ko' : (convert 54 9 (.slice (some ⟨w1.heap.size, 0, none⟩) 1 1)).run Tryd.prog (w1.alloc (.cells #[.int .u8 32] 5)) = .ok (.string ⟨#[32]⟩) (w1.alloc (.cells #[.int .u8 32] 5)) := ko
      have HO1 : Hid (w1.ownsRow w.heap.size 39 3 (.slice A j.lines.length c) j.lines.length (lins j.lines)) := own_kept HO.out fun q hq _ => HB1.out.block q hq
      have kt := Lib.hid (refTextJ_any j A j.lines.length c w1.heap.size (w1.alloc (.cells #[.int .u8 32] 5)) ((rd_of_own HO1.out).below ((Below.refl _ _).alloc (Nat.le_refl _) _)) (by simp) HE.out)
      unfold Jrn.val at kt
      clear ko
      go_wp2_with fail
      refine kt.out.mono ?_
      rintro e w2 ⟨rfl, hb2⟩
      have hb12 : Below w1.heap.size w1 w2 := ((Below.refl _ _).alloc (Nat.le_refl _) _).trans (hb2.mono (by simp))
      have HB2 : Hid (Below wr.heap.size wr w2) := HB1.out.trans (hb12.mono hz1)
      have HJ2 : Hid (JAt w2 jb j A j.lines.length c) := (hb12.block _ (lt_of_blk HJ1.out)).trans HJ1.out
      have hr2 := (HB2.out.block _ (lt_of_blk HRES.out)).trans HRES.out
      have HR2 := Lib.hid hr2
      clear z0 z1 z2 z3 z4 z5 hb2 hb12 kt ko' kc
      obtain ⟨r0, r1, r2, r3, r4, r5⟩ := six_cells hr2
      have rf := fun o => warm_of hr2 o
      have HBF : Hid (Below w.heap.size w w2) := HB.out.trans (HB2.out.mono hz)
      by_cases hT : textJ j = s
      · have t1 : ((bs (textJ j)).toList == (bs s).toList) = true := by rw [hT]; simp
        have HP := Lib.hid (parseJ_of HE.out hT)
        generalize textJ j = T at *
        obtain ⟨z0, z1, z2, z3, z4, z5⟩ := six_cells HJ2.out
        clear hr2 hT
        go_wp2_with fail
        refine bodyPost_ret (v := .tuple #[.agg #[.int .i64 j.id, .int .i64 j.ent, .int .i64 j.per, .string j.ref, .slice A j.lines.length c, .bool j.void], .bool true]) (by simp [results, Tryd.results8, go_sem, r0, r1, r2, r3, r4, r5]) rfl ?_
        unfold RefParsed
        rw [HP.out]
        have ho2 : w2.ownsRow w.heap.size 39 3 (.slice A j.lines.length c) j.lines.length (lins j.lines) := own_kept HO.out fun q hq _ => HB2.out.block q hq
        refine ⟨⟨A, c, rfl, ?_⟩, below_six HBF.out (Nat.le_refl _) _ _ _ _ _ _⟩
        refine own_kept ho2 fun q hq hq2 => ?_
        have hne : q ≠ w.heap.size := fun e => own_ne ho2 HR2.out (by decide) (by rw [← e]; exact hq2)
        have e : ∀ (u : World) (i : Nat) (v : Value), (u.setCell ⟨w.heap.size, i, none⟩ v).heap[q]? = u.heap[q]? := fun u i v => Below.heap_setCell _ _ _ _ hne
        rw [e, e, e, e, e, e]
      · have t1 : ((bs (textJ j)).toList == (bs s).toList) = false := by
          rw [ByteArray.toList_eq, ByteArray.toList_eq, bs_list, bs_list, beq_eq_false_iff_ne]
          exact hT
        have hno : parseJ s = none := by
          cases h : parseJ s with
          | none => rfl
          | some j' =>
            have e := (HST.out j' h).2
            subst e
            exact absurd (parseJ_is h).2 hT
        have HN := Lib.hid hno
        generalize textJ j = T at *
        clear hno hT hr2
        go_wp2_with fail
        refine bodyPost_ret (v := .tuple #[.agg #[.int .i64 0, .int .i64 0, .int .i64 0, .string ⟨#[]⟩, .slice none 0 0, .bool false], .bool false]) (by simp [results, Tryd.results8, go_sem, r0, r1, r2, r3, r4, r5]) rfl ?_
        exact RefParsed.no HN.out (below_six HBF.out (Nat.le_refl _) _ _ _ _ _ _)
end Go.Proofs.YtakjiehncoankaaDoor
