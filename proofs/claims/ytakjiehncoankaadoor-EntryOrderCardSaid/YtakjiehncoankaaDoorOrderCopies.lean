/-
  EntryOrder: the region that makes three copies.
-/
import Derived.Test.YtakjiehncoankaaDoorOrderHeads
namespace Go.Proofs.YtakjiehncoankaaDoor
open Go.RowKit Go.Sort

theorem jat_put {w : World} {b : Nat} {a0 a1 a2 a3 a4 a5 : Value} (j : Jrn) (A : Option Addr) (n c : Nat) (h : w.heap[b]? = some (.cells #[a0, a1, a2, a3, a4, a5] 24 (0, 0))) :
    JAt ((((((w.setCell ⟨b, 0, none⟩ (.int .i64 j.id)).setCell ⟨b, 1, none⟩ (.int .i64 j.ent)).setCell ⟨b, 2, none⟩ (.int .i64 j.per)).setCell ⟨b, 3, none⟩ (.string j.ref)).setCell ⟨b, 4, none⟩ (.slice A n c)).setCell ⟨b, 5, none⟩ (.bool j.void)) b j A n c := by
  unfold JAt
  rw [set_here (set_here (set_here (set_here (set_here (set_here h)))))]
  rfl
theorem six_other {w : World} {b q : Nat} (hq : q ≠ b) (v0 v1 v2 v3 v4 v5 : Value) : ((((((w.setCell ⟨b, 0, none⟩ v0).setCell ⟨b, 1, none⟩ v1).setCell ⟨b, 2, none⟩ v2).setCell ⟨b, 3, none⟩ v3).setCell ⟨b, 4, none⟩ v4).setCell ⟨b, 5, none⟩ v5).heap[q]? = w.heap[q]? := by
  have e : ∀ (u : World) (i : Nat) (v : Value), (u.setCell ⟨b, i, none⟩ v).heap[q]? = u.heap[q]? := fun u i v => Below.heap_setCell _ _ _ _ hq
  rw [e, e, e, e, e, e]
theorem row_six {W w : World} {j : Jrn} {n g c b : Nat} (h : Row W w j n g c) (hb : b ≠ g) (v0 v1 v2 v3 v4 v5 : Value) : Row W ((((((w.setCell ⟨b, 0, none⟩ v0).setCell ⟨b, 1, none⟩ v1).setCell ⟨b, 2, none⟩ v2).setCell ⟨b, 3, none⟩ v3).setCell ⟨b, 4, none⟩ v4).setCell ⟨b, 5, none⟩ v5) j n g c := by
  refine own_kept h fun q _ hq => six_other ?_ _ _ _ _ _ _
  have e : g = q := by simpa [Value.ownBlock] using hq
  omega
theorem Row.ne {W w : World} {j jj : Jrn} {n g c b n' c' : Nat} {A : Option Addr} (h : Row W w j n g c) (hb : JAt w b jj A n' c') : b ≠ g := by
  rintro rfl
  exact own_ne h hb (by decide) rfl

set_option maxRecDepth 100000 in
set_option maxHeartbeats 4000000 in
theorem eoR4_any (s0 s1 s2 s4 s5 s6 s7 s8 s9 s10 s11 s12 s13 s14 s15 s16 s17 s18 s19 s20 s21 s22 s23 s24 s25 s26 s27 s28 s29 s30 s31 s32 s33 s34 s35 s36 s37 s38 s39 s40 s41 s42 s43 s44 s45 s46 s47 s48 s49 s50 s51 s52 s53 s54 s55 s56 s57 s58 s59 s60 s61 s62 s63 s64 s65 s66 s67 s68 s69 s70 s71 s72 s73 s74 s75 s76 s77 s78 s79 s80 s81 s82 s83 s84 s85 s86 s87 s88 s89 s90 s91 s92 s93 s94 s95 s96 s97 s98 s99 s100 : Value) (Q0 : Exit → Act → World → Prop) (j : Jrn) (A : Option Addr) (n c jb B : Nat) (W : World) (hj : JAt W jb j A n c) (hR : Rd W B 3 A n (lins j.lines)) (hB : B ≤ W.heap.size) (hn : n ≤ 1000) (hn1 : 0 < n)
    (hQ : ∀ (u39 u40 u41 u42 u43 u44 : Value) (b1 b2 b3 g1 g2 g3 c1 c2 c3 : Nat) (w : World), JAt w b1 j (some ⟨g1, 0, none⟩) n c1 → JAt w b2 j (some ⟨g2, 0, none⟩) n c2 → JAt w b3 j (some ⟨g3, 0, none⟩) n c3 → Row W w j n g1 c1 → Row W w j n g2 c2 → Row W w j n g3 c3 → g1 < g2 ∧ g2 < g3 ∧ b1 ≠ b2 ∧ b1 ≠ b3 ∧ b2 ≠ b3 ∧ W.heap.size ≤ b1 ∧ W.heap.size ≤ b2 ∧ W.heap.size ≤ b3 → Below W.heap.size W w →
      Q0 .normal ⟨#[s0, s1, s2, .pointer (some ⟨jb, 0, none⟩), s4, s5, s6, s7, .pointer (some ⟨b1, 0, none⟩), .pointer (some ⟨b2, 0, none⟩), .pointer (some ⟨b3, 0, none⟩), s11, s12, s13, s14, s15, s16, s17, s18, s19, s20, s21, s22, s23, s24, s25, s26, s27, s28, s29, s30, s31, s32, s33, s34, s35, s36, s37, s38, u39, u40, u41, u42, u43, u44, s45, s46, s47, s48, s49, s50, s51, s52, s53, s54, s55, s56, s57, s58, s59, s60, s61, s62, s63, s64, s65, s66, s67, s68, s69, s70, s71, s72, s73, s74, s75, s76, s77, s78, s79, s80, s81, s82, s83, s84, s85, s86, s87, s88, s89, s90, s91, s92, s93, s94, s95, s96, s97, s98, s99, s100], []⟩ w) :
    Code.wp Tryd.prog eoR4 Q0 ⟨#[s0, s1, s2, .pointer (some ⟨jb, 0, none⟩), s4, s5, s6, s7, s8, s9, s10, s11, s12, s13, s14, s15, s16, s17, s18, s19, s20, s21, s22, s23, s24, s25, s26, s27, s28, s29, s30, s31, s32, s33, s34, s35, s36, s37, s38, s39, s40, s41, s42, s43, s44, s45, s46, s47, s48, s49, s50, s51, s52, s53, s54, s55, s56, s57, s58, s59, s60, s61, s62, s63, s64, s65, s66, s67, s68, s69, s70, s71, s72, s73, s74, s75, s76, s77, s78, s79, s80, s81, s82, s83, s84, s85, s86, s87, s88, s89, s90, s91, s92, s93, s94, s95, s96, s97, s98, s99, s100], []⟩ W := by
  have HQ := Lib.hid hQ
  clear hQ
  rw [eoR4_eq]
  refine wp_region_any (by kernel_rfl) ?_
  change wpAny Tryd.prog .any eoOps Q0 (9 + 3) #[false, false, false, false, false, false, false, false, false, false, false, false] _ W.drew
  refine eo_heads _ _ _ _ _ _ _ _ _ _ _ _ _ _ _ _ _ _ _ _ _ _ _ _ _ _ _ _ _ _ _ _ _ _ _ _ _ _ _ _ _ _ _ _ _ _ _ _ _ _ _ _ _ _ _ _ _ _ _ _ _ _ _ _ _ _ _ _ _ _ _ _ _ _ _ _ _ _ _ _ _ _ _ _ _ _ _ _ _ _ _ Q0 j A n c jb B W.drew hj (hR.below ((Below.refl _ _).drew)) hB hn hn1 ?_ 9 false false false false false false false false false s8 s9 s10 s39 s40 s41 s42 s43 s44 W.drew rfl ⟨⟨Below.refl _ _, (fun h => by cases h), (fun h => by cases h), fun h => by cases h⟩, ⟨(fun h => by cases h), (fun h => by cases h), fun h => by cases h⟩, 0, 0, 0, 0, 0, 0, 0, 0, 0, ⟨(fun h => by cases h), (fun h => by cases h), fun h => by cases h⟩, ⟨(fun h => by cases h), (fun h => by cases h), fun h => by cases h⟩, (fun h => by cases h), (fun h => by cases h), fun h => by cases h⟩
  clear hj hR
  intro u8 u9 u10 u39 u40 u41 u42 u43 u44 w h
  obtain ⟨⟨hbel, _, _, _⟩, ⟨e1, e2, e3⟩, g1, c1, g2, c2, g3, c3, b1, b2, b3, ⟨r1, r2, r3⟩, ⟨x1, x2, x3⟩, ⟨y1, y2, y3⟩⟩ := h
  obtain ⟨rfl, R1⟩ := r1 rfl
  obtain ⟨rfl, R2, l12⟩ := r2 rfl
  obtain ⟨rfl, R3, l23⟩ := r3 rfl
  obtain ⟨rfl, B1⟩ := x1 rfl
  obtain ⟨rfl, B2⟩ := x2 rfl
  obtain ⟨rfl, B3⟩ := x3 rfl
  have n12 := y1 rfl rfl
  have n13 := y2 rfl rfl
  have n23 := y3 rfl rfl
  clear e1 e2 e3 r1 r2 r3 x1 x2 x3 y1 y2 y3
  unfold Jrn.val
  -- the variable of copy 1
  obtain ⟨p0, p1, p2, p3, p4, p5⟩ := six_cells B1.1
  have pf := fun o => warm_of B1.1 o
  refine wpAny_ready (rs := [9]) (by kernel_rfl) (by simp) ?_
  refine AllReady.cons (o := eo9) rfl (fun K hK => ?_) AllReady.nil
  unfold eo9
  go_simp
  refine hK _ _ ?_
  clear hK K p0 p1 p2 p3 p4 p5 pf
  have J1 := jat_put j (some ⟨g1, 0, none⟩) n c1 B1.1
  have hb1 := below_six hbel B1.2 (.int .i64 j.id) (.int .i64 j.ent) (.int .i64 j.per) (.string j.ref) (.slice (some ⟨g1, 0, none⟩) n c1) (.bool j.void)
  have R1' := row_six R1 (R1.ne B1.1) (.int .i64 j.id) (.int .i64 j.ent) (.int .i64 j.per) (.string j.ref) (.slice (some ⟨g1, 0, none⟩) n c1) (.bool j.void)
  have R2' := row_six R2 (R2.ne B1.1) (.int .i64 j.id) (.int .i64 j.ent) (.int .i64 j.per) (.string j.ref) (.slice (some ⟨g1, 0, none⟩) n c1) (.bool j.void)
  have R3' := row_six R3 (R3.ne B1.1) (.int .i64 j.id) (.int .i64 j.ent) (.int .i64 j.per) (.string j.ref) (.slice (some ⟨g1, 0, none⟩) n c1) (.bool j.void)
  have B2' : _ ∧ _ := And.intro ((six_other (w := w) (b := b1) (by omega) (.int .i64 j.id) (.int .i64 j.ent) (.int .i64 j.per) (.string j.ref) (.slice (some ⟨g1, 0, none⟩) n c1) (.bool j.void)).trans B2.1) B2.2
  have B3' : _ ∧ _ := And.intro ((six_other (w := w) (b := b1) (by omega) (.int .i64 j.id) (.int .i64 j.ent) (.int .i64 j.per) (.string j.ref) (.slice (some ⟨g1, 0, none⟩) n c1) (.bool j.void)).trans B3.1) B3.2
  have low1 := B1.2
  clear R1 R2 R3 hbel B1 B2 B3
  generalize (World.setCell (World.setCell (World.setCell (World.setCell (World.setCell (World.setCell w ⟨b1, 0, none⟩ (.int .i64 j.id)) ⟨b1, 1, none⟩ (.int .i64 j.ent)) ⟨b1, 2, none⟩ (.int .i64 j.per)) ⟨b1, 3, none⟩ (.string j.ref)) ⟨b1, 4, none⟩ (.slice (some ⟨g1, 0, none⟩) n c1)) ⟨b1, 5, none⟩ (.bool j.void)) = w1 at *
  have R1 := R1'
  have R2 := R2'
  have R3 := R3'
  have B2 : Box W.drew w1 b2 := B2'
  have B3 : Box W.drew w1 b3 := B3'
  have hbel := hb1
  clear hb1 R1' R2' R3' B2' B3'
  -- the variable of copy 2
  obtain ⟨p0, p1, p2, p3, p4, p5⟩ := six_cells B2.1
  have pf := fun o => warm_of B2.1 o
  refine wpAny_ready (rs := [10]) (by kernel_rfl) (by simp) ?_
  refine AllReady.cons (o := eo10) rfl (fun K hK => ?_) AllReady.nil
  unfold eo10
  go_simp
  refine hK _ _ ?_
  clear hK K p0 p1 p2 p3 p4 p5 pf
  have J2 := jat_put j (some ⟨g2, 0, none⟩) n c2 B2.1
  have hb2 := below_six hbel B2.2 (.int .i64 j.id) (.int .i64 j.ent) (.int .i64 j.per) (.string j.ref) (.slice (some ⟨g2, 0, none⟩) n c2) (.bool j.void)
  have R1' := row_six R1 (R1.ne B2.1) (.int .i64 j.id) (.int .i64 j.ent) (.int .i64 j.per) (.string j.ref) (.slice (some ⟨g2, 0, none⟩) n c2) (.bool j.void)
  have R2' := row_six R2 (R2.ne B2.1) (.int .i64 j.id) (.int .i64 j.ent) (.int .i64 j.per) (.string j.ref) (.slice (some ⟨g2, 0, none⟩) n c2) (.bool j.void)
  have R3' := row_six R3 (R3.ne B2.1) (.int .i64 j.id) (.int .i64 j.ent) (.int .i64 j.per) (.string j.ref) (.slice (some ⟨g2, 0, none⟩) n c2) (.bool j.void)
  replace J1 := (six_other (w := w1) (b := b2) (by omega) (.int .i64 j.id) (.int .i64 j.ent) (.int .i64 j.per) (.string j.ref) (.slice (some ⟨g2, 0, none⟩) n c2) (.bool j.void)).trans J1
  have B3' : _ ∧ _ := And.intro ((six_other (w := w1) (b := b2) (by omega) (.int .i64 j.id) (.int .i64 j.ent) (.int .i64 j.per) (.string j.ref) (.slice (some ⟨g2, 0, none⟩) n c2) (.bool j.void)).trans B3.1) B3.2
  have low2 := B2.2
  clear R1 R2 R3 hbel B2 B3
  generalize (World.setCell (World.setCell (World.setCell (World.setCell (World.setCell (World.setCell w1 ⟨b2, 0, none⟩ (.int .i64 j.id)) ⟨b2, 1, none⟩ (.int .i64 j.ent)) ⟨b2, 2, none⟩ (.int .i64 j.per)) ⟨b2, 3, none⟩ (.string j.ref)) ⟨b2, 4, none⟩ (.slice (some ⟨g2, 0, none⟩) n c2)) ⟨b2, 5, none⟩ (.bool j.void)) = w2 at *
  have R1 := R1'
  have R2 := R2'
  have R3 := R3'
  have B3 : Box W.drew w2 b3 := B3'
  have hbel := hb2
  clear hb2 R1' R2' R3' B3'
  -- the variable of copy 3
  obtain ⟨p0, p1, p2, p3, p4, p5⟩ := six_cells B3.1
  have pf := fun o => warm_of B3.1 o
  refine wpAny_ready (rs := [11]) (by kernel_rfl) (by simp) ?_
  refine AllReady.cons (o := eo11) rfl (fun K hK => ?_) AllReady.nil
  unfold eo11
  go_simp
  refine hK _ _ ?_
  clear hK K p0 p1 p2 p3 p4 p5 pf
  have J3 := jat_put j (some ⟨g3, 0, none⟩) n c3 B3.1
  have hb3 := below_six hbel B3.2 (.int .i64 j.id) (.int .i64 j.ent) (.int .i64 j.per) (.string j.ref) (.slice (some ⟨g3, 0, none⟩) n c3) (.bool j.void)
  have R1' := row_six R1 (R1.ne B3.1) (.int .i64 j.id) (.int .i64 j.ent) (.int .i64 j.per) (.string j.ref) (.slice (some ⟨g3, 0, none⟩) n c3) (.bool j.void)
  have R2' := row_six R2 (R2.ne B3.1) (.int .i64 j.id) (.int .i64 j.ent) (.int .i64 j.per) (.string j.ref) (.slice (some ⟨g3, 0, none⟩) n c3) (.bool j.void)
  have R3' := row_six R3 (R3.ne B3.1) (.int .i64 j.id) (.int .i64 j.ent) (.int .i64 j.per) (.string j.ref) (.slice (some ⟨g3, 0, none⟩) n c3) (.bool j.void)
  replace J1 := (six_other (w := w2) (b := b3) (by omega) (.int .i64 j.id) (.int .i64 j.ent) (.int .i64 j.per) (.string j.ref) (.slice (some ⟨g3, 0, none⟩) n c3) (.bool j.void)).trans J1
  replace J2 := (six_other (w := w2) (b := b3) (by omega) (.int .i64 j.id) (.int .i64 j.ent) (.int .i64 j.per) (.string j.ref) (.slice (some ⟨g3, 0, none⟩) n c3) (.bool j.void)).trans J2
  have low3 := B3.2
  clear R1 R2 R3 hbel B3
  generalize (World.setCell (World.setCell (World.setCell (World.setCell (World.setCell (World.setCell w2 ⟨b3, 0, none⟩ (.int .i64 j.id)) ⟨b3, 1, none⟩ (.int .i64 j.ent)) ⟨b3, 2, none⟩ (.int .i64 j.per)) ⟨b3, 3, none⟩ (.string j.ref)) ⟨b3, 4, none⟩ (.slice (some ⟨g3, 0, none⟩) n c3)) ⟨b3, 5, none⟩ (.bool j.void)) = w3 at *
  have R1 := R1'
  have R2 := R2'
  have R3 := R3'
  have hbel := hb3
  clear hb3 R1' R2' R3' 
  refine wpAny_done (by kernel_rfl) ?_ _
  exact HQ.out _ _ _ _ _ _ b1 b2 b3 g1 g2 g3 c1 c2 c3 w3 J1 J2 J3 R1 R2 R3 ⟨l12, l23, n12, n13, n23, low1, low2, low3⟩ ((Below.refl _ W).drew.trans hbel)
end Go.Proofs.YtakjiehncoankaaDoor
