/-
  EntryOrder: three copies and three variables, made in whatever order: the walk.
-/
import Derived.Test.YtakjiehncoankaaDoorOrderInv
namespace Go.Proofs.YtakjiehncoankaaDoor
open Go.RowKit Go.Sort

def nb (d : Bool) : Nat := if d = true then 0 else 1
theorem nb_t {d : Bool} (h : nb d = 0) : d = true := by cases d; cases h; rfl
theorem nb_f : nb false = 1 := rfl
theorem nb_tt : nb true = 0 := rfl

set_option maxRecDepth 100000 in
set_option maxHeartbeats 4000000 in
theorem eo_heads (s0 s1 s2 s4 s5 s6 s7 s11 s12 s13 s14 s15 s16 s17 s18 s19 s20 s21 s22 s23 s24 s25 s26 s27 s28 s29 s30 s31 s32 s33 s34 s35 s36 s37 s38 s45 s46 s47 s48 s49 s50 s51 s52 s53 s54 s55 s56 s57 s58 s59 s60 s61 s62 s63 s64 s65 s66 s67 s68 s69 s70 s71 s72 s73 s74 s75 s76 s77 s78 s79 s80 s81 s82 s83 s84 s85 s86 s87 s88 s89 s90 s91 s92 s93 s94 s95 s96 s97 s98 s99 s100 : Value) (Q0 : Exit → Act → World → Prop) (j : Jrn) (A : Option Addr) (n c jb B : Nat) (W : World) (hj : JAt W jb j A n c) (hR : Rd W B 3 A n (lins j.lines)) (hB : B ≤ W.heap.size) (hn : n ≤ 1000) (hn1 : 0 < n)
    (hend : ∀ (u8 u9 u10 u39 u40 u41 u42 u43 u44 : Value) (w : World), OI W j A n c true true true true true true true true true u8 u9 u10 u39 u40 u41 u42 u43 u44 w → wpAny Tryd.prog .any eoOps Q0 3 #[true, true, true, true, true, true, true, true, true, false, false, false] ⟨#[s0, s1, s2, .pointer (some ⟨jb, 0, none⟩), s4, s5, s6, s7, u8, u9, u10, s11, s12, s13, s14, s15, s16, s17, s18, s19, s20, s21, s22, s23, s24, s25, s26, s27, s28, s29, s30, s31, s32, s33, s34, s35, s36, s37, s38, u39, u40, u41, u42, u43, u44, s45, s46, s47, s48, s49, s50, s51, s52, s53, s54, s55, s56, s57, s58, s59, s60, s61, s62, s63, s64, s65, s66, s67, s68, s69, s70, s71, s72, s73, s74, s75, s76, s77, s78, s79, s80, s81, s82, s83, s84, s85, s86, s87, s88, s89, s90, s91, s92, s93, s94, s95, s96, s97, s98, s99, s100], []⟩ w) :
    ∀ (f : Nat) (d0 d1 d2 d3 d4 d5 d6 d7 d8 : Bool) (u8 u9 u10 u39 u40 u41 u42 u43 u44 : Value) (w : World), nb d0 + nb d1 + nb d2 + nb d3 + nb d4 + nb d5 + nb d6 + nb d7 + nb d8 = f → OI W j A n c d0 d1 d2 d3 d4 d5 d6 d7 d8 u8 u9 u10 u39 u40 u41 u42 u43 u44 w → wpAny Tryd.prog .any eoOps Q0 (f + 3) #[d0, d1, d2, d3, d4, d5, d6, d7, d8, false, false, false] ⟨#[s0, s1, s2, .pointer (some ⟨jb, 0, none⟩), s4, s5, s6, s7, u8, u9, u10, s11, s12, s13, s14, s15, s16, s17, s18, s19, s20, s21, s22, s23, s24, s25, s26, s27, s28, s29, s30, s31, s32, s33, s34, s35, s36, s37, s38, u39, u40, u41, u42, u43, u44, s45, s46, s47, s48, s49, s50, s51, s52, s53, s54, s55, s56, s57, s58, s59, s60, s61, s62, s63, s64, s65, s66, s67, s68, s69, s70, s71, s72, s73, s74, s75, s76, s77, s78, s79, s80, s81, s82, s83, s84, s85, s86, s87, s88, s89, s90, s91, s92, s93, s94, s95, s96, s97, s98, s99, s100], []⟩ w := by
  intro f
  induction f with
  | zero =>
    intro d0 d1 d2 d3 d4 d5 d6 d7 d8 u8 u9 u10 u39 u40 u41 u42 u43 u44 w hc h
    obtain rfl : d0 = true := nb_t (by omega)
    obtain rfl : d1 = true := nb_t (by omega)
    obtain rfl : d2 = true := nb_t (by omega)
    obtain rfl : d3 = true := nb_t (by omega)
    obtain rfl : d4 = true := nb_t (by omega)
    obtain rfl : d5 = true := nb_t (by omega)
    obtain rfl : d6 = true := nb_t (by omega)
    obtain rfl : d7 = true := nb_t (by omega)
    obtain rfl : d8 = true := nb_t (by omega)
    exact hend u8 u9 u10 u39 u40 u41 u42 u43 u44 w h
  | succ f ih =>
    intro d0 d1 d2 d3 d4 d5 d6 d7 d8 u8 u9 u10 u39 u40 u41 u42 u43 u44 w hc h
    have hz := h.1.1.size
    have hjw : JAt w jb j A n c := (h.1.1.block jb (lt_of_blk hj)).trans hj
    have hRw : Rd w B 3 A n (lins j.lines) := hR.below (h.1.1.mono hB)
    obtain ⟨z0, z1, z2, z3, z4, z5⟩ := six_cells hjw
    rw [show f + 1 + 3 = (f + 3) + 1 by omega]
    refine ⟨fun hr => ?_, fun i hi => ?_⟩
    · exfalso
      have go : ∀ i, i ∈ Region.ready .any eoOps #[d0, d1, d2, d3, d4, d5, d6, d7, d8, false, false, false] → False := fun i hi => by rw [hr] at hi; cases hi
      cases d0
      · exact go 0 (mem_ready.2 ⟨rfl, eo0, rfl, fun e he => by simp [eo0] at he⟩)
      cases d2
      · exact go 2 (mem_ready.2 ⟨rfl, eo2, rfl, fun e he => by simp [eo2] at he⟩)
      cases d4
      · exact go 4 (mem_ready.2 ⟨rfl, eo4, rfl, fun e he => by simp [eo4] at he⟩)
      cases d6
      · exact go 6 (mem_ready.2 ⟨rfl, eo6, rfl, fun e he => by simp [eo6] at he⟩)
      cases d7
      · exact go 7 (mem_ready.2 ⟨rfl, eo7, rfl, fun e he => by simp [eo7] at he⟩)
      cases d8
      · exact go 8 (mem_ready.2 ⟨rfl, eo8, rfl, fun e he => by simp [eo8] at he⟩)
      cases d1
      · exact go 1 (mem_ready.2 ⟨rfl, eo1, rfl, fun e he _ => by simp [eo1] at he; subst he; rfl⟩)
      cases d3
      · exact go 3 (mem_ready.2 ⟨rfl, eo3, rfl, fun e he _ => by simp [eo3] at he; rcases he with rfl | rfl <;> rfl⟩)
      cases d5
      · exact go 5 (mem_ready.2 ⟨rfl, eo5, rfl, fun e he _ => by simp [eo5] at he; rcases he with rfl | rfl <;> rfl⟩)
      simp [nb] at hc
    · obtain ⟨hf, o, ho, hd⟩ := mem_ready.1 hi
      have hlt : i < 12 := (Array.getElem?_eq_some_iff.1 ho).1
      obtain rfl | rfl | rfl | rfl | rfl | rfl | rfl | rfl | rfl | rfl | rfl | rfl : i = 0 ∨ i = 1 ∨ i = 2 ∨ i = 3 ∨ i = 4 ∨ i = 5 ∨ i = 6 ∨ i = 7 ∨ i = 8 ∨ i = 9 ∨ i = 10 ∨ i = 11 := by omega
      · obtain rfl : d0 = false := hf
        have hnew := Lib.hid h.op0
        have hcc := Lib.hid hc
        clear h hR hRw hi ho hd hc
        refine wpOp_step (o := eo0) rfl (fun K hK => ?_)
        unfold eo0
        go_simp
        refine hK _ _ ?_
        exact ih true d1 d2 d3 d4 d5 d6 d7 d8 u8 u9 u10 _ u40 u41 u42 u43 u44 w (by have := hcc.out; simp only [nb_f, nb_tt] at this ⊢; omega) hnew.out
      · obtain rfl : d1 = false := hf
        obtain rfl : o = eo1 := by have h2 : eoOps[1]? = some eo1 := rfl; rw [h2] at ho; injection ho with ho; exact ho.symm
        have hd0 : d0 = true := hd ⟨0, .data⟩ (by simp [eo1]) rfl
        subst hd0
        have hu := h.2.1.1 rfl
        subst hu
        have kc := Lib.hid (refCopy_any j A n c B w hRw (by omega) (by omega))
        have H := Lib.hid h
        have hcc := Lib.hid hc
        clear h hR hRw hi ho hd hc
        unfold Jrn.val at kc
        unfold Jrn.val
        refine wpOp_step (o := eo1) rfl (fun K hK => ?_)
        unfold eo1
        go_simp
        go_at_call 12
        refine kc.out.mono ?_
        rintro e w' ⟨A', c', rfl, hown, hb⟩
        obtain ⟨g, cap, hv, _⟩ := hown.form hn1
        obtain rfl : A' = some ⟨g, 0, none⟩ := by injection hv
        have hnew := Lib.hid (OI.op1 H.out rfl rfl hown hb)
        clear hown hb hv H
        go_simp
        refine hK _ _ ?_
        exact ih true true d2 d3 d4 d5 d6 d7 d8 u8 u9 u10 _ _ u41 u42 u43 u44 w' (by have := hcc.out; simp only [nb_f, nb_tt] at this ⊢; omega) hnew.out
      · obtain rfl : d2 = false := hf
        have hnew := Lib.hid h.op2
        have hcc := Lib.hid hc
        clear h hR hRw hi ho hd hc
        refine wpOp_step (o := eo2) rfl (fun K hK => ?_)
        unfold eo2
        go_simp
        refine hK _ _ ?_
        exact ih d0 d1 true d3 d4 d5 d6 d7 d8 u8 u9 u10 u39 u40 _ u42 u43 u44 w (by have := hcc.out; simp only [nb_f, nb_tt] at this ⊢; omega) hnew.out
      · obtain rfl : d3 = false := hf
        obtain rfl : o = eo3 := by have h2 : eoOps[3]? = some eo3 := rfl; rw [h2] at ho; injection ho with ho; exact ho.symm
        obtain ⟨hd0, hd1⟩ : d2 = true ∧ d1 = true := ⟨hd ⟨2, .data⟩ (by simp [eo3]) rfl, hd ⟨1, .chain⟩ (by simp [eo3]) rfl⟩
        subst hd0 hd1
        have hu := h.2.1.2.1 rfl
        subst hu
        have kc := Lib.hid (refCopy_any j A n c B w hRw (by omega) (by omega))
        have H := Lib.hid h
        have hcc := Lib.hid hc
        clear h hR hRw hi ho hd hc
        unfold Jrn.val at kc
        unfold Jrn.val
        refine wpOp_step (o := eo3) rfl (fun K hK => ?_)
        unfold eo3
        go_simp
        go_at_call 12
        refine kc.out.mono ?_
        rintro e w' ⟨A', c', rfl, hown, hb⟩
        obtain ⟨g, cap, hv, _⟩ := hown.form hn1
        obtain rfl : A' = some ⟨g, 0, none⟩ := by injection hv
        have hnew := Lib.hid (OI.op3 H.out rfl rfl rfl hown hb)
        clear hown hb hv H
        go_simp
        refine hK _ _ ?_
        exact ih d0 true true true d4 d5 d6 d7 d8 u8 u9 u10 u39 u40 _ _ u43 u44 w' (by have := hcc.out; simp only [nb_f, nb_tt] at this ⊢; omega) hnew.out
      · obtain rfl : d4 = false := hf
        have hnew := Lib.hid h.op4
        have hcc := Lib.hid hc
        clear h hR hRw hi ho hd hc
        refine wpOp_step (o := eo4) rfl (fun K hK => ?_)
        unfold eo4
        go_simp
        refine hK _ _ ?_
        exact ih d0 d1 d2 d3 true d5 d6 d7 d8 u8 u9 u10 u39 u40 u41 u42 _ u44 w (by have := hcc.out; simp only [nb_f, nb_tt] at this ⊢; omega) hnew.out
      · obtain rfl : d5 = false := hf
        obtain rfl : o = eo5 := by have h2 : eoOps[5]? = some eo5 := rfl; rw [h2] at ho; injection ho with ho; exact ho.symm
        obtain ⟨hd0, hd1⟩ : d4 = true ∧ d3 = true := ⟨hd ⟨4, .data⟩ (by simp [eo5]) rfl, hd ⟨3, .chain⟩ (by simp [eo5]) rfl⟩
        subst hd0 hd1
        have hu := h.2.1.2.2 rfl
        subst hu
        have kc := Lib.hid (refCopy_any j A n c B w hRw (by omega) (by omega))
        have H := Lib.hid h
        have hcc := Lib.hid hc
        clear h hR hRw hi ho hd hc
        unfold Jrn.val at kc
        unfold Jrn.val
        refine wpOp_step (o := eo5) rfl (fun K hK => ?_)
        unfold eo5
        go_simp
        go_at_call 12
        refine kc.out.mono ?_
        rintro e w' ⟨A', c', rfl, hown, hb⟩
        obtain ⟨g, cap, hv, _⟩ := hown.form hn1
        obtain rfl : A' = some ⟨g, 0, none⟩ := by injection hv
        have hnew := Lib.hid (OI.op5 H.out rfl rfl hown hb)
        clear hown hb hv H
        go_simp
        refine hK _ _ ?_
        exact ih d0 d1 d2 true true true d6 d7 d8 u8 u9 u10 u39 u40 u41 u42 _ _ w' (by have := hcc.out; simp only [nb_f, nb_tt] at this ⊢; omega) hnew.out
      · obtain rfl : d6 = false := hf
        have hnew := Lib.hid h.op6
        have hcc := Lib.hid hc
        clear h hR hRw hi ho hd hc
        refine wpOp_step (o := eo6) rfl (fun K hK => ?_)
        unfold eo6
        go_simp
        refine hK _ _ ?_
        exact ih d0 d1 d2 d3 d4 d5 true d7 d8 _ u9 u10 u39 u40 u41 u42 u43 u44 _ (by have := hcc.out; simp only [nb_f, nb_tt] at this ⊢; omega) hnew.out
      · obtain rfl : d7 = false := hf
        have hnew := Lib.hid h.op7
        have hcc := Lib.hid hc
        clear h hR hRw hi ho hd hc
        refine wpOp_step (o := eo7) rfl (fun K hK => ?_)
        unfold eo7
        go_simp
        refine hK _ _ ?_
        exact ih d0 d1 d2 d3 d4 d5 d6 true d8 u8 _ u10 u39 u40 u41 u42 u43 u44 _ (by have := hcc.out; simp only [nb_f, nb_tt] at this ⊢; omega) hnew.out
      · obtain rfl : d8 = false := hf
        have hnew := Lib.hid h.op8
        have hcc := Lib.hid hc
        clear h hR hRw hi ho hd hc
        refine wpOp_step (o := eo8) rfl (fun K hK => ?_)
        unfold eo8
        go_simp
        refine hK _ _ ?_
        exact ih d0 d1 d2 d3 d4 d5 d6 d7 true u8 u9 _ u39 u40 u41 u42 u43 u44 _ (by have := hcc.out; simp only [nb_f, nb_tt] at this ⊢; omega) hnew.out
      · exfalso
        obtain rfl : o = eo9 := by have h2 : eoOps[9]? = some eo9 := rfl; rw [h2] at ho; injection ho with ho; exact ho.symm
        have e5 : d5 = true := hd ⟨5, .chain⟩ (by simp [eo9]) rfl
        have e6 : d6 = true := hd ⟨6, .phase⟩ (by simp [eo9]) rfl
        have e7 : d7 = true := hd ⟨7, .phase⟩ (by simp [eo9]) rfl
        have e8 : d8 = true := hd ⟨8, .phase⟩ (by simp [eo9]) rfl
        obtain ⟨e3, e4⟩ := h.1.2.2.2 e5
        obtain ⟨e1, e2⟩ := h.1.2.2.1 e3
        have e0 := h.1.2.1 e1
        subst e0 e1 e2 e3 e4 e5 e6 e7 e8
        simp [nb] at hc
      · exfalso
        obtain rfl : o = eo10 := by have h2 : eoOps[10]? = some eo10 := rfl; rw [h2] at ho; injection ho with ho; exact ho.symm
        have e9 : false = true := hd ⟨9, .chain⟩ (by simp [eo10]) rfl
        cases e9
      · exfalso
        obtain rfl : o = eo11 := by have h2 : eoOps[11]? = some eo11 := rfl; rw [h2] at ho; injection ho with ho; exact ho.symm
        have e9 : false = true := hd ⟨10, .chain⟩ (by simp [eo11]) rfl
        cases e9
end Go.Proofs.YtakjiehncoankaaDoor
