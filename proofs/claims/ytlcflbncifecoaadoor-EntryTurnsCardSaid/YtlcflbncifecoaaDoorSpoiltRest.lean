/-
  EntrySpoilt: what stands behind its second Parse.
-/
import Derived.Test.YtlcflbncifecoaaDoorEntrySmall
import Derived.Test.YtlcflbncifecoaaDoorCodeSub
import Derived.Test.YtlcflbncifecoaaDoorSpoiltMath
namespace Go.Proofs.YtlcflbncifecoaaDoor
open Go.RowKit Go.Sort

noncomputable def spR13 : Code := subCode [1, 1, 1, 1, 1, 1, 1, 1, 1] (Tryd.f6.body.getD .skip)
noncomputable def spR10 : Code := subCode [1, 1, 1, 1, 1, 1, 1] (Tryd.f6.body.getD .skip)

theorem jat_six {w : World} {b : Nat} {a0 a1 a2 a3 a4 a5 : Value} (j : Jrn) (A : Option Addr) (n c : Nat) (h : w.heap[b]? = some (.cells #[a0, a1, a2, a3, a4, a5] 24 (0, 0))) :
    JAt ((((((w.setCell ⟨b, 0, none⟩ (.int .i64 j.id)).setCell ⟨b, 1, none⟩ (.int .i64 j.ent)).setCell ⟨b, 2, none⟩ (.int .i64 j.per)).setCell ⟨b, 3, none⟩ (.string j.ref)).setCell ⟨b, 4, none⟩ (.slice A n c)).setCell ⟨b, 5, none⟩ (.bool j.void)) b j A n c := by
  have h0 : (w.setCell ⟨b, 0, none⟩ (.int .i64 j.id)).heap[b]? = some (.cells #[.int .i64 j.id, a1, a2, a3, a4, a5] 24 (0, 0)) := set_here h
  have h1 : ((w.setCell ⟨b, 0, none⟩ (.int .i64 j.id)).setCell ⟨b, 1, none⟩ (.int .i64 j.ent)).heap[b]? = some (.cells #[.int .i64 j.id, .int .i64 j.ent, a2, a3, a4, a5] 24 (0, 0)) := set_here h0
  have h2 : (((w.setCell ⟨b, 0, none⟩ (.int .i64 j.id)).setCell ⟨b, 1, none⟩ (.int .i64 j.ent)).setCell ⟨b, 2, none⟩ (.int .i64 j.per)).heap[b]? = some (.cells #[.int .i64 j.id, .int .i64 j.ent, .int .i64 j.per, a3, a4, a5] 24 (0, 0)) := set_here h1
  have h3 : ((((w.setCell ⟨b, 0, none⟩ (.int .i64 j.id)).setCell ⟨b, 1, none⟩ (.int .i64 j.ent)).setCell ⟨b, 2, none⟩ (.int .i64 j.per)).setCell ⟨b, 3, none⟩ (.string j.ref)).heap[b]? = some (.cells #[.int .i64 j.id, .int .i64 j.ent, .int .i64 j.per, .string j.ref, a4, a5] 24 (0, 0)) := set_here h2
  have h4 : (((((w.setCell ⟨b, 0, none⟩ (.int .i64 j.id)).setCell ⟨b, 1, none⟩ (.int .i64 j.ent)).setCell ⟨b, 2, none⟩ (.int .i64 j.per)).setCell ⟨b, 3, none⟩ (.string j.ref)).setCell ⟨b, 4, none⟩ (.slice A n c)).heap[b]? = some (.cells #[.int .i64 j.id, .int .i64 j.ent, .int .i64 j.per, .string j.ref, .slice A n c, a5] 24 (0, 0)) := set_here h3
  exact set_here h4
theorem kp_six {w : World} {b : Nat} (v0 v1 v2 v3 v4 v5 : Value) : Kp (fun k => k = b) w ((((((w.setCell ⟨b, 0, none⟩ v0).setCell ⟨b, 1, none⟩ v1).setCell ⟨b, 2, none⟩ v2).setCell ⟨b, 3, none⟩ v3).setCell ⟨b, 4, none⟩ v4).setCell ⟨b, 5, none⟩ v5) := by
  have e : ∀ (a : World) (i : Nat) (v : Value), Kp (fun k => k = b) a (a.setCell ⟨b, i, none⟩ v) := fun a i v => Kp.setCell (S := fun k => k = b) (p := ⟨b, i, none⟩) (Kp.refl _ _) (Eq.refl b) v
  exact (((((e _ 0 _).trans (e _ 1 _)).trans (e _ 2 _)).trans (e _ 3 _)).trans (e _ 4 _)).trans (e _ 5 _)

set_option maxRecDepth 100000 in
set_option maxHeartbeats 4000000 in
theorem sp13_any (s0 s1 s4 s5 s8 s10 s11 s14 s15 s16 s17 s18 s19 s20 s21 s22 s23 s24 s25 s26 s27 s28 s29 s30 s31 s32 s33 s34 s35 s36 s37 s38 s39 s40 s41 s42 s43 s44 s45 s46 s47 s48 s49 s50 s51 s52 s53 s54 s55 s56 s57 s58 s59 s60 s61 s62 s63 s64 s65 s66 s67 s68 s69 s70 s71 s72 s73 s74 s75 s76 s77 s78 s79 s80 s81 s82 s83 s84 s85 s86 s87 s88 s89 s90 s91 s92 s93 : Value) (j jb : Jrn) (A A' : Option Addr) (n n' c c' bb B B' k : Nat) (ch g x : Int) (S : ByteArray) (r6 : Bool) (w w5 : World)
    (hbox : JAt w5 w.heap.size j A n c) (hbb : JAt w5 bb jb A' n' c') (h : Rd w5 B 3 A n (lins j.lines)) (h' : Rd w5 B' 3 A' n' (lins jb.lines)) (hB : B ≤ w5.heap.size) (hB' : B' ≤ w5.heap.size) (hn : n ≤ maxLen) (hn' : n' ≤ maxLen)
    (hi : ∀ w, (Instr.index 9 (.string S) (.int .i64 (k : Int))).run Tryd.prog w = .ok (.int .u8 x) w) (hfin : g = 0 → x ≠ ch → jb ≠ j) (hBel : Below w.heap.size w w5) :
    Code.wp Tryd.prog spR13 (bodyPost Tryd.prog Tryd.f6 fun e w' => e = .returned (.bool true) ∧ Below w.heap.size w w') ⟨#[s0, s1, .int .u8 ch, .pointer (some ⟨w.heap.size, 0, none⟩), s4, s5, .bool r6, .string S, s8, .int .i64 (k : Int), s10, s11, .pointer (some ⟨bb, 0, none⟩), .int .i64 g, s14, s15, s16, s17, s18, s19, s20, s21, s22, s23, s24, s25, s26, s27, s28, s29, s30, s31, s32, s33, s34, s35, s36, s37, s38, s39, s40, s41, s42, s43, s44, s45, s46, s47, s48, s49, s50, s51, s52, s53, s54, s55, s56, s57, s58, s59, s60, s61, s62, s63, s64, s65, s66, s67, s68, s69, s70, s71, s72, s73, s74, s75, s76, s77, s78, s79, s80, s81, s82, s83, s84, s85, s86, s87, s88, s89, s90, s91, s92, s93], []⟩ w5 := by
  obtain ⟨b0, b1, b2, b3, b4, b5⟩ := six_cells hbox
  obtain ⟨y0, y1, y2, y3, y4, y5⟩ := six_cells hbb
  have ks := Lib.hid (refSame_any jb j A' A n' n c' c B' B w5 h' h hB' hB hn' hn)
  have HB := Lib.hid hBel
  have HF : Hid (g = 0 → x ≠ ch → sameJ jb j = false) := fun h1 h2 => by
    cases hq : sameJ jb j
    · rfl
    · exact absurd (sameJ_iff.1 hq) (hfin h1 h2)
  clear hbox hbb h h' hBel hfin
  conv => arg 2; whnf
  conv => arg 4; dsimp only
  unfold Jrn.val at ks
  by_cases hg : g = 0
  · subst hg
    by_cases hx : x = ch
    · subst hx
      go_wp2_with fail
      go_ret
      exact ⟨rfl, HB.out⟩
    · have hsm := HF.out rfl hx
      rw [hsm] at ks
      have t1 : (x == ch) = false := by simpa using hx
      clear HF hsm
      go_wp2_with fail
      refine ks.out.mono ?_
      rintro e w6 ⟨rfl, hb6⟩
      have HB6 := Lib.hid hb6
      clear hb6
      go_wp2_with fail
      go_ret
      exact ⟨rfl, HB.out.trans (HB6.out.mono HB.out.size)⟩
  · have t1 : (g != 0) = true := by simpa using hg
    clear HF
    go_wp2_with fail
    go_ret
    exact ⟨rfl, HB.out⟩
end Go.Proofs.YtlcflbncifecoaaDoor
