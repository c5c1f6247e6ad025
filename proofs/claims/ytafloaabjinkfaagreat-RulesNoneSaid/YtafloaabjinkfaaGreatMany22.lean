/-
  Several texts, one behind the other: what each holds stands ahead of it.
-/
import Derived.Test.YtafloaabjinkfaaGreatMany16
import Derived.Test.YtafloaabjinkfaaGreatMany21

/-
  A world that is made: the reference's chart.
-/
namespace Go.Proofs.YtafloaabjinkfaaGreat
open Go.RowKit

noncomputable def mk2 : Code := subCode [1, 1, 0, 0] (Tryz.f10.body.getD .skip)
noncomputable def mkL1 : Code := subCode [1, 1, 0, 1, 0] (Tryz.f10.body.getD .skip)
/-- The reference's rules in their block. -/
def RefAt (w : World) (rb : Nat) (vC vG vB : Value) : Prop := w.heap[rb]? = some (.cells #[vC, vG, vB] 38 (0, 0))
def WorldAt (w : World) (xb : Nat) (vC vG vJ : Value) : Prop := w.heap[xb]? = some (.cells #[vC, vG, vJ] 26 (0, 0))
/-- The reference's chart, after some rows. -/
structure ChartR (w wr : World) (rb : Nat) (C : List Acc) (A : Option Addr) (c m : Nat) : Prop where
  good : GoodA C
  len : C.length ≤ m
  at' : RefAt wr rb (.slice A C.length c) (.slice none 0 0) (.slice none 0 0)
  own : wr.ownsRow w.heap.size 74 3 (.slice A C.length c) C.length (accs C)
  but : But (fun k => k = rb) w wr
theorem addL_len (l : List Acc) (a : Acc) : (addL l a).length ≤ l.length + 1 := by
  unfold addL insA
  split
  · have := posn_le l a.code
    simp; omega
  · omega

set_option maxRecDepth 100000 in
set_option maxHeartbeats 4000000 in
theorem mkL1_any (s0 s2 s3 s4 s7 s8 s9 s10 s11 s12 s13 s14 s15 s16 s17 s18 s19 s20 s21 s22 s23 s24 s25 s26 s27 s28 s29 s30 s31 s32 s33 s34 s35 s36 s37 s38 s39 s40 s41 s42 s43 s44 s45 s46 s47 s48 s49 s50 s51 s52 s53 s54 s55 s56 s57 s58 s59 s60 s61 s62 s63 s64 s65 s66 s67 s68 s69 s70 s71 s72 s73 s74 s75 s76 s77 s78 s79 s80 s81 s82 s83 s84 s85 s86 s87 s88 s89 s90 s91 s92 s93 s94 s95 s96 s97 s98 s99 s100 s101 s102 s103 s104 s105 s106 s107 s108 s109 s110 s111 s112 s113 s114 s115 s116 s117 s118 s119 s120 s121 s122 s123 s124 s125 s126 s127 s128 s129 s130 : Value) (Q0 : Exit → Act → World → Prop) (l0 : List Acc) (A0 : Option Addr) (n0 c0 xb rb : Nat) (v1 v2 : Value) (w : World) (hx : WorldAt w xb (.slice A0 n0 c0) v1 v2) (hr : RefAt w rb (.slice none 0 0) (.slice none 0 0) (.slice none 0 0)) (B0 : Nat) (hrd : Rd w B0 3 A0 n0 (accs l0)) (hB0 : B0 ≤ rb) (hn : n0 ≤ maxLen)
    (hne : xb ≠ rb)
    (hQ : ∀ (u6 u7 u8 u16 u17 u18 u19 u20 u21 u22 u23 u24 u25 u26 u27 u28 u29 u30 u31 u32 u33 u34 u35 u36 u37 u38 u39 u40 u41 : Value) (w' : World) (C : List Acc) (A : Option Addr) (c : Nat), C = (l0.take 30).foldl addL [] → ChartR w w' rb C A c 30 → Q0 (.exit 0) ⟨#[s0, .pointer (some ⟨xb, 0, none⟩), s2, s3, s4, .pointer (some ⟨rb, 0, none⟩), u6, u7, u8, s9, s10, s11, s12, s13, s14, s15, u16, u17, u18, u19, u20, u21, u22, u23, u24, u25, u26, u27, u28, u29, u30, u31, u32, u33, u34, u35, u36, u37, u38, u39, u40, u41, s42, s43, s44, s45, s46, s47, s48, s49, s50, s51, s52, s53, s54, s55, s56, s57, s58, s59, s60, s61, s62, s63, s64, s65, s66, s67, s68, s69, s70, s71, s72, s73, s74, s75, s76, s77, s78, s79, s80, s81, s82, s83, s84, s85, s86, s87, s88, s89, s90, s91, s92, s93, s94, s95, s96, s97, s98, s99, s100, s101, s102, s103, s104, s105, s106, s107, s108, s109, s110, s111, s112, s113, s114, s115, s116, s117, s118, s119, s120, s121, s122, s123, s124, s125, s126, s127, s128, s129, s130], []⟩ w') :
    Code.wp Tryz.prog mkL1 Q0 ⟨#[s0, .pointer (some ⟨xb, 0, none⟩), s2, s3, s4, .pointer (some ⟨rb, 0, none⟩), .int .i64 0, s7, s8, s9, s10, s11, s12, s13, s14, s15, s16, s17, s18, s19, s20, s21, s22, s23, s24, s25, s26, s27, s28, s29, s30, s31, s32, s33, s34, s35, s36, s37, s38, s39, s40, s41, s42, s43, s44, s45, s46, s47, s48, s49, s50, s51, s52, s53, s54, s55, s56, s57, s58, s59, s60, s61, s62, s63, s64, s65, s66, s67, s68, s69, s70, s71, s72, s73, s74, s75, s76, s77, s78, s79, s80, s81, s82, s83, s84, s85, s86, s87, s88, s89, s90, s91, s92, s93, s94, s95, s96, s97, s98, s99, s100, s101, s102, s103, s104, s105, s106, s107, s108, s109, s110, s111, s112, s113, s114, s115, s116, s117, s118, s119, s120, s121, s122, s123, s124, s125, s126, s127, s128, s129, s130], []⟩ w := by
  unfold maxLen at hn
  have HL := Lib.hid hrd.accs_len
  have HX := Lib.hid hx; have HR := Lib.hid hr; have HRD := Lib.hid hrd; have HQ := Lib.hid hQ
  have hrlt := lt_of_blk hr
  have hxlt := lt_of_blk hx
  clear hx hr hrd hQ
  conv => arg 2; whnf
  conv => arg 4; dsimp only
  refine wp_loop (fun a w' => ∃ (u7 u8 u16 u17 u18 u19 u20 u21 u22 u23 u24 u25 u26 u27 u28 u29 u30 u31 u32 u33 u34 u35 u36 u37 u38 u39 u40 u41 : Value) (k : Nat) (C : List Acc) (A : Option Addr) (c : Nat), ((k ≤ n0 ∧ k ≤ 30) ∧ C = (l0.take k).foldl addL [] ∧ ChartR w w' rb C A c k) ∧ a = ⟨#[s0, .pointer (some ⟨xb, 0, none⟩), s2, s3, s4, .pointer (some ⟨rb, 0, none⟩), .int .i64 (k : Int), u7, u8, s9, s10, s11, s12, s13, s14, s15, u16, u17, u18, u19, u20, u21, u22, u23, u24, u25, u26, u27, u28, u29, u30, u31, u32, u33, u34, u35, u36, u37, u38, u39, u40, u41, s42, s43, s44, s45, s46, s47, s48, s49, s50, s51, s52, s53, s54, s55, s56, s57, s58, s59, s60, s61, s62, s63, s64, s65, s66, s67, s68, s69, s70, s71, s72, s73, s74, s75, s76, s77, s78, s79, s80, s81, s82, s83, s84, s85, s86, s87, s88, s89, s90, s91, s92, s93, s94, s95, s96, s97, s98, s99, s100, s101, s102, s103, s104, s105, s106, s107, s108, s109, s110, s111, s112, s113, s114, s115, s116, s117, s118, s119, s120, s121, s122, s123, s124, s125, s126, s127, s128, s129, s130], []⟩) (fun a _ => n0 - (intOf (a.tmps.getD 6 undef)).toNat) ⟨_, _, _, _, _, _, _, _, _, _, _, _, _, _, _, _, _, _, _, _, _, _, _, _, _, _, _, _, 0, [], none, 0, ⟨⟨Nat.zero_le _, by omega⟩, rfl, GoodA.nil, by simp, HR.out, World.ownsRow_nil _ _ _ _, But.refl _ _⟩, rfl⟩ ?_
  intro a w' hI
  obtain ⟨u7, hI⟩ := hI
  obtain ⟨u8, hI⟩ := hI
  obtain ⟨u16, hI⟩ := hI
  obtain ⟨u17, hI⟩ := hI
  obtain ⟨u18, hI⟩ := hI
  obtain ⟨u19, hI⟩ := hI
  obtain ⟨u20, hI⟩ := hI
  obtain ⟨u21, hI⟩ := hI
  obtain ⟨u22, hI⟩ := hI
  obtain ⟨u23, hI⟩ := hI
  obtain ⟨u24, hI⟩ := hI
  obtain ⟨u25, hI⟩ := hI
  obtain ⟨u26, hI⟩ := hI
  obtain ⟨u27, hI⟩ := hI
  obtain ⟨u28, hI⟩ := hI
  obtain ⟨u29, hI⟩ := hI
  obtain ⟨u30, hI⟩ := hI
  obtain ⟨u31, hI⟩ := hI
  obtain ⟨u32, hI⟩ := hI
  obtain ⟨u33, hI⟩ := hI
  obtain ⟨u34, hI⟩ := hI
  obtain ⟨u35, hI⟩ := hI
  obtain ⟨u36, hI⟩ := hI
  obtain ⟨u37, hI⟩ := hI
  obtain ⟨u38, hI⟩ := hI
  obtain ⟨u39, hI⟩ := hI
  obtain ⟨u40, hI⟩ := hI
  obtain ⟨u41, hI⟩ := hI
  obtain ⟨k, C, A, c, ⟨⟨hk, hk30⟩, heq, hC⟩, rfl⟩ := hI
  have HEQ := Lib.hid heq
  clear heq
  have HC := Lib.hid hC
  have hx' : WorldAt w' xb (.slice A0 n0 c0) v1 v2 := (hC.but.block xb hxlt hne).trans HX.out
  have x0 := cell_of hx' 0
  simp only [List.getElem?_toArray, List.getElem?_cons_zero, List.getElem?_cons_succ] at x0
  have r0 := cell_of hC.at' 0
  simp only [List.getElem?_toArray, List.getElem?_cons_zero, List.getElem?_cons_succ] at r0
  have fr := fun i => warm_of hC.at' i
  have hz := hC.but.size
  have hrw : rb < w'.heap.size := by omega
  have hrd' := HRD.out.below (hC.but.below (B := B0) (fun q _ hq => by omega) (by omega))
  clear hC hx'
  refine wp_seq ?_
  conv => arg 2; whnf
  conv => arg 4; dsimp only
  by_cases hgo : k < n0 ∧ k < 30
  · obtain ⟨hlt, h30⟩ := hgo
    have hkn : (k : Int) < (n0 : Int) := by omega
    have hk3 : (k : Int) < 30 := by omega
    obtain ⟨ad, x, rfl, hbk, hxx, s1, s2, s3⟩ := hrd'.acc hlt
    have s2' := cell_behind s2 (by omega)
    have s3' := cell_behind s3 (by omega)
    have HLE := Lib.hid (addL_len C x)
    have HEQ2 : Hid (addL C x = (l0.take (k + 1)).foldl addL []) := by
      obtain ⟨hkl, hke⟩ := List.getElem?_eq_some_iff.1 hxx
      unfold Hid
      rw [List.take_succ_eq_append_getElem hkl, List.foldl_append, ← HEQ.out, hke]
      rfl
    have HG := Lib.hid (show GoodA (addL C x) from GoodA.add HC.out.good x)
    have HSAME : Hid (addE C x ≠ 0 → addL C x = C) := fun h => by unfold addL; rw [if_neg h]
    go_wp2_with fail
    refine mkR5_any _ _ _ _ _ _ _ _ _ _ _ _ _ _ _ _ _ _ _ _ _ _ _ _ _ _ _ _ _ _ _ _ _ _ _ _ _ _ _ _ _ _ _ _ _ _ _ _ _ _ _ _ _ _ _ _ _ _ _ _ _ _ _ _ _ _ _ _ _ _ _ _ _ _ _ _ _ _ _ _ _ _ _ _ _ _ _ _ _ _ _ _ _ _ _ _ _ _ _ _ _ _ _ _ _ _ _ _ _ _ _ _ _ _ _ _ _ _ _ _ _ _ _ _ _ _ _ _ _ C x A _ ad c n0 c0 xb rb k w w' rfl x0 r0 hkn s1 s2' s3' HC.out.own hz (by have := HC.out.len; omega) HC.out.good ?_
    intro u27 u28 u29 u30 u31 u32 u33 u34 u35 u36 u37 A2 c2 w2 hown2 hb2
    rename_i K hK
    refine hK _ _ ?_
    conv => arg 2; whnf
    conv => arg 4; dsimp only
    have hat2 : RefAt w2 rb (.slice A C.length c) (.slice none 0 0) (.slice none 0 0) := (hb2.block rb hrw).trans HC.out.at'
    have fr2 := fun i => warm_of hat2 i
    have r02 := cell_of hat2 0
    simp only [List.getElem?_toArray, List.getElem?_cons_zero, List.getElem?_cons_succ] at r02
    have HAT2 := Lib.hid hat2; have HOW2 := Lib.hid hown2
    have HB2 : Hid (But (fun q => q = rb) w w2) := HC.out.but.trans (But.of_below hb2)
    have hz2 := hb2.size
    have HKEEP : Hid (∀ q, q < w'.heap.size → w2.heap[q]? = w'.heap[q]?) := fun q hq => hb2.block q hq
    clear hat2 hown2 hb2 s1 s2' s3' s2 s3 x0 r0 hrd' hxx fr
    generalize hE : addE C x = E at *
    by_cases hE0 : E = 0
    · subst hE0
      have t0 : ((0 : Int) == 0) = true := rfl
      have HNEW : Hid (ChartR w (w2.setCell ⟨rb, 0, none⟩ (.slice A2 (addL C x).length c2)) rb (addL C x) A2 c2 (k + 1)) := by
        refine ⟨HG.out, by have := HLE.out; have := HC.out.len; omega, set_here HAT2.out, own_kept HOW2.out fun q _ hq2 => Below.heap_setCell _ _ _ _ ?_, HB2.out.trans ⟨rfl, rfl, rfl, by simp, fun q _ hq => Below.heap_setCell _ _ _ _ hq⟩⟩
        intro e
        have e' : q = rb := e
        rw [e'] at hq2
        exact own_ne HOW2.out HAT2.out (by decide) hq2
      generalize addL C x = C' at *
      clear hE
      go_wp2_with fail
      refine ⟨⟨_, _, _, _, _, _, _, _, _, _, _, _, _, _, _, _, _, _, _, _, _, _, _, _, _, _, _, _, k + 1, C', A2, c2, ⟨⟨by omega, by omega⟩, HEQ2.out, HNEW.out⟩, rfl⟩, by simp [intOf]; omega⟩
    · have t0 : (E == 0) = false := by simpa using hE0
      have HEQ3 : Hid (C = (l0.take (k + 1)).foldl addL []) := (HSAME.out hE0).symm.trans HEQ2.out
      have HNEW : Hid (ChartR w w2 rb C A c (k + 1)) := by
        refine ⟨HC.out.good, by have := HC.out.len; omega, HAT2.out, own_kept HC.out.own fun q hq hq2 => ?_, HB2.out⟩
        exact HKEEP.out q hq
      clear hE
      generalize addL C x = C' at *
      go_wp2_with fail
      refine ⟨⟨_, _, _, _, _, _, _, _, _, _, _, _, _, _, _, _, _, _, _, _, _, _, _, _, _, _, _, _, k + 1, C, A, c, ⟨⟨by omega, by omega⟩, HEQ3.out, HNEW.out⟩, rfl⟩, by simp [intOf]; omega⟩
  · have HCC := Lib.hid HC.out
    have HFIN : Hid (ChartR w w' rb C A c 30) := ⟨HC.out.good, by have := HC.out.len; omega, HC.out.at', HC.out.own, HC.out.but⟩
    have HFE : Hid (C = (l0.take 30).foldl addL []) := by
      unfold Hid
      rw [HEQ.out]
      have hL := HL.out
      by_cases h3 : k = 30
      · rw [h3]
      · rw [List.take_of_length_le (i := k) (by omega), List.take_of_length_le (by omega)]
    clear r0 fr hrd'
    by_cases h1 : k < n0
    · have hkn : (k : Int) < (n0 : Int) := by omega
      have hk3 : ¬ (k : Int) < 30 := by omega
      go_wp2_with fail
      exact HQ.out _ _ _ _ _ _ _ _ _ _ _ _ _ _ _ _ _ _ _ _ _ _ _ _ _ _ _ _ _ w' C A c HFE.out HFIN.out
    · have hkn : ¬ (k : Int) < (n0 : Int) := by omega
      go_wp2_with fail
      exact HQ.out _ _ _ _ _ _ _ _ _ _ _ _ _ _ _ _ _ _ _ _ _ _ _ _ _ _ _ _ _ w' C A c HFE.out HFIN.out
end Go.Proofs.YtafloaabjinkfaaGreat

/-
  A world that is made: the states of one gate, one behind the other.
-/
namespace Go.Proofs.YtafloaabjinkfaaGreat
open Go.RowKit

noncomputable def mkL4 : Code := subCode [1, 1, 1, 1, 0, 1, 0, 0, 1, 0, 0, 1, 0] (Tryz.f10.body.getD .skip)
theorem gates_made (w : World) : GatesAt (w.alloc (.cells #[.slice none 0 0] 60)) w.heap.size w.heap.size (.slice none 0 0) [] :=
  ⟨heap_new _ _, Nat.le_refl _, World.ownsRow_nil _ _ _ _, GoodT.nil⟩
/-- Gates, of both, after some states. -/
structure GatesR (w wr : World) (rb gb : Nat) (vC : Value) (G : List Trio) (A : Option Addr) (c : Nat) : Prop where
  good : GoodT G
  at' : RefAt wr rb vC (.slice A G.length c) (.slice none 0 0)
  own : wr.ownsRow w.heap.size 81 3 (.slice A G.length c) G.length (trios G)
  gates : ∃ v, GatesAt wr gb gb v G ∧ ∀ k, v.ownBlock = some k → w.heap.size ≤ k
  but : But (fun k => k = rb ∨ k = gb) w wr
/-- Behind a state of both. -/
theorem GatesR.next {w w1 w2 w3 : World} {rb gb : Nat} {vC v : Value} {G G' : List Trio} {A A2 : Option Addr} {c c2 : Nat} (h : GatesR w w1 rb gb vC G A c) (hrb : rb < w.heap.size) (hgb : gb < w.heap.size) (hne : rb ≠ gb) (hG' : GoodT G') (hv : ∀ k, v.ownBlock = some k → w.heap.size ≤ k)
    (hown : w2.ownsRow w.heap.size 81 3 (.slice A2 G'.length c2) G'.length (trios G')) (hb : Below w1.heap.size w1 w2) (hto : GatesTo w2 gb gb v G' w3) (hwv : GatesAt w2 gb gb v G) :
    GatesR w (w3.setCell ⟨rb, 1, none⟩ (.slice A2 G'.length c2)) rb gb vC G' A2 c2 := by
  obtain ⟨v', k1, k2, k3⟩ := hto
  have hz1 := h.but.size
  have hz2 := hb.size
  have hat2 : RefAt w2 rb vC (.slice A G.length c) (.slice none 0 0) := (hb.block rb (by omega)).trans h.at'
  have hno : ¬ InGates gb v rb := by
    rintro (e | e)
    · exact hne e
    · have := hv rb e; omega
  have hat3 : RefAt w3 rb vC (.slice A G.length c) (.slice none 0 0) := (k2.block rb (by omega) hno).trans hat2
  have hown3 : w3.ownsRow w.heap.size 81 3 (.slice A2 G'.length c2) G'.length (trios G') := own_kept hown fun k hk hk2 => k2.block k hk (by
    rintro (e | e)
    · have := own_ge hown k hk2; omega
    · exact own_own_ne hwv.own hown (by decide) k e hk2)
  have hb3 : But (fun k => k = rb ∨ k = gb) w w3 := by
    refine (h.but.trans (But.of_below hb)).more k2 fun k hk hi => ?_
    rcases hi with e | e
    · exact .inr e
    · have := hv k e; omega
  have hset : But (fun k => k = rb ∨ k = gb) w3 (w3.setCell ⟨rb, 1, none⟩ (.slice A2 G'.length c2)) := ⟨rfl, rfl, rfl, by simp, fun k _ hk => Below.heap_setCell _ _ _ _ (fun e => hk (.inl e))⟩
  refine ⟨hG', set_here hat3, own_kept hown3 fun k hk hk2 => Below.heap_setCell _ _ _ _ (fun e => ?_), ⟨v', ?_, fun k hk => ?_⟩, hb3.trans hset⟩
  · have e' : k = rb := e
    have := own_ge hown3 k hk2
    omega
  · refine k1.kept fun k hk hi => Below.heap_setCell _ _ _ _ (fun e => ?_)
    have e' : k = rb := e
    rcases hi with e2 | e2
    · exact hne (e'.symm.trans e2)
    · rcases k3 k e2 with h1 | h1
      · have := hv k h1; omega
      · omega
  · rcases k3 k hk with h1 | h1
    · exact hv k h1
    · omega
theorem GatesR.nextAt {w w1 w2 w3 : World} {rb gb : Nat} {vC v : Value} {G G' : List Trio} {A : Option Addr} {c : Nat} (h : GatesR w w1 rb gb vC G A c) (hrb : rb < w.heap.size) (hne : rb ≠ gb) (hv : ∀ k, v.ownBlock = some k → w.heap.size ≤ k)
    (hb : Below w1.heap.size w1 w2) (hto : GatesTo w2 gb gb v G' w3) : RefAt w3 rb vC (.slice A G.length c) (.slice none 0 0) := by
  obtain ⟨v', k1, k2, k3⟩ := hto
  have hz1 := h.but.size
  have hz2 := hb.size
  refine (k2.block rb (by omega) ?_).trans ((hb.block rb (by omega)).trans h.at')
  rintro (e | e)
  · exact hne e
  · have := hv rb e; omega
end Go.Proofs.YtafloaabjinkfaaGreat
