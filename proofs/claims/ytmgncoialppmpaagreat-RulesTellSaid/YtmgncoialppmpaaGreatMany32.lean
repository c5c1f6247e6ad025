/-
  Several texts, one behind the other: what each holds stands ahead of it.
-/
import Derived.Test.YtmgncoialppmpaaGreatMany28
import Derived.Test.YtmgncoialppmpaaGreatMany31

/-
  A world that is made: the reference's chart.
-/
namespace Go.Proofs.YtmgncoialppmpaaGreat
open Go.RowKit

noncomputable def mk2 : Code := subCode [1, 1, 0, 0] (Tryz.f11.body.getD .skip)
noncomputable def mkL1 : Code := subCode [1, 1, 0, 1, 0] (Tryz.f11.body.getD .skip)
/-- The reference's rules in their block. -/
def RefAt (w : World) (rb : Nat) (vC vG vB : Value) : Prop := w.heap[rb]? = some (.cells #[vC, vG, vB] 38 (0, 0))
def WorldAt (w : World) (xb : Nat) (vC vG vJ : Value) : Prop := w.heap[xb]? = some (.cells #[vC, vG, vJ] 26 (0, 0))
/-- The reference's chart, after some rows. -/
structure ChartR (w wr : World) (rb : Nat) (C : List Acc) (A : Option Addr) (c m : Nat) : Prop where
  good : GoodA C
  len : C.length ≤ m
  at' : RefAt wr rb (.slice A C.length c) (.slice none 0 0) (.slice none 0 0)
  own : wr.ownsRow w.heap.size 112 3 (.slice A C.length c) C.length (accs C)
  but : But (fun k => k = rb) w wr
theorem addL_len (l : List Acc) (a : Acc) : (addL l a).length ≤ l.length + 1 := by
  unfold addL insA
  split
  · have := posn_le l a.code
    simp; omega
  · omega

set_option maxRecDepth 100000 in
set_option maxHeartbeats 4000000 in
theorem mkL1_any (s0 s2 s3 s4 s7 s8 s9 s10 s11 s12 s13 s14 s15 s16 s17 s18 s19 s20 s21 s22 s23 s24 s25 s26 s27 s28 s29 s30 s31 s32 s33 s34 s35 s36 s37 s38 s39 s40 s41 s42 s43 s44 s45 s46 s47 s48 s49 s50 s51 s52 s53 s54 s55 s56 s57 s58 s59 s60 s61 s62 s63 s64 s65 s66 s67 s68 s69 s70 s71 s72 s73 s74 s75 s76 s77 s78 s79 s80 s81 s82 s83 s84 s85 s86 s87 s88 s89 s90 s91 s92 s93 s94 s95 s96 s97 s98 s99 s100 s101 s102 s103 s104 s105 s106 s107 s108 s109 s110 s111 s112 s113 s114 s115 s116 s117 s118 s119 s120 s121 s122 s123 s124 s125 s126 s127 s128 s129 s130 : Value) (Q0 : Exit → Act → World → Prop) (l0 : List Acc) (A0 : Option Addr) (n0 c0 xb rb : Nat) (v1 v2 : Value) (w : World) (hx : WorldAt w xb (.slice A0 n0 c0) v1 v2) (hr : RefAt w rb (.slice none 0 0) (.slice none 0 0) (.slice none 0 0)) (B0 : Nat) (hrd : Rd w B0 3 A0 n0 (accs l0)) (hB0 : B0 ≤ rb) (hn : n0 ≤ maxLen)
    (hne : xb ≠ rb)
    (hQ : ∀ (u6 u7 u8 u16 u17 u18 u19 u20 u21 u22 u23 u24 u25 u26 u27 u28 u29 u30 u31 u32 u33 u34 u35 u36 u37 u38 u39 u40 u41 : Value) (w' : World) (C : List Acc) (A : Option Addr) (c : Nat), C = (l0.take 30).foldl addL [] → ChartR w w' rb C A c 30 → Q0 (.exit 0) ⟨#[s0, .pointer (some ⟨xb, 0, none⟩), s2, s3, s4, .pointer (some ⟨rb, 0, none⟩), u6, u7, u8, s9, s10, s11, s12, s13, s14, s15, u16, u17, u18, u19, u20, u21, u22, u23, u24, u25, u26, u27, u28, u29, u30, u31, u32, u33, u34, u35, u36, u37, u38, u39, u40, u41, s42, s43, s44, s45, s46, s47, s48, s49, s50, s51, s52, s53, s54, s55, s56, s57, s58, s59, s60, s61, s62, s63, s64, s65, s66, s67, s68, s69, s70, s71, s72, s73, s74, s75, s76, s77, s78, s79, s80, s81, s82, s83, s84, s85, s86, s87, s88, s89, s90, s91, s92, s93, s94, s95, s96, s97, s98, s99, s100, s101, s102, s103, s104, s105, s106, s107, s108, s109, s110, s111, s112, s113, s114, s115, s116, s117, s118, s119, s120, s121, s122, s123, s124, s125, s126, s127, s128, s129, s130], []⟩ w') :
    Code.wp Tryz.prog mkL1 Q0 ⟨#[s0, .pointer (some ⟨xb, 0, none⟩), s2, s3, s4, .pointer (some ⟨rb, 0, none⟩), .int .i64 0, s7, s8, s9, s10, s11, s12, s13, s14, s15, s16, s17, s18, s19, s20, s21, s22, s23, s24, s25, s26, s27, s28, s29, s30, s31, s32, s33, s34, s35, s36, s37, s38, s39, s40, s41, s42, s43, s44, s45, s46, s47, s48, s49, s50, s51, s52, s53, s54, s55, s56, s57, s58, s59, s60, s61, s62, s63, s64, s65, s66, s67, s68, s69, s70, s71, s72, s73, s74, s75, s76, s77, s78, s79, s80, s81, s82, s83, s84, s85, s86, s87, s88, s89, s90, s91, s92, s93, s94, s95, s96, s97, s98, s99, s100, s101, s102, s103, s104, s105, s106, s107, s108, s109, s110, s111, s112, s113, s114, s115, s116, s117, s118, s119, s120, s121, s122, s123, s124, s125, s126, s127, s128, s129, s130], []⟩ w := by
  unfold maxLen at hn
  have HL := Lib.hid hrd.accs_len
  have HX := Lib.hid hx; have HR := Lib.hid hr; have HRD := Lib.hid hrd; have HQ := Lib.hid hQ
  have hrlt := lt_of_blk hr
  have hxlt := lt_of_blk hx
  clear hx hr hrd hQ
  conv => arg 2; whnf
  conv => arg 4; dsimp only
  refine wp_loop (fun a w' => ∃ (u7 u8 u16 u17 u18 u19 u20 u21 u22 u23 u24 u25 u26 u27 u28 u29 u30 u31 u32 u33 u34 u35 u36 u37 u38 u39 u40 u41 : Value) (k : Nat) (C : List Acc) (A : Option Addr) (c : Nat), ((k ≤ n0 ∧ k ≤ 30) ∧ C = (l0.take k).foldl addL [] ∧ ChartR w w' rb C A c k) ∧ a = ⟨#[s0, .pointer (some ⟨xb, 0, none⟩), s2, s3, s4, .pointer (some ⟨rb, 0, none⟩), .int .i64 (k : Int), u7, u8, s9, s10, s11, s12, s13, s14, s15, u16, u17, u18, u19, u20, u21, u22, u23, u24, u25, u26, u27, u28, u29, u30, u31, u32, u33, u34, u35, u36, u37, u38, u39, u40, u41, s42, s43, s44, s45, s46, s47, s48, s49, s50, s51, s52, s53, s54, s55, s56, s57, s58, s59, s60, s61, s62, s63, s64, s65, s66, s67, s68, s69, s70, s71, s72, s73, s74, s75, s76, s77, s78, s79, s80, s81, s82, s83, s84, s85, s86, s87, s88, s89, s90, s91, s92, s93, s94, s95, s96, s97, s98, s99, s100, s101, s102, s103, s104, s105, s106, s107, s108, s109, s110, s111, s112, s113, s114, s115, s116, s117, s118, s119, s120, s121, s122, s123, s124, s125, s126, s127, s128, s129, s130], []⟩) (fun a _ => n0 - (intOf (a.tmps.getD 6 undef)).toNat) ⟨_, _, _, _, _, _, _, _, _, _, _, _, _, _, _, _, _, _, _, _, _, _, _, _, _, _, _, _, 0, [], none, 0, ⟨⟨Nat.zero_le _, by omega⟩, rfl, GoodA.nil, by simp, HR.out, World.ownsRow_nil _ _ _ _, But.refl _ _⟩, rfl⟩ ?_
  intro a w' hI
  obtain ⟨u7, hI⟩ := hI
  obtain ⟨u8, hI⟩ := hI
  obtain ⟨u16, hI⟩ := hI
  obtain ⟨u17, hI⟩ := hI
  obtain ⟨u18, hI⟩ := hI
  obtain ⟨u19, hI⟩ := hI
  obtain ⟨u20, hI⟩ := hI
  obtain ⟨u21, hI⟩ := hI
  obtain ⟨u22, hI⟩ := hI
  obtain ⟨u23, hI⟩ := hI
  obtain ⟨u24, hI⟩ := hI
  obtain ⟨u25, hI⟩ := hI
  obtain ⟨u26, hI⟩ := hI
  obtain ⟨u27, hI⟩ := hI
  obtain ⟨u28, hI⟩ := hI
  obtain ⟨u29, hI⟩ := hI
  obtain ⟨u30, hI⟩ := hI
  obtain ⟨u31, hI⟩ := hI
  obtain ⟨u32, hI⟩ := hI
  obtain ⟨u33, hI⟩ := hI
  obtain ⟨u34, hI⟩ := hI
  obtain ⟨u35, hI⟩ := hI
  obtain ⟨u36, hI⟩ := hI
  obtain ⟨u37, hI⟩ := hI
  obtain ⟨u38, hI⟩ := hI
  obtain ⟨u39, hI⟩ := hI
  obtain ⟨u40, hI⟩ := hI
  obtain ⟨u41, hI⟩ := hI
  obtain ⟨k, C, A, c, ⟨⟨hk, hk30⟩, heq, hC⟩, rfl⟩ := hI
  have HEQ := Lib.hid heq
  clear heq
  have HC := Lib.hid hC
  have hx' : WorldAt w' xb (.slice A0 n0 c0) v1 v2 := (hC.but.block xb hxlt hne).trans HX.out
  have x0 := cell_of hx' 0
  simp only [List.getElem?_toArray, List.getElem?_cons_zero, List.getElem?_cons_succ] at x0
  have r0 := cell_of hC.at' 0
  simp only [List.getElem?_toArray, List.getElem?_cons_zero, List.getElem?_cons_succ] at r0
  have fr := fun i => warm_of hC.at' i
  have hz := hC.but.size
  have hrw : rb < w'.heap.size := by omega
  have hrd' := HRD.out.below (hC.but.below (B := B0) (fun q _ hq => by omega) (by omega))
  clear hC hx'
  refine wp_seq ?_
  conv => arg 2; whnf
  conv => arg 4; dsimp only
  by_cases hgo : k < n0 ∧ k < 30
  · obtain ⟨hlt, h30⟩ := hgo
    have hkn : (k : Int) < (n0 : Int) := by omega
    have hk3 : (k : Int) < 30 := by omega
    obtain ⟨ad, x, rfl, hbk, hxx, s1, s2, s3⟩ := hrd'.acc hlt
    have s2' := cell_behind s2 (by omega)
    have s3' := cell_behind s3 (by omega)
    have HLE := Lib.hid (addL_len C x)
    have HEQ2 : Hid (addL C x = (l0.take (k + 1)).foldl addL []) := by
      obtain ⟨hkl, hke⟩ := List.getElem?_eq_some_iff.1 hxx
      unfold Hid
      rw [List.take_succ_eq_append_getElem hkl, List.foldl_append, ← HEQ.out, hke]
      rfl
    have HG := Lib.hid (show GoodA (addL C x) from GoodA.add HC.out.good x)
    have HSAME : Hid (addE C x ≠ 0 → addL C x = C) := fun h => by unfold addL; rw [if_neg h]
    go_wp2_with fail
    refine mkR5_any _ _ _ _ _ _ _ _ _ _ _ _ _ _ _ _ _ _ _ _ _ _ _ _ _ _ _ _ _ _ _ _ _ _ _ _ _ _ _ _ _ _ _ _ _ _ _ _ _ _ _ _ _ _ _ _ _ _ _ _ _ _ _ _ _ _ _ _ _ _ _ _ _ _ _ _ _ _ _ _ _ _ _ _ _ _ _ _ _ _ _ _ _ _ _ _ _ _ _ _ _ _ _ _ _ _ _ _ _ _ _ _ _ _ _ _ _ _ _ _ _ _ _ _ _ _ _ _ _ C x A _ ad c n0 c0 xb rb k w w' rfl x0 r0 hkn s1 s2' s3' HC.out.own hz (by have := HC.out.len; omega) HC.out.good ?_
    intro u27 u28 u29 u30 u31 u32 u33 u34 u35 u36 u37 A2 c2 w2 hown2 hb2
    rename_i K hK
    refine hK _ _ ?_
    conv => arg 2; whnf
    conv => arg 4; dsimp only
    have hat2 : RefAt w2 rb (.slice A C.length c) (.slice none 0 0) (.slice none 0 0) := (hb2.block rb hrw).trans HC.out.at'
    have fr2 := fun i => warm_of hat2 i
    have r02 := cell_of hat2 0
    simp only [List.getElem?_toArray, List.getElem?_cons_zero, List.getElem?_cons_succ] at r02
    have HAT2 := Lib.hid hat2; have HOW2 := Lib.hid hown2
    have HB2 : Hid (But (fun q => q = rb) w w2) := HC.out.but.trans (But.of_below hb2)
    have hz2 := hb2.size
    have HKEEP : Hid (∀ q, q < w'.heap.size → w2.heap[q]? = w'.heap[q]?) := fun q hq => hb2.block q hq
    clear hat2 hown2 hb2 s1 s2' s3' s2 s3 x0 r0 hrd' hxx fr
    generalize hE : addE C x = E at *
    by_cases hE0 : E = 0
    · subst hE0
      have t0 : ((0 : Int) == 0) = true := rfl
      have HNEW : Hid (ChartR w (w2.setCell ⟨rb, 0, none⟩ (.slice A2 (addL C x).length c2)) rb (addL C x) A2 c2 (k + 1)) := by
        refine ⟨HG.out, by have := HLE.out; have := HC.out.len; omega, set_here HAT2.out, own_kept HOW2.out fun q _ hq2 => Below.heap_setCell _ _ _ _ ?_, HB2.out.trans ⟨rfl, rfl, rfl, by simp, fun q _ hq => Below.heap_setCell _ _ _ _ hq⟩⟩
        intro e
        have e' : q = rb := e
        rw [e'] at hq2
        exact own_ne HOW2.out HAT2.out (by decide) hq2
      generalize addL C x = C' at *
      clear hE
      go_wp2_with fail
      refine ⟨⟨_, _, _, _, _, _, _, _, _, _, _, _, _, _, _, _, _, _, _, _, _, _, _, _, _, _, _, _, k + 1, C', A2, c2, ⟨⟨by omega, by omega⟩, HEQ2.out, HNEW.out⟩, rfl⟩, by simp [intOf]; omega⟩
    · have t0 : (E == 0) = false := by simpa using hE0
      have HEQ3 : Hid (C = (l0.take (k + 1)).foldl addL []) := (HSAME.out hE0).symm.trans HEQ2.out
      have HNEW : Hid (ChartR w w2 rb C A c (k + 1)) := by
        refine ⟨HC.out.good, by have := HC.out.len; omega, HAT2.out, own_kept HC.out.own fun q hq hq2 => ?_, HB2.out⟩
        exact HKEEP.out q hq
      clear hE
      generalize addL C x = C' at *
      go_wp2_with fail
      refine ⟨⟨_, _, _, _, _, _, _, _, _, _, _, _, _, _, _, _, _, _, _, _, _, _, _, _, _, _, _, _, k + 1, C, A, c, ⟨⟨by omega, by omega⟩, HEQ3.out, HNEW.out⟩, rfl⟩, by simp [intOf]; omega⟩
  · have HCC := Lib.hid HC.out
    have HFIN : Hid (ChartR w w' rb C A c 30) := ⟨HC.out.good, by have := HC.out.len; omega, HC.out.at', HC.out.own, HC.out.but⟩
    have HFE : Hid (C = (l0.take 30).foldl addL []) := by
      unfold Hid
      rw [HEQ.out]
      have hL := HL.out
      by_cases h3 : k = 30
      · rw [h3]
      · rw [List.take_of_length_le (i := k) (by omega), List.take_of_length_le (by omega)]
    clear r0 fr hrd'
    by_cases h1 : k < n0
    · have hkn : (k : Int) < (n0 : Int) := by omega
      have hk3 : ¬ (k : Int) < 30 := by omega
      go_wp2_with fail
      exact HQ.out _ _ _ _ _ _ _ _ _ _ _ _ _ _ _ _ _ _ _ _ _ _ _ _ _ _ _ _ _ w' C A c HFE.out HFIN.out
    · have hkn : ¬ (k : Int) < (n0 : Int) := by omega
      go_wp2_with fail
      exact HQ.out _ _ _ _ _ _ _ _ _ _ _ _ _ _ _ _ _ _ _ _ _ _ _ _ _ _ _ _ _ w' C A c HFE.out HFIN.out
end Go.Proofs.YtmgncoialppmpaaGreat

/-
  A world that is made: the states of one gate, one behind the other.
-/
namespace Go.Proofs.YtmgncoialppmpaaGreat
open Go.RowKit

noncomputable def mkL4 : Code := subCode [1, 1, 1, 1, 0, 1, 0, 0, 1, 0, 0, 1, 0] (Tryz.f11.body.getD .skip)
theorem gates_made (w : World) : GatesAt (w.alloc (.cells #[.slice none 0 0] 117)) w.heap.size w.heap.size (.slice none 0 0) [] :=
  ⟨heap_new _ _, Nat.le_refl _, World.ownsRow_nil _ _ _ _, GoodT.nil⟩
/-- Gates, of both, after some states. -/
structure GatesR (w wr : World) (rb gb : Nat) (vC : Value) (G : List Trio) (A : Option Addr) (c : Nat) : Prop where
  good : GoodT G
  at' : RefAt wr rb vC (.slice A G.length c) (.slice none 0 0)
  own : wr.ownsRow w.heap.size 121 3 (.slice A G.length c) G.length (trios G)
  gates : ∃ v, GatesAt wr gb gb v G ∧ ∀ k, v.ownBlock = some k → w.heap.size ≤ k
  but : But (fun k => k = rb ∨ k = gb) w wr
/-- Behind a state of both. -/
theorem GatesR.next {w w1 w2 w3 : World} {rb gb : Nat} {vC v : Value} {G G' : List Trio} {A A2 : Option Addr} {c c2 : Nat} (h : GatesR w w1 rb gb vC G A c) (hrb : rb < w.heap.size) (hgb : gb < w.heap.size) (hne : rb ≠ gb) (hG' : GoodT G') (hv : ∀ k, v.ownBlock = some k → w.heap.size ≤ k)
    (hown : w2.ownsRow w.heap.size 121 3 (.slice A2 G'.length c2) G'.length (trios G')) (hb : Below w1.heap.size w1 w2) (hto : GatesTo w2 gb gb v G' w3) (hwv : GatesAt w2 gb gb v G) :
    GatesR w (w3.setCell ⟨rb, 1, none⟩ (.slice A2 G'.length c2)) rb gb vC G' A2 c2 := by
  obtain ⟨v', k1, k2, k3⟩ := hto
  have hz1 := h.but.size
  have hz2 := hb.size
  have hat2 : RefAt w2 rb vC (.slice A G.length c) (.slice none 0 0) := (hb.block rb (by omega)).trans h.at'
  have hno : ¬ InGates gb v rb := by
    rintro (e | e)
    · exact hne e
    · have := hv rb e; omega
  have hat3 : RefAt w3 rb vC (.slice A G.length c) (.slice none 0 0) := (k2.block rb (by omega) hno).trans hat2
  have hown3 : w3.ownsRow w.heap.size 121 3 (.slice A2 G'.length c2) G'.length (trios G') := own_kept hown fun k hk hk2 => k2.block k hk (by
    rintro (e | e)
    · have := own_ge hown k hk2; omega
    · exact own_own_ne hwv.own hown (by decide) k e hk2)
  have hb3 : But (fun k => k = rb ∨ k = gb) w w3 := by
    refine (h.but.trans (But.of_below hb)).more k2 fun k hk hi => ?_
    rcases hi with e | e
    · exact .inr e
    · have := hv k e; omega
  have hset : But (fun k => k = rb ∨ k = gb) w3 (w3.setCell ⟨rb, 1, none⟩ (.slice A2 G'.length c2)) := ⟨rfl, rfl, rfl, by simp, fun k _ hk => Below.heap_setCell _ _ _ _ (fun e => hk (.inl e))⟩
  refine ⟨hG', set_here hat3, own_kept hown3 fun k hk hk2 => Below.heap_setCell _ _ _ _ (fun e => ?_), ⟨v', ?_, fun k hk => ?_⟩, hb3.trans hset⟩
  · have e' : k = rb := e
    have := own_ge hown3 k hk2
    omega
  · refine k1.kept fun k hk hi => Below.heap_setCell _ _ _ _ (fun e => ?_)
    have e' : k = rb := e
    rcases hi with e2 | e2
    · exact hne (e'.symm.trans e2)
    · rcases k3 k e2 with h1 | h1
      · have := hv k h1; omega
      · omega
  · rcases k3 k hk with h1 | h1
    · exact hv k h1
    · omega
theorem GatesR.nextAt {w w1 w2 w3 : World} {rb gb : Nat} {vC v : Value} {G G' : List Trio} {A : Option Addr} {c : Nat} (h : GatesR w w1 rb gb vC G A c) (hrb : rb < w.heap.size) (hne : rb ≠ gb) (hv : ∀ k, v.ownBlock = some k → w.heap.size ≤ k)
    (hb : Below w1.heap.size w1 w2) (hto : GatesTo w2 gb gb v G' w3) : RefAt w3 rb vC (.slice A G.length c) (.slice none 0 0) := by
  obtain ⟨v', k1, k2, k3⟩ := hto
  have hz1 := h.but.size
  have hz2 := hb.size
  refine (k2.block rb (by omega) ?_).trans ((hb.block rb (by omega)).trans h.at')
  rintro (e | e)
  · exact hne e
  · have := hv rb e; omega
end Go.Proofs.YtmgncoialppmpaaGreat

/-
  A world that is made: the states of one gate: the loop.
-/
namespace Go.Proofs.YtmgncoialppmpaaGreat
open Go.RowKit

/-- The states of one gate: 1, then 2, up to the one that is asked for. -/
def gateN (G : List Trio) (x y : Int) : Nat → List Trio
  | 0 => G
  | t + 1 => setT (gateN G x y t) x y ((t : Int) + 1)
def gateSteps (z : Int) : Nat := if z < 1 then 0 else if z < 2 then 1 else 2
def gateStep (G : List Trio) (z : Trio) : List Trio := gateN G z.x z.y (gateSteps z.z)
theorem gateSteps_of {z : Int} {t : Nat} (ht : t ≤ 2) (h0 : t = 0 ∨ (t : Int) ≤ z) (h : ¬ ((t : Int) + 1 ≤ z ∧ (t : Int) + 1 ≤ 2)) : gateSteps z = t := by
  unfold gateSteps
  split
  · omega
  · split <;> omega

set_option maxRecDepth 100000 in
set_option maxHeartbeats 4000000 in
theorem mkL4_any (s0 s2 s3 s4 s6 s7 s8 s12 s13 s14 s15 s16 s17 s18 s19 s20 s21 s22 s23 s24 s25 s26 s27 s28 s29 s30 s31 s32 s33 s34 s35 s36 s37 s38 s39 s40 s41 s42 s43 s44 s45 s46 s47 s48 s49 s50 s51 s52 s53 s54 s55 s56 s57 s58 s59 s60 s61 s62 s63 s64 s65 s66 s67 s68 s69 s70 s71 s72 s73 s74 s75 s76 s77 s78 s79 s80 s81 s82 s83 s84 s85 s86 s87 s88 s89 s90 s91 s92 s93 s94 s95 s96 s97 s98 s99 s100 s101 s102 s103 s104 s105 s106 s107 s108 s109 s110 s111 s112 s113 s114 s115 s116 s117 s118 s119 s120 s121 s122 s123 s124 s125 s126 s127 s128 s129 s130 : Value) (Q0 : Exit → Act → World → Prop) (l1 : List Trio) (A1 : Option Addr) (n1 c1 xb rb gb k B1 : Nat) (v0 v2 vC : Value) (w w1 : World) (hx : WorldAt w xb v0 (.slice A1 n1 c1) v2) (hrd : Rd w B1 3 A1 n1 (trios l1)) (hB1 : B1 ≤ rb) (hB2 : B1 ≤ gb) (hxr : xb ≠ rb) (hxg : xb ≠ gb) (hrg : rb ≠ gb) (hrw : rb < w.heap.size) (hgw : gb < w.heap.size) (hkn : k < n1)
    (G0 : List Trio) (Ag : Option Addr) (cg : Nat) (hstart : GatesR w w1 rb gb vC G0 Ag cg)
    (hQ : ∀ (u11 u12 u13 u55 u56 u57 u58 u59 u60 u61 u62 u63 u64 u65 u66 u67 u68 u69 u70 u71 u72 u73 u74 u75 u76 u77 u78 u79 u80 u81 u82 u83 u84 u85 u86 u87 u88 u89 u90 u91 u92 u93 u94 u95 u96 u97 u98 u99 u100 u101 u102 u103 u104 u105 u106 u107 u108 u109 : Value) (w' : World) (G : List Trio) (A : Option Addr) (c : Nat), (∀ z, l1[k]? = some z → G = gateStep G0 z) → GatesR w w' rb gb vC G A c → Q0 (.exit 4) ⟨#[s0, .pointer (some ⟨xb, 0, none⟩), s2, s3, s4, .pointer (some ⟨rb, 0, none⟩), s6, s7, s8, .pointer (some ⟨gb, 0, none⟩), .int .i64 (k : Int), u11, u12, u13, s14, s15, s16, s17, s18, s19, s20, s21, s22, s23, s24, s25, s26, s27, s28, s29, s30, s31, s32, s33, s34, s35, s36, s37, s38, s39, s40, s41, s42, s43, s44, s45, s46, s47, s48, s49, s50, s51, s52, s53, s54, u55, u56, u57, u58, u59, u60, u61, u62, u63, u64, u65, u66, u67, u68, u69, u70, u71, u72, u73, u74, u75, u76, u77, u78, u79, u80, u81, u82, u83, u84, u85, u86, u87, u88, u89, u90, u91, u92, u93, u94, u95, u96, u97, u98, u99, u100, u101, u102, u103, u104, u105, u106, u107, u108, u109, s110, s111, s112, s113, s114, s115, s116, s117, s118, s119, s120, s121, s122, s123, s124, s125, s126, s127, s128, s129, s130], []⟩ w') :
    Code.wp Tryz.prog mkL4 Q0 ⟨#[s0, .pointer (some ⟨xb, 0, none⟩), s2, s3, s4, .pointer (some ⟨rb, 0, none⟩), s6, s7, s8, .pointer (some ⟨gb, 0, none⟩), .int .i64 (k : Int), .int .i64 1, s12, s13, s14, s15, s16, s17, s18, s19, s20, s21, s22, s23, s24, s25, s26, s27, s28, s29, s30, s31, s32, s33, s34, s35, s36, s37, s38, s39, s40, s41, s42, s43, s44, s45, s46, s47, s48, s49, s50, s51, s52, s53, s54, s55, s56, s57, s58, s59, s60, s61, s62, s63, s64, s65, s66, s67, s68, s69, s70, s71, s72, s73, s74, s75, s76, s77, s78, s79, s80, s81, s82, s83, s84, s85, s86, s87, s88, s89, s90, s91, s92, s93, s94, s95, s96, s97, s98, s99, s100, s101, s102, s103, s104, s105, s106, s107, s108, s109, s110, s111, s112, s113, s114, s115, s116, s117, s118, s119, s120, s121, s122, s123, s124, s125, s126, s127, s128, s129, s130], []⟩ w1 := by
  have HX := Lib.hid hx; have HRD := Lib.hid hrd; have HQ := Lib.hid hQ
  have hxlt := lt_of_blk hx
  clear hx hrd hQ
  conv => arg 2; whnf
  conv => arg 4; dsimp only
  refine wp_loop (fun a w' => ∃ (u12 u13 u55 u56 u57 u58 u59 u60 u61 u62 u63 u64 u65 u66 u67 u68 u69 u70 u71 u72 u73 u74 u75 u76 u77 u78 u79 u80 u81 u82 u83 u84 u85 u86 u87 u88 u89 u90 u91 u92 u93 u94 u95 u96 u97 u98 u99 u100 u101 u102 u103 u104 u105 u106 u107 u108 u109 : Value) (t : Nat) (G : List Trio) (A : Option Addr) (c : Nat), ((t ≤ 2 ∧ ∀ z, l1[k]? = some z → G = gateN G0 z.x z.y t ∧ (t = 0 ∨ (t : Int) ≤ z.z)) ∧ GatesR w w' rb gb vC G A c) ∧ a = ⟨#[s0, .pointer (some ⟨xb, 0, none⟩), s2, s3, s4, .pointer (some ⟨rb, 0, none⟩), s6, s7, s8, .pointer (some ⟨gb, 0, none⟩), .int .i64 (k : Int), .int .i64 ((t : Int) + 1), u12, u13, s14, s15, s16, s17, s18, s19, s20, s21, s22, s23, s24, s25, s26, s27, s28, s29, s30, s31, s32, s33, s34, s35, s36, s37, s38, s39, s40, s41, s42, s43, s44, s45, s46, s47, s48, s49, s50, s51, s52, s53, s54, u55, u56, u57, u58, u59, u60, u61, u62, u63, u64, u65, u66, u67, u68, u69, u70, u71, u72, u73, u74, u75, u76, u77, u78, u79, u80, u81, u82, u83, u84, u85, u86, u87, u88, u89, u90, u91, u92, u93, u94, u95, u96, u97, u98, u99, u100, u101, u102, u103, u104, u105, u106, u107, u108, u109, s110, s111, s112, s113, s114, s115, s116, s117, s118, s119, s120, s121, s122, s123, s124, s125, s126, s127, s128, s129, s130], []⟩) (fun a _ => 4 - (intOf (a.tmps.getD 11 undef)).toNat) ⟨_, _, _, _, _, _, _, _, _, _, _, _, _, _, _, _, _, _, _, _, _, _, _, _, _, _, _, _, _, _, _, _, _, _, _, _, _, _, _, _, _, _, _, _, _, _, _, _, _, _, _, _, _, _, _, _, _, 0, G0, Ag, cg, ⟨⟨Nat.zero_le _, fun _ _ => ⟨rfl, .inl rfl⟩⟩, hstart⟩, rfl⟩ ?_
  intro a w' hI
  obtain ⟨u12, hI⟩ := hI
  obtain ⟨u13, hI⟩ := hI
  obtain ⟨u55, hI⟩ := hI
  obtain ⟨u56, hI⟩ := hI
  obtain ⟨u57, hI⟩ := hI
  obtain ⟨u58, hI⟩ := hI
  obtain ⟨u59, hI⟩ := hI
  obtain ⟨u60, hI⟩ := hI
  obtain ⟨u61, hI⟩ := hI
  obtain ⟨u62, hI⟩ := hI
  obtain ⟨u63, hI⟩ := hI
  obtain ⟨u64, hI⟩ := hI
  obtain ⟨u65, hI⟩ := hI
  obtain ⟨u66, hI⟩ := hI
  obtain ⟨u67, hI⟩ := hI
  obtain ⟨u68, hI⟩ := hI
  obtain ⟨u69, hI⟩ := hI
  obtain ⟨u70, hI⟩ := hI
  obtain ⟨u71, hI⟩ := hI
  obtain ⟨u72, hI⟩ := hI
  obtain ⟨u73, hI⟩ := hI
  obtain ⟨u74, hI⟩ := hI
  obtain ⟨u75, hI⟩ := hI
  obtain ⟨u76, hI⟩ := hI
  obtain ⟨u77, hI⟩ := hI
  obtain ⟨u78, hI⟩ := hI
  obtain ⟨u79, hI⟩ := hI
  obtain ⟨u80, hI⟩ := hI
  obtain ⟨u81, hI⟩ := hI
  obtain ⟨u82, hI⟩ := hI
  obtain ⟨u83, hI⟩ := hI
  obtain ⟨u84, hI⟩ := hI
  obtain ⟨u85, hI⟩ := hI
  obtain ⟨u86, hI⟩ := hI
  obtain ⟨u87, hI⟩ := hI
  obtain ⟨u88, hI⟩ := hI
  obtain ⟨u89, hI⟩ := hI
  obtain ⟨u90, hI⟩ := hI
  obtain ⟨u91, hI⟩ := hI
  obtain ⟨u92, hI⟩ := hI
  obtain ⟨u93, hI⟩ := hI
  obtain ⟨u94, hI⟩ := hI
  obtain ⟨u95, hI⟩ := hI
  obtain ⟨u96, hI⟩ := hI
  obtain ⟨u97, hI⟩ := hI
  obtain ⟨u98, hI⟩ := hI
  obtain ⟨u99, hI⟩ := hI
  obtain ⟨u100, hI⟩ := hI
  obtain ⟨u101, hI⟩ := hI
  obtain ⟨u102, hI⟩ := hI
  obtain ⟨u103, hI⟩ := hI
  obtain ⟨u104, hI⟩ := hI
  obtain ⟨u105, hI⟩ := hI
  obtain ⟨u106, hI⟩ := hI
  obtain ⟨u107, hI⟩ := hI
  obtain ⟨u108, hI⟩ := hI
  obtain ⟨u109, hI⟩ := hI
  obtain ⟨t, G, A, c, ⟨⟨ht, heq⟩, hG⟩, rfl⟩ := hI
  have HG := Lib.hid hG
  have hx' : WorldAt w' xb v0 (.slice A1 n1 c1) v2 := (hG.but.block xb hxlt (by rintro (e | e) <;> omega)).trans HX.out
  have x1 := cell_of hx' 1
  simp only [List.getElem?_toArray, List.getElem?_cons_zero, List.getElem?_cons_succ] at x1
  have r1 := cell_of hG.at' 1
  simp only [List.getElem?_toArray, List.getElem?_cons_zero, List.getElem?_cons_succ] at r1
  have hz := hG.but.size
  have hrd' := HRD.out.below (hG.but.below (B := B1) (fun q _ hq => by omega) (by omega))
  have hI1 : (k : Int) < (n1 : Int) := by omega
  obtain ⟨ad, z, rfl, hbk, hzz, s1, s2, s3⟩ := hrd'.trio hkn
  have s2' := cell_behind s2 (by omega)
  have s3' := cell_behind s3 (by omega)
  have heqz := heq z hzz
  have HZZ := Lib.hid hzz
  obtain ⟨za, zb, zs⟩ := z
  dsimp only at *
  have HEQ := Lib.hid heqz
  clear heq heqz
  have HX' := Lib.hid hx'
  clear hG hx' hzz hrd' s2 s3
  refine wp_seq ?_
  conv => arg 2; whnf
  conv => arg 4; dsimp only
  by_cases hgo : (t : Int) + 1 ≤ zs ∧ (t : Int) + 1 ≤ 2
  · obtain ⟨h1, h2⟩ := hgo
    go_wp2_with fail
    refine mkR15_any _ _ _ _ _ _ _ _ _ _ _ _ _ _ _ _ _ _ _ _ _ _ _ _ _ _ _ _ _ _ _ _ _ _ _ _ _ _ _ _ _ _ _ _ _ _ _ _ _ _ _ _ _ _ _ _ _ _ _ _ _ _ _ _ _ _ _ _ _ _ _ _ _ _ _ _ _ _ _ _ _ _ _ _ _ _ _ _ _ _ _ _ _ _ _ _ _ _ _ _ _ _ _ _ _ _ _ _ _ _ _ _ _ _ _ _ _ _ _ _ _ _ _ _ _ _ _ _ G za zb ((t : Int) + 1) A ad c n1 c1 xb rb k w w' x1 r1 hI1 s1 s2' HG.out.own hz HG.out.good ?_
    intro u69 u70 u71 u72 u73 u74 u75 u76 u77 u78 u79 u80 u81 u82 u83 u84 u85 u86 u87 u88 A2 c2 w2 hown2 hb2
    rename_i K hK
    refine hK _ _ ?_
    conv => arg 2; whnf
    conv => arg 4; dsimp only
    obtain ⟨v, hgv, hvf⟩ := HG.out.gates
    have hgv2 := hgv.below hb2
    have hbw : ad.block < w'.heap.size := by omega
    have t1 := (hb2.cell (p := ad.add (k * 3)) (by simpa [add_block] using hbw)).trans s1
    have t2 := (hb2.cell (p := ⟨(ad.add (k * 3)).block, (ad.add (k * 3)).off + 1, none⟩) (by simpa [add_block] using hbw)).trans s2'
    have tx := (hb2.cell (p := ⟨xb, 1, none⟩) (by show xb < _; omega)).trans x1
    have HOWN2 := Lib.hid hown2; have HB2 := Lib.hid hb2; have HGV2 := Lib.hid hgv2; have HVF := Lib.hid hvf
    clear s1 s2' s3' x1 r1 hown2 hb2 hgv hvf
    go_wp2_with fail
    refine mkR16_any _ _ _ _ _ _ _ _ _ _ _ _ _ _ _ _ _ _ _ _ _ _ _ _ _ _ _ _ _ _ _ _ _ _ _ _ _ _ _ _ _ _ _ _ _ _ _ _ _ _ _ _ _ _ _ _ _ _ _ _ _ _ _ _ _ _ _ _ _ _ _ _ _ _ _ _ _ _ _ _ _ _ _ _ _ _ _ _ _ _ _ _ _ _ _ _ _ _ _ _ _ _ _ _ _ _ _ _ _ _ _ _ _ _ _ _ _ _ _ _ _ _ _ _ _ _ _ G za zb ((t : Int) + 1) v ad n1 c1 xb gb k gb w2 tx hI1 t1 t2 hgv2 ?_
    intro u89 u90 u91 u92 u93 u94 u95 u96 u97 u98 u99 u100 u101 u102 u103 u104 w3 hto
    rename_i K2 hK2
    refine hK2 _ _ ?_
    conv => arg 2; whnf
    conv => arg 4; dsimp only
    have hnext := HG.out.next hrw hgw hrg (GoodT.set HG.out.good za zb ((t : Int) + 1)) HVF.out HOWN2.out HB2.out hto HGV2.out
    have hat3 := HG.out.nextAt hrw hrg HVF.out HB2.out hto
    have r31 := cell_of hat3 1
    simp only [List.getElem?_toArray, List.getElem?_cons_zero, List.getElem?_cons_succ] at r31
    have f31 := warm_of hat3 1
    have HEQ2 : Hid (∀ z, l1[k]? = some z → setT G za zb ((t : Int) + 1) = gateN G0 z.x z.y (t + 1) ∧ (t + 1 = 0 ∨ ((t + 1 : Nat) : Int) ≤ z.z)) := fun z hz => by
      have e := HZZ.out.symm.trans hz
      injection e with e
      subst e
      refine ⟨?_, .inr ?_⟩
      · show _ = setT (gateN G0 za zb t) za zb _
        rw [← HEQ.out.1]
      · show ((t + 1 : Nat) : Int) ≤ zs
        omega
    have HNEXT := Lib.hid hnext
    clear hto hnext t1 t2 tx hat3 hgv2
    generalize setE G za zb ((t : Int) + 1) = E at *
    generalize setT G za zb ((t : Int) + 1) = G' at *
    go_wp2_with fail
    refine ⟨⟨_, _, _, _, _, _, _, _, _, _, _, _, _, _, _, _, _, _, _, _, _, _, _, _, _, _, _, _, _, _, _, _, _, _, _, _, _, _, _, _, _, _, _, _, _, _, _, _, _, _, _, _, _, _, _, _, _, t + 1, G', A2, c2, ⟨⟨by omega, HEQ2.out⟩, HNEXT.out⟩, rfl⟩, by simp [intOf]; omega⟩
  · have HFIN := Lib.hid HG.out
    have HFE : Hid (∀ z, l1[k]? = some z → G = gateStep G0 z) := fun z hz => by
      have e := HZZ.out.symm.trans hz
      injection e with e
      subst e
      unfold gateStep
      rw [gateSteps_of ht HEQ.out.2 hgo]
      exact HEQ.out.1
    clear r1 s1 s2'
    by_cases h1 : (t : Int) + 1 ≤ zs
    · have h2 : ¬ (t : Int) + 1 ≤ 2 := fun h => hgo ⟨h1, h⟩
      go_wp2_with fail
      exact HQ.out _ _ _ _ _ _ _ _ _ _ _ _ _ _ _ _ _ _ _ _ _ _ _ _ _ _ _ _ _ _ _ _ _ _ _ _ _ _ _ _ _ _ _ _ _ _ _ _ _ _ _ _ _ _ _ _ _ _ w' G A c HFE.out HFIN.out
    · go_wp2_with fail
      exact HQ.out _ _ _ _ _ _ _ _ _ _ _ _ _ _ _ _ _ _ _ _ _ _ _ _ _ _ _ _ _ _ _ _ _ _ _ _ _ _ _ _ _ _ _ _ _ _ _ _ _ _ _ _ _ _ _ _ _ _ w' G A c HFE.out HFIN.out
end Go.Proofs.YtmgncoialppmpaaGreat
