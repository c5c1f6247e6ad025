/-
  Several texts, one behind the other: what each holds stands ahead of it.
-/
import Derived.Test.YtafloaabjinkfaaGreatMany22

/-
  A world that is made: the states of one gate: the loop.
-/
namespace Go.Proofs.YtafloaabjinkfaaGreat
open Go.RowKit

/-- The states of one gate: 1, then 2, up to the one that is asked for. -/
def gateN (G : List Trio) (x y : Int) : Nat → List Trio
  | 0 => G
  | t + 1 => setT (gateN G x y t) x y ((t : Int) + 1)
def gateSteps (z : Int) : Nat := if z < 1 then 0 else if z < 2 then 1 else 2
def gateStep (G : List Trio) (z : Trio) : List Trio := gateN G z.x z.y (gateSteps z.z)
theorem gateSteps_of {z : Int} {t : Nat} (ht : t ≤ 2) (h0 : t = 0 ∨ (t : Int) ≤ z) (h : ¬ ((t : Int) + 1 ≤ z ∧ (t : Int) + 1 ≤ 2)) : gateSteps z = t := by
  unfold gateSteps
  split
  · omega
  · split <;> omega

set_option maxRecDepth 100000 in
set_option maxHeartbeats 4000000 in
theorem mkL4_any (s0 s2 s3 s4 s6 s7 s8 s12 s13 s14 s15 s16 s17 s18 s19 s20 s21 s22 s23 s24 s25 s26 s27 s28 s29 s30 s31 s32 s33 s34 s35 s36 s37 s38 s39 s40 s41 s42 s43 s44 s45 s46 s47 s48 s49 s50 s51 s52 s53 s54 s55 s56 s57 s58 s59 s60 s61 s62 s63 s64 s65 s66 s67 s68 s69 s70 s71 s72 s73 s74 s75 s76 s77 s78 s79 s80 s81 s82 s83 s84 s85 s86 s87 s88 s89 s90 s91 s92 s93 s94 s95 s96 s97 s98 s99 s100 s101 s102 s103 s104 s105 s106 s107 s108 s109 s110 s111 s112 s113 s114 s115 s116 s117 s118 s119 s120 s121 s122 s123 s124 s125 s126 s127 s128 s129 s130 : Value) (Q0 : Exit → Act → World → Prop) (l1 : List Trio) (A1 : Option Addr) (n1 c1 xb rb gb k B1 : Nat) (v0 v2 vC : Value) (w w1 : World) (hx : WorldAt w xb v0 (.slice A1 n1 c1) v2) (hrd : Rd w B1 3 A1 n1 (trios l1)) (hB1 : B1 ≤ rb) (hB2 : B1 ≤ gb) (hxr : xb ≠ rb) (hxg : xb ≠ gb) (hrg : rb ≠ gb) (hrw : rb < w.heap.size) (hgw : gb < w.heap.size) (hkn : k < n1)
    (G0 : List Trio) (Ag : Option Addr) (cg : Nat) (hstart : GatesR w w1 rb gb vC G0 Ag cg)
    (hQ : ∀ (u11 u12 u13 u55 u56 u57 u58 u59 u60 u61 u62 u63 u64 u65 u66 u67 u68 u69 u70 u71 u72 u73 u74 u75 u76 u77 u78 u79 u80 u81 u82 u83 u84 u85 u86 u87 u88 u89 u90 u91 u92 u93 u94 u95 u96 u97 u98 u99 u100 u101 u102 u103 u104 u105 u106 u107 u108 u109 : Value) (w' : World) (G : List Trio) (A : Option Addr) (c : Nat), (∀ z, l1[k]? = some z → G = gateStep G0 z) → GatesR w w' rb gb vC G A c → Q0 (.exit 4) ⟨#[s0, .pointer (some ⟨xb, 0, none⟩), s2, s3, s4, .pointer (some ⟨rb, 0, none⟩), s6, s7, s8, .pointer (some ⟨gb, 0, none⟩), .int .i64 (k : Int), u11, u12, u13, s14, s15, s16, s17, s18, s19, s20, s21, s22, s23, s24, s25, s26, s27, s28, s29, s30, s31, s32, s33, s34, s35, s36, s37, s38, s39, s40, s41, s42, s43, s44, s45, s46, s47, s48, s49, s50, s51, s52, s53, s54, u55, u56, u57, u58, u59, u60, u61, u62, u63, u64, u65, u66, u67, u68, u69, u70, u71, u72, u73, u74, u75, u76, u77, u78, u79, u80, u81, u82, u83, u84, u85, u86, u87, u88, u89, u90, u91, u92, u93, u94, u95, u96, u97, u98, u99, u100, u101, u102, u103, u104, u105, u106, u107, u108, u109, s110, s111, s112, s113, s114, s115, s116, s117, s118, s119, s120, s121, s122, s123, s124, s125, s126, s127, s128, s129, s130], []⟩ w') :
    Code.wp Tryz.prog mkL4 Q0 ⟨#[s0, .pointer (some ⟨xb, 0, none⟩), s2, s3, s4, .pointer (some ⟨rb, 0, none⟩), s6, s7, s8, .pointer (some ⟨gb, 0, none⟩), .int .i64 (k : Int), .int .i64 1, s12, s13, s14, s15, s16, s17, s18, s19, s20, s21, s22, s23, s24, s25, s26, s27, s28, s29, s30, s31, s32, s33, s34, s35, s36, s37, s38, s39, s40, s41, s42, s43, s44, s45, s46, s47, s48, s49, s50, s51, s52, s53, s54, s55, s56, s57, s58, s59, s60, s61, s62, s63, s64, s65, s66, s67, s68, s69, s70, s71, s72, s73, s74, s75, s76, s77, s78, s79, s80, s81, s82, s83, s84, s85, s86, s87, s88, s89, s90, s91, s92, s93, s94, s95, s96, s97, s98, s99, s100, s101, s102, s103, s104, s105, s106, s107, s108, s109, s110, s111, s112, s113, s114, s115, s116, s117, s118, s119, s120, s121, s122, s123, s124, s125, s126, s127, s128, s129, s130], []⟩ w1 := by
  have HX := Lib.hid hx; have HRD := Lib.hid hrd; have HQ := Lib.hid hQ
  have hxlt := lt_of_blk hx
  clear hx hrd hQ
  conv => arg 2; whnf
  conv => arg 4; dsimp only
  refine wp_loop (fun a w' => ∃ (u12 u13 u55 u56 u57 u58 u59 u60 u61 u62 u63 u64 u65 u66 u67 u68 u69 u70 u71 u72 u73 u74 u75 u76 u77 u78 u79 u80 u81 u82 u83 u84 u85 u86 u87 u88 u89 u90 u91 u92 u93 u94 u95 u96 u97 u98 u99 u100 u101 u102 u103 u104 u105 u106 u107 u108 u109 : Value) (t : Nat) (G : List Trio) (A : Option Addr) (c : Nat), ((t ≤ 2 ∧ ∀ z, l1[k]? = some z → G = gateN G0 z.x z.y t ∧ (t = 0 ∨ (t : Int) ≤ z.z)) ∧ GatesR w w' rb gb vC G A c) ∧ a = ⟨#[s0, .pointer (some ⟨xb, 0, none⟩), s2, s3, s4, .pointer (some ⟨rb, 0, none⟩), s6, s7, s8, .pointer (some ⟨gb, 0, none⟩), .int .i64 (k : Int), .int .i64 ((t : Int) + 1), u12, u13, s14, s15, s16, s17, s18, s19, s20, s21, s22, s23, s24, s25, s26, s27, s28, s29, s30, s31, s32, s33, s34, s35, s36, s37, s38, s39, s40, s41, s42, s43, s44, s45, s46, s47, s48, s49, s50, s51, s52, s53, s54, u55, u56, u57, u58, u59, u60, u61, u62, u63, u64, u65, u66, u67, u68, u69, u70, u71, u72, u73, u74, u75, u76, u77, u78, u79, u80, u81, u82, u83, u84, u85, u86, u87, u88, u89, u90, u91, u92, u93, u94, u95, u96, u97, u98, u99, u100, u101, u102, u103, u104, u105, u106, u107, u108, u109, s110, s111, s112, s113, s114, s115, s116, s117, s118, s119, s120, s121, s122, s123, s124, s125, s126, s127, s128, s129, s130], []⟩) (fun a _ => 4 - (intOf (a.tmps.getD 11 undef)).toNat) ⟨_, _, _, _, _, _, _, _, _, _, _, _, _, _, _, _, _, _, _, _, _, _, _, _, _, _, _, _, _, _, _, _, _, _, _, _, _, _, _, _, _, _, _, _, _, _, _, _, _, _, _, _, _, _, _, _, _, 0, G0, Ag, cg, ⟨⟨Nat.zero_le _, fun _ _ => ⟨rfl, .inl rfl⟩⟩, hstart⟩, rfl⟩ ?_
  intro a w' hI
  obtain ⟨u12, hI⟩ := hI
  obtain ⟨u13, hI⟩ := hI
  obtain ⟨u55, hI⟩ := hI
  obtain ⟨u56, hI⟩ := hI
  obtain ⟨u57, hI⟩ := hI
  obtain ⟨u58, hI⟩ := hI
  obtain ⟨u59, hI⟩ := hI
  obtain ⟨u60, hI⟩ := hI
  obtain ⟨u61, hI⟩ := hI
  obtain ⟨u62, hI⟩ := hI
  obtain ⟨u63, hI⟩ := hI
  obtain ⟨u64, hI⟩ := hI
  obtain ⟨u65, hI⟩ := hI
  obtain ⟨u66, hI⟩ := hI
  obtain ⟨u67, hI⟩ := hI
  obtain ⟨u68, hI⟩ := hI
  obtain ⟨u69, hI⟩ := hI
  obtain ⟨u70, hI⟩ := hI
  obtain ⟨u71, hI⟩ := hI
  obtain ⟨u72, hI⟩ := hI
  obtain ⟨u73, hI⟩ := hI
  obtain ⟨u74, hI⟩ := hI
  obtain ⟨u75, hI⟩ := hI
  obtain ⟨u76, hI⟩ := hI
  obtain ⟨u77, hI⟩ := hI
  obtain ⟨u78, hI⟩ := hI
  obtain ⟨u79, hI⟩ := hI
  obtain ⟨u80, hI⟩ := hI
  obtain ⟨u81, hI⟩ := hI
  obtain ⟨u82, hI⟩ := hI
  obtain ⟨u83, hI⟩ := hI
  obtain ⟨u84, hI⟩ := hI
  obtain ⟨u85, hI⟩ := hI
  obtain ⟨u86, hI⟩ := hI
  obtain ⟨u87, hI⟩ := hI
  obtain ⟨u88, hI⟩ := hI
  obtain ⟨u89, hI⟩ := hI
  obtain ⟨u90, hI⟩ := hI
  obtain ⟨u91, hI⟩ := hI
  obtain ⟨u92, hI⟩ := hI
  obtain ⟨u93, hI⟩ := hI
  obtain ⟨u94, hI⟩ := hI
  obtain ⟨u95, hI⟩ := hI
  obtain ⟨u96, hI⟩ := hI
  obtain ⟨u97, hI⟩ := hI
  obtain ⟨u98, hI⟩ := hI
  obtain ⟨u99, hI⟩ := hI
  obtain ⟨u100, hI⟩ := hI
  obtain ⟨u101, hI⟩ := hI
  obtain ⟨u102, hI⟩ := hI
  obtain ⟨u103, hI⟩ := hI
  obtain ⟨u104, hI⟩ := hI
  obtain ⟨u105, hI⟩ := hI
  obtain ⟨u106, hI⟩ := hI
  obtain ⟨u107, hI⟩ := hI
  obtain ⟨u108, hI⟩ := hI
  obtain ⟨u109, hI⟩ := hI
  obtain ⟨t, G, A, c, ⟨⟨ht, heq⟩, hG⟩, rfl⟩ := hI
  have HG := Lib.hid hG
  have hx' : WorldAt w' xb v0 (.slice A1 n1 c1) v2 := (hG.but.block xb hxlt (by rintro (e | e) <;> omega)).trans HX.out
  have x1 := cell_of hx' 1
  simp only [List.getElem?_toArray, List.getElem?_cons_zero, List.getElem?_cons_succ] at x1
  have r1 := cell_of hG.at' 1
  simp only [List.getElem?_toArray, List.getElem?_cons_zero, List.getElem?_cons_succ] at r1
  have hz := hG.but.size
  have hrd' := HRD.out.below (hG.but.below (B := B1) (fun q _ hq => by omega) (by omega))
  have hI1 : (k : Int) < (n1 : Int) := by omega
  obtain ⟨ad, z, rfl, hbk, hzz, s1, s2, s3⟩ := hrd'.trio hkn
  have s2' := cell_behind s2 (by omega)
  have s3' := cell_behind s3 (by omega)
  have heqz := heq z hzz
  have HZZ := Lib.hid hzz
  obtain ⟨za, zb, zs⟩ := z
  dsimp only at *
  have HEQ := Lib.hid heqz
  clear heq heqz
  have HX' := Lib.hid hx'
  clear hG hx' hzz hrd' s2 s3
  refine wp_seq ?_
  conv => arg 2; whnf
  conv => arg 4; dsimp only
  by_cases hgo : (t : Int) + 1 ≤ zs ∧ (t : Int) + 1 ≤ 2
  · obtain ⟨h1, h2⟩ := hgo
    go_wp2_with fail
    refine mkR15_any _ _ _ _ _ _ _ _ _ _ _ _ _ _ _ _ _ _ _ _ _ _ _ _ _ _ _ _ _ _ _ _ _ _ _ _ _ _ _ _ _ _ _ _ _ _ _ _ _ _ _ _ _ _ _ _ _ _ _ _ _ _ _ _ _ _ _ _ _ _ _ _ _ _ _ _ _ _ _ _ _ _ _ _ _ _ _ _ _ _ _ _ _ _ _ _ _ _ _ _ _ _ _ _ _ _ _ _ _ _ _ _ _ _ _ _ _ _ _ _ _ _ _ _ _ _ _ _ G za zb ((t : Int) + 1) A ad c n1 c1 xb rb k w w' x1 r1 hI1 s1 s2' HG.out.own hz HG.out.good ?_
    intro u69 u70 u71 u72 u73 u74 u75 u76 u77 u78 u79 u80 u81 u82 u83 u84 u85 u86 u87 u88 A2 c2 w2 hown2 hb2
    rename_i K hK
    refine hK _ _ ?_
    conv => arg 2; whnf
    conv => arg 4; dsimp only
    obtain ⟨v, hgv, hvf⟩ := HG.out.gates
    have hgv2 := hgv.below hb2
    have hbw : ad.block < w'.heap.size := by omega
    have t1 := (hb2.cell (p := ad.add (k * 3)) (by simpa [add_block] using hbw)).trans s1
    have t2 := (hb2.cell (p := ⟨(ad.add (k * 3)).block, (ad.add (k * 3)).off + 1, none⟩) (by simpa [add_block] using hbw)).trans s2'
    have tx := (hb2.cell (p := ⟨xb, 1, none⟩) (by show xb < _; omega)).trans x1
    have HOWN2 := Lib.hid hown2; have HB2 := Lib.hid hb2; have HGV2 := Lib.hid hgv2; have HVF := Lib.hid hvf
    clear s1 s2' s3' x1 r1 hown2 hb2 hgv hvf
    go_wp2_with fail
    refine mkR16_any _ _ _ _ _ _ _ _ _ _ _ _ _ _ _ _ _ _ _ _ _ _ _ _ _ _ _ _ _ _ _ _ _ _ _ _ _ _ _ _ _ _ _ _ _ _ _ _ _ _ _ _ _ _ _ _ _ _ _ _ _ _ _ _ _ _ _ _ _ _ _ _ _ _ _ _ _ _ _ _ _ _ _ _ _ _ _ _ _ _ _ _ _ _ _ _ _ _ _ _ _ _ _ _ _ _ _ _ _ _ _ _ _ _ _ _ _ _ _ _ _ _ _ _ _ _ _ G za zb ((t : Int) + 1) v ad n1 c1 xb gb k gb w2 tx hI1 t1 t2 hgv2 ?_
    intro u89 u90 u91 u92 u93 u94 u95 u96 u97 u98 u99 u100 u101 u102 u103 u104 w3 hto
    rename_i K2 hK2
    refine hK2 _ _ ?_
    conv => arg 2; whnf
    conv => arg 4; dsimp only
    have hnext := HG.out.next hrw hgw hrg (GoodT.set HG.out.good za zb ((t : Int) + 1)) HVF.out HOWN2.out HB2.out hto HGV2.out
    have hat3 := HG.out.nextAt hrw hrg HVF.out HB2.out hto
    have r31 := cell_of hat3 1
    simp only [List.getElem?_toArray, List.getElem?_cons_zero, List.getElem?_cons_succ] at r31
    have f31 := warm_of hat3 1
    have HEQ2 : Hid (∀ z, l1[k]? = some z → setT G za zb ((t : Int) + 1) = gateN G0 z.x z.y (t + 1) ∧ (t + 1 = 0 ∨ ((t + 1 : Nat) : Int) ≤ z.z)) := fun z hz => by
      have e := HZZ.out.symm.trans hz
      injection e with e
      subst e
      refine ⟨?_, .inr ?_⟩
      · show _ = setT (gateN G0 za zb t) za zb _
        rw [← HEQ.out.1]
      · show ((t + 1 : Nat) : Int) ≤ zs
        omega
    have HNEXT := Lib.hid hnext
    clear hto hnext t1 t2 tx hat3 hgv2
    generalize setE G za zb ((t : Int) + 1) = E at *
    generalize setT G za zb ((t : Int) + 1) = G' at *
    go_wp2_with fail
    refine ⟨⟨_, _, _, _, _, _, _, _, _, _, _, _, _, _, _, _, _, _, _, _, _, _, _, _, _, _, _, _, _, _, _, _, _, _, _, _, _, _, _, _, _, _, _, _, _, _, _, _, _, _, _, _, _, _, _, _, _, t + 1, G', A2, c2, ⟨⟨by omega, HEQ2.out⟩, HNEXT.out⟩, rfl⟩, by simp [intOf]; omega⟩
  · have HFIN := Lib.hid HG.out
    have HFE : Hid (∀ z, l1[k]? = some z → G = gateStep G0 z) := fun z hz => by
      have e := HZZ.out.symm.trans hz
      injection e with e
      subst e
      unfold gateStep
      rw [gateSteps_of ht HEQ.out.2 hgo]
      exact HEQ.out.1
    clear r1 s1 s2'
    by_cases h1 : (t : Int) + 1 ≤ zs
    · have h2 : ¬ (t : Int) + 1 ≤ 2 := fun h => hgo ⟨h1, h⟩
      go_wp2_with fail
      exact HQ.out _ _ _ _ _ _ _ _ _ _ _ _ _ _ _ _ _ _ _ _ _ _ _ _ _ _ _ _ _ _ _ _ _ _ _ _ _ _ _ _ _ _ _ _ _ _ _ _ _ _ _ _ _ _ _ _ _ _ w' G A c HFE.out HFIN.out
    · go_wp2_with fail
      exact HQ.out _ _ _ _ _ _ _ _ _ _ _ _ _ _ _ _ _ _ _ _ _ _ _ _ _ _ _ _ _ _ _ _ _ _ _ _ _ _ _ _ _ _ _ _ _ _ _ _ _ _ _ _ _ _ _ _ _ _ w' G A c HFE.out HFIN.out
end Go.Proofs.YtafloaabjinkfaaGreat

/-
  A world that is made: its gates.
-/
namespace Go.Proofs.YtafloaabjinkfaaGreat
open Go.RowKit

noncomputable def mkL2 : Code := subCode [1, 1, 1, 1, 0, 1, 0] (Tryz.f10.body.getD .skip)
set_option maxRecDepth 100000 in
set_option maxHeartbeats 4000000 in
theorem mkL2_any (s0 s2 s3 s4 s6 s7 s8 s11 s12 s13 s14 s15 s16 s17 s18 s19 s20 s21 s22 s23 s24 s25 s26 s27 s28 s29 s30 s31 s32 s33 s34 s35 s36 s37 s38 s39 s40 s41 s42 s43 s44 s45 s46 s47 s48 s49 s50 s51 s52 s53 s54 s55 s56 s57 s58 s59 s60 s61 s62 s63 s64 s65 s66 s67 s68 s69 s70 s71 s72 s73 s74 s75 s76 s77 s78 s79 s80 s81 s82 s83 s84 s85 s86 s87 s88 s89 s90 s91 s92 s93 s94 s95 s96 s97 s98 s99 s100 s101 s102 s103 s104 s105 s106 s107 s108 s109 s110 s111 s112 s113 s114 s115 s116 s117 s118 s119 s120 s121 s122 s123 s124 s125 s126 s127 s128 s129 s130 : Value) (Q0 : Exit → Act → World → Prop) (l1 : List Trio) (A1 : Option Addr) (n1 c1 xb rb gb B1 : Nat) (v0 v2 vC : Value) (w : World) (hx : WorldAt w xb v0 (.slice A1 n1 c1) v2) (hrd : Rd w B1 3 A1 n1 (trios l1)) (hn : n1 ≤ maxLen) (hB1 : B1 ≤ rb) (hB2 : B1 ≤ gb) (hxr : xb ≠ rb) (hxg : xb ≠ gb) (hrg : rb ≠ gb) (hr : RefAt w rb vC (.slice none 0 0) (.slice none 0 0)) (hg : GatesAt w gb gb (.slice none 0 0) [])
    (hQ : ∀ (u10 u11 u12 u13 u44 u45 u46 u47 u48 u49 u50 u51 u52 u53 u54 u55 u56 u57 u58 u59 u60 u61 u62 u63 u64 u65 u66 u67 u68 u69 u70 u71 u72 u73 u74 u75 u76 u77 u78 u79 u80 u81 u82 u83 u84 u85 u86 u87 u88 u89 u90 u91 u92 u93 u94 u95 u96 u97 u98 u99 u100 u101 u102 u103 u104 u105 u106 u107 u108 u109 : Value) (w' : World) (G : List Trio) (A : Option Addr) (c : Nat), G = (l1.take 30).foldl gateStep [] → GatesR w w' rb gb vC G A c → Q0 (.exit 2) ⟨#[s0, .pointer (some ⟨xb, 0, none⟩), s2, s3, s4, .pointer (some ⟨rb, 0, none⟩), s6, s7, s8, .pointer (some ⟨gb, 0, none⟩), u10, u11, u12, u13, s14, s15, s16, s17, s18, s19, s20, s21, s22, s23, s24, s25, s26, s27, s28, s29, s30, s31, s32, s33, s34, s35, s36, s37, s38, s39, s40, s41, s42, s43, u44, u45, u46, u47, u48, u49, u50, u51, u52, u53, u54, u55, u56, u57, u58, u59, u60, u61, u62, u63, u64, u65, u66, u67, u68, u69, u70, u71, u72, u73, u74, u75, u76, u77, u78, u79, u80, u81, u82, u83, u84, u85, u86, u87, u88, u89, u90, u91, u92, u93, u94, u95, u96, u97, u98, u99, u100, u101, u102, u103, u104, u105, u106, u107, u108, u109, s110, s111, s112, s113, s114, s115, s116, s117, s118, s119, s120, s121, s122, s123, s124, s125, s126, s127, s128, s129, s130], []⟩ w') :
    Code.wp Tryz.prog mkL2 Q0 ⟨#[s0, .pointer (some ⟨xb, 0, none⟩), s2, s3, s4, .pointer (some ⟨rb, 0, none⟩), s6, s7, s8, .pointer (some ⟨gb, 0, none⟩), .int .i64 0, s11, s12, s13, s14, s15, s16, s17, s18, s19, s20, s21, s22, s23, s24, s25, s26, s27, s28, s29, s30, s31, s32, s33, s34, s35, s36, s37, s38, s39, s40, s41, s42, s43, s44, s45, s46, s47, s48, s49, s50, s51, s52, s53, s54, s55, s56, s57, s58, s59, s60, s61, s62, s63, s64, s65, s66, s67, s68, s69, s70, s71, s72, s73, s74, s75, s76, s77, s78, s79, s80, s81, s82, s83, s84, s85, s86, s87, s88, s89, s90, s91, s92, s93, s94, s95, s96, s97, s98, s99, s100, s101, s102, s103, s104, s105, s106, s107, s108, s109, s110, s111, s112, s113, s114, s115, s116, s117, s118, s119, s120, s121, s122, s123, s124, s125, s126, s127, s128, s129, s130], []⟩ w := by
  unfold maxLen at hn
  have HX := Lib.hid hx; have HRD := Lib.hid hrd; have HQ := Lib.hid hQ
  have hxlt := lt_of_blk hx
  have hrw := lt_of_blk hr
  have hgw := hg.lt
  have hstart : GatesR w w rb gb vC [] none 0 := ⟨GoodT.nil, hr, World.ownsRow_nil _ _ _ _, ⟨_, hg, fun k hk => by simp [Value.ownBlock] at hk⟩, But.refl _ _⟩
  have HST := Lib.hid hstart
  clear hx hrd hQ hr hg hstart
  conv => arg 2; whnf
  conv => arg 4; dsimp only
  refine wp_loop (fun a w' => ∃ (u11 u12 u13 u44 u45 u46 u47 u48 u49 u50 u51 u52 u53 u54 u55 u56 u57 u58 u59 u60 u61 u62 u63 u64 u65 u66 u67 u68 u69 u70 u71 u72 u73 u74 u75 u76 u77 u78 u79 u80 u81 u82 u83 u84 u85 u86 u87 u88 u89 u90 u91 u92 u93 u94 u95 u96 u97 u98 u99 u100 u101 u102 u103 u104 u105 u106 u107 u108 u109 : Value) (k : Nat) (G : List Trio) (A : Option Addr) (c : Nat), ((k ≤ n1 ∧ k ≤ 30) ∧ G = (l1.take k).foldl gateStep [] ∧ GatesR w w' rb gb vC G A c) ∧ a = ⟨#[s0, .pointer (some ⟨xb, 0, none⟩), s2, s3, s4, .pointer (some ⟨rb, 0, none⟩), s6, s7, s8, .pointer (some ⟨gb, 0, none⟩), .int .i64 (k : Int), u11, u12, u13, s14, s15, s16, s17, s18, s19, s20, s21, s22, s23, s24, s25, s26, s27, s28, s29, s30, s31, s32, s33, s34, s35, s36, s37, s38, s39, s40, s41, s42, s43, u44, u45, u46, u47, u48, u49, u50, u51, u52, u53, u54, u55, u56, u57, u58, u59, u60, u61, u62, u63, u64, u65, u66, u67, u68, u69, u70, u71, u72, u73, u74, u75, u76, u77, u78, u79, u80, u81, u82, u83, u84, u85, u86, u87, u88, u89, u90, u91, u92, u93, u94, u95, u96, u97, u98, u99, u100, u101, u102, u103, u104, u105, u106, u107, u108, u109, s110, s111, s112, s113, s114, s115, s116, s117, s118, s119, s120, s121, s122, s123, s124, s125, s126, s127, s128, s129, s130], []⟩) (fun a _ => n1 - (intOf (a.tmps.getD 10 undef)).toNat) ⟨_, _, _, _, _, _, _, _, _, _, _, _, _, _, _, _, _, _, _, _, _, _, _, _, _, _, _, _, _, _, _, _, _, _, _, _, _, _, _, _, _, _, _, _, _, _, _, _, _, _, _, _, _, _, _, _, _, _, _, _, _, _, _, _, _, _, _, _, _, 0, [], none, 0, ⟨⟨Nat.zero_le _, by omega⟩, rfl, HST.out⟩, rfl⟩ ?_
  intro a w' hI
  obtain ⟨u11, hI⟩ := hI
  obtain ⟨u12, hI⟩ := hI
  obtain ⟨u13, hI⟩ := hI
  obtain ⟨u44, hI⟩ := hI
  obtain ⟨u45, hI⟩ := hI
  obtain ⟨u46, hI⟩ := hI
  obtain ⟨u47, hI⟩ := hI
  obtain ⟨u48, hI⟩ := hI
  obtain ⟨u49, hI⟩ := hI
  obtain ⟨u50, hI⟩ := hI
  obtain ⟨u51, hI⟩ := hI
  obtain ⟨u52, hI⟩ := hI
  obtain ⟨u53, hI⟩ := hI
  obtain ⟨u54, hI⟩ := hI
  obtain ⟨u55, hI⟩ := hI
  obtain ⟨u56, hI⟩ := hI
  obtain ⟨u57, hI⟩ := hI
  obtain ⟨u58, hI⟩ := hI
  obtain ⟨u59, hI⟩ := hI
  obtain ⟨u60, hI⟩ := hI
  obtain ⟨u61, hI⟩ := hI
  obtain ⟨u62, hI⟩ := hI
  obtain ⟨u63, hI⟩ := hI
  obtain ⟨u64, hI⟩ := hI
  obtain ⟨u65, hI⟩ := hI
  obtain ⟨u66, hI⟩ := hI
  obtain ⟨u67, hI⟩ := hI
  obtain ⟨u68, hI⟩ := hI
  obtain ⟨u69, hI⟩ := hI
  obtain ⟨u70, hI⟩ := hI
  obtain ⟨u71, hI⟩ := hI
  obtain ⟨u72, hI⟩ := hI
  obtain ⟨u73, hI⟩ := hI
  obtain ⟨u74, hI⟩ := hI
  obtain ⟨u75, hI⟩ := hI
  obtain ⟨u76, hI⟩ := hI
  obtain ⟨u77, hI⟩ := hI
  obtain ⟨u78, hI⟩ := hI
  obtain ⟨u79, hI⟩ := hI
  obtain ⟨u80, hI⟩ := hI
  obtain ⟨u81, hI⟩ := hI
  obtain ⟨u82, hI⟩ := hI
  obtain ⟨u83, hI⟩ := hI
  obtain ⟨u84, hI⟩ := hI
  obtain ⟨u85, hI⟩ := hI
  obtain ⟨u86, hI⟩ := hI
  obtain ⟨u87, hI⟩ := hI
  obtain ⟨u88, hI⟩ := hI
  obtain ⟨u89, hI⟩ := hI
  obtain ⟨u90, hI⟩ := hI
  obtain ⟨u91, hI⟩ := hI
  obtain ⟨u92, hI⟩ := hI
  obtain ⟨u93, hI⟩ := hI
  obtain ⟨u94, hI⟩ := hI
  obtain ⟨u95, hI⟩ := hI
  obtain ⟨u96, hI⟩ := hI
  obtain ⟨u97, hI⟩ := hI
  obtain ⟨u98, hI⟩ := hI
  obtain ⟨u99, hI⟩ := hI
  obtain ⟨u100, hI⟩ := hI
  obtain ⟨u101, hI⟩ := hI
  obtain ⟨u102, hI⟩ := hI
  obtain ⟨u103, hI⟩ := hI
  obtain ⟨u104, hI⟩ := hI
  obtain ⟨u105, hI⟩ := hI
  obtain ⟨u106, hI⟩ := hI
  obtain ⟨u107, hI⟩ := hI
  obtain ⟨u108, hI⟩ := hI
  obtain ⟨u109, hI⟩ := hI
  obtain ⟨k, G, A, c, ⟨⟨hk, hk30⟩, heq, hG⟩, rfl⟩ := hI
  have HEQ := Lib.hid heq
  clear heq
  have HG := Lib.hid hG
  have hx' : WorldAt w' xb v0 (.slice A1 n1 c1) v2 := (hG.but.block xb hxlt (by rintro (e | e) <;> omega)).trans HX.out
  have x1 := cell_of hx' 1
  simp only [List.getElem?_toArray, List.getElem?_cons_zero, List.getElem?_cons_succ] at x1
  clear hG hx'
  refine wp_seq ?_
  conv => arg 2; whnf
  conv => arg 4; dsimp only
  by_cases hgo : k < n1 ∧ k < 30
  · obtain ⟨hlt, h30⟩ := hgo
    have hkn : (k : Int) < (n1 : Int) := by omega
    have hk3 : (k : Int) < 30 := by omega
    go_wp2_with fail
    refine mkL4_any _ _ _ _ _ _ _ _ _ _ _ _ _ _ _ _ _ _ _ _ _ _ _ _ _ _ _ _ _ _ _ _ _ _ _ _ _ _ _ _ _ _ _ _ _ _ _ _ _ _ _ _ _ _ _ _ _ _ _ _ _ _ _ _ _ _ _ _ _ _ _ _ _ _ _ _ _ _ _ _ _ _ _ _ _ _ _ _ _ _ _ _ _ _ _ _ _ _ _ _ _ _ _ _ _ _ _ _ _ _ _ _ _ _ _ _ _ _ _ _ _ _ _ _ _ _ _ l1 A1 n1 c1 xb rb gb k B1 v0 v2 vC w w' HX.out HRD.out hB1 hB2 hxr hxg hrg hrw hgw hlt G A c HG.out ?_
    intro u11 u12 u13 u55 u56 u57 u58 u59 u60 u61 u62 u63 u64 u65 u66 u67 u68 u69 u70 u71 u72 u73 u74 u75 u76 u77 u78 u79 u80 u81 u82 u83 u84 u85 u86 u87 u88 u89 u90 u91 u92 u93 u94 u95 u96 u97 u98 u99 u100 u101 u102 u103 u104 u105 u106 u107 u108 u109 w3 G3 A3 c3 heq3 hG3
    have HEQ3 : Hid (G3 = (l1.take (k + 1)).foldl gateStep []) := by
      have hlen := HRD.out.trios_len
      have hkl : k < l1.length := by omega
      unfold Hid
      rw [List.take_succ_eq_append_getElem hkl, List.foldl_append, ← HEQ.out, heq3 _ (List.getElem?_eq_getElem hkl)]
      rfl
    clear heq3
    rename_i K hK
    refine hK _ _ ?_
    conv => arg 2; whnf
    conv => arg 4; dsimp only
    have HG3 := Lib.hid hG3
    clear hG3 x1
    go_wp2_with fail
    refine ⟨⟨_, _, _, _, _, _, _, _, _, _, _, _, _, _, _, _, _, _, _, _, _, _, _, _, _, _, _, _, _, _, _, _, _, _, _, _, _, _, _, _, _, _, _, _, _, _, _, _, _, _, _, _, _, _, _, _, _, _, _, _, _, _, _, _, _, _, _, _, _, k + 1, G3, A3, c3, ⟨⟨by omega, by omega⟩, HEQ3.out, HG3.out⟩, rfl⟩, by simp [intOf]; omega⟩
  · have HFIN := Lib.hid HG.out
    have HFE : Hid (G = (l1.take 30).foldl gateStep []) := by
      have hlen := HRD.out.trios_len
      unfold Hid
      rw [HEQ.out]
      by_cases h3 : k = 30
      · rw [h3]
      · rw [List.take_of_length_le (i := k) (by omega), List.take_of_length_le (by omega)]
    by_cases h1 : k < n1
    · have hkn : (k : Int) < (n1 : Int) := by omega
      have hk3 : ¬ (k : Int) < 30 := by omega
      go_wp2_with fail
      exact HQ.out _ _ _ _ _ _ _ _ _ _ _ _ _ _ _ _ _ _ _ _ _ _ _ _ _ _ _ _ _ _ _ _ _ _ _ _ _ _ _ _ _ _ _ _ _ _ _ _ _ _ _ _ _ _ _ _ _ _ _ _ _ _ _ _ _ _ _ _ _ _ w' G A c HFE.out HFIN.out
    · have hkn : ¬ (k : Int) < (n1 : Int) := by omega
      go_wp2_with fail
      exact HQ.out _ _ _ _ _ _ _ _ _ _ _ _ _ _ _ _ _ _ _ _ _ _ _ _ _ _ _ _ _ _ _ _ _ _ _ _ _ _ _ _ _ _ _ _ _ _ _ _ _ _ _ _ _ _ _ _ _ _ _ _ _ _ _ _ _ _ _ _ _ _ w' G A c HFE.out HFIN.out
end Go.Proofs.YtafloaabjinkfaaGreat
