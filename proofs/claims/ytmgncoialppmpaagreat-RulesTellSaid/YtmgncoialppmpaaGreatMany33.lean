/-
  Several texts, one behind the other: what each holds stands ahead of it.
-/
import Derived.Test.YtmgncoialppmpaaGreatMany32
import Derived.Test.YtmgncoialppmpaaGreatMany28
import Derived.Test.YtmgncoialppmpaaGreatMany29

/-
  A world that is made: its gates.
-/
namespace Go.Proofs.YtmgncoialppmpaaGreat
open Go.RowKit

noncomputable def mkL2 : Code := subCode [1, 1, 1, 1, 0, 1, 0] (Tryz.f11.body.getD .skip)
set_option maxRecDepth 100000 in
set_option maxHeartbeats 4000000 in
theorem mkL2_any (s0 s2 s3 s4 s6 s7 s8 s11 s12 s13 s14 s15 s16 s17 s18 s19 s20 s21 s22 s23 s24 s25 s26 s27 s28 s29 s30 s31 s32 s33 s34 s35 s36 s37 s38 s39 s40 s41 s42 s43 s44 s45 s46 s47 s48 s49 s50 s51 s52 s53 s54 s55 s56 s57 s58 s59 s60 s61 s62 s63 s64 s65 s66 s67 s68 s69 s70 s71 s72 s73 s74 s75 s76 s77 s78 s79 s80 s81 s82 s83 s84 s85 s86 s87 s88 s89 s90 s91 s92 s93 s94 s95 s96 s97 s98 s99 s100 s101 s102 s103 s104 s105 s106 s107 s108 s109 s110 s111 s112 s113 s114 s115 s116 s117 s118 s119 s120 s121 s122 s123 s124 s125 s126 s127 s128 s129 s130 : Value) (Q0 : Exit → Act → World → Prop) (l1 : List Trio) (A1 : Option Addr) (n1 c1 xb rb gb B1 : Nat) (v0 v2 vC : Value) (w : World) (hx : WorldAt w xb v0 (.slice A1 n1 c1) v2) (hrd : Rd w B1 3 A1 n1 (trios l1)) (hn : n1 ≤ maxLen) (hB1 : B1 ≤ rb) (hB2 : B1 ≤ gb) (hxr : xb ≠ rb) (hxg : xb ≠ gb) (hrg : rb ≠ gb) (hr : RefAt w rb vC (.slice none 0 0) (.slice none 0 0)) (hg : GatesAt w gb gb (.slice none 0 0) [])
    (hQ : ∀ (u10 u11 u12 u13 u44 u45 u46 u47 u48 u49 u50 u51 u52 u53 u54 u55 u56 u57 u58 u59 u60 u61 u62 u63 u64 u65 u66 u67 u68 u69 u70 u71 u72 u73 u74 u75 u76 u77 u78 u79 u80 u81 u82 u83 u84 u85 u86 u87 u88 u89 u90 u91 u92 u93 u94 u95 u96 u97 u98 u99 u100 u101 u102 u103 u104 u105 u106 u107 u108 u109 : Value) (w' : World) (G : List Trio) (A : Option Addr) (c : Nat), G = (l1.take 30).foldl gateStep [] → GatesR w w' rb gb vC G A c → Q0 (.exit 2) ⟨#[s0, .pointer (some ⟨xb, 0, none⟩), s2, s3, s4, .pointer (some ⟨rb, 0, none⟩), s6, s7, s8, .pointer (some ⟨gb, 0, none⟩), u10, u11, u12, u13, s14, s15, s16, s17, s18, s19, s20, s21, s22, s23, s24, s25, s26, s27, s28, s29, s30, s31, s32, s33, s34, s35, s36, s37, s38, s39, s40, s41, s42, s43, u44, u45, u46, u47, u48, u49, u50, u51, u52, u53, u54, u55, u56, u57, u58, u59, u60, u61, u62, u63, u64, u65, u66, u67, u68, u69, u70, u71, u72, u73, u74, u75, u76, u77, u78, u79, u80, u81, u82, u83, u84, u85, u86, u87, u88, u89, u90, u91, u92, u93, u94, u95, u96, u97, u98, u99, u100, u101, u102, u103, u104, u105, u106, u107, u108, u109, s110, s111, s112, s113, s114, s115, s116, s117, s118, s119, s120, s121, s122, s123, s124, s125, s126, s127, s128, s129, s130], []⟩ w') :
    Code.wp Tryz.prog mkL2 Q0 ⟨#[s0, .pointer (some ⟨xb, 0, none⟩), s2, s3, s4, .pointer (some ⟨rb, 0, none⟩), s6, s7, s8, .pointer (some ⟨gb, 0, none⟩), .int .i64 0, s11, s12, s13, s14, s15, s16, s17, s18, s19, s20, s21, s22, s23, s24, s25, s26, s27, s28, s29, s30, s31, s32, s33, s34, s35, s36, s37, s38, s39, s40, s41, s42, s43, s44, s45, s46, s47, s48, s49, s50, s51, s52, s53, s54, s55, s56, s57, s58, s59, s60, s61, s62, s63, s64, s65, s66, s67, s68, s69, s70, s71, s72, s73, s74, s75, s76, s77, s78, s79, s80, s81, s82, s83, s84, s85, s86, s87, s88, s89, s90, s91, s92, s93, s94, s95, s96, s97, s98, s99, s100, s101, s102, s103, s104, s105, s106, s107, s108, s109, s110, s111, s112, s113, s114, s115, s116, s117, s118, s119, s120, s121, s122, s123, s124, s125, s126, s127, s128, s129, s130], []⟩ w := by
  unfold maxLen at hn
  have HX := Lib.hid hx; have HRD := Lib.hid hrd; have HQ := Lib.hid hQ
  have hxlt := lt_of_blk hx
  have hrw := lt_of_blk hr
  have hgw := hg.lt
  have hstart : GatesR w w rb gb vC [] none 0 := ⟨GoodT.nil, hr, World.ownsRow_nil _ _ _ _, ⟨_, hg, fun k hk => by simp [Value.ownBlock] at hk⟩, But.refl _ _⟩
  have HST := Lib.hid hstart
  clear hx hrd hQ hr hg hstart
  conv => arg 2; whnf
  conv => arg 4; dsimp only
  refine wp_loop (fun a w' => ∃ (u11 u12 u13 u44 u45 u46 u47 u48 u49 u50 u51 u52 u53 u54 u55 u56 u57 u58 u59 u60 u61 u62 u63 u64 u65 u66 u67 u68 u69 u70 u71 u72 u73 u74 u75 u76 u77 u78 u79 u80 u81 u82 u83 u84 u85 u86 u87 u88 u89 u90 u91 u92 u93 u94 u95 u96 u97 u98 u99 u100 u101 u102 u103 u104 u105 u106 u107 u108 u109 : Value) (k : Nat) (G : List Trio) (A : Option Addr) (c : Nat), ((k ≤ n1 ∧ k ≤ 30) ∧ G = (l1.take k).foldl gateStep [] ∧ GatesR w w' rb gb vC G A c) ∧ a = ⟨#[s0, .pointer (some ⟨xb, 0, none⟩), s2, s3, s4, .pointer (some ⟨rb, 0, none⟩), s6, s7, s8, .pointer (some ⟨gb, 0, none⟩), .int .i64 (k : Int), u11, u12, u13, s14, s15, s16, s17, s18, s19, s20, s21, s22, s23, s24, s25, s26, s27, s28, s29, s30, s31, s32, s33, s34, s35, s36, s37, s38, s39, s40, s41, s42, s43, u44, u45, u46, u47, u48, u49, u50, u51, u52, u53, u54, u55, u56, u57, u58, u59, u60, u61, u62, u63, u64, u65, u66, u67, u68, u69, u70, u71, u72, u73, u74, u75, u76, u77, u78, u79, u80, u81, u82, u83, u84, u85, u86, u87, u88, u89, u90, u91, u92, u93, u94, u95, u96, u97, u98, u99, u100, u101, u102, u103, u104, u105, u106, u107, u108, u109, s110, s111, s112, s113, s114, s115, s116, s117, s118, s119, s120, s121, s122, s123, s124, s125, s126, s127, s128, s129, s130], []⟩) (fun a _ => n1 - (intOf (a.tmps.getD 10 undef)).toNat) ⟨_, _, _, _, _, _, _, _, _, _, _, _, _, _, _, _, _, _, _, _, _, _, _, _, _, _, _, _, _, _, _, _, _, _, _, _, _, _, _, _, _, _, _, _, _, _, _, _, _, _, _, _, _, _, _, _, _, _, _, _, _, _, _, _, _, _, _, _, _, 0, [], none, 0, ⟨⟨Nat.zero_le _, by omega⟩, rfl, HST.out⟩, rfl⟩ ?_
  intro a w' hI
  obtain ⟨u11, hI⟩ := hI
  obtain ⟨u12, hI⟩ := hI
  obtain ⟨u13, hI⟩ := hI
  obtain ⟨u44, hI⟩ := hI
  obtain ⟨u45, hI⟩ := hI
  obtain ⟨u46, hI⟩ := hI
  obtain ⟨u47, hI⟩ := hI
  obtain ⟨u48, hI⟩ := hI
  obtain ⟨u49, hI⟩ := hI
  obtain ⟨u50, hI⟩ := hI
  obtain ⟨u51, hI⟩ := hI
  obtain ⟨u52, hI⟩ := hI
  obtain ⟨u53, hI⟩ := hI
  obtain ⟨u54, hI⟩ := hI
  obtain ⟨u55, hI⟩ := hI
  obtain ⟨u56, hI⟩ := hI
  obtain ⟨u57, hI⟩ := hI
  obtain ⟨u58, hI⟩ := hI
  obtain ⟨u59, hI⟩ := hI
  obtain ⟨u60, hI⟩ := hI
  obtain ⟨u61, hI⟩ := hI
  obtain ⟨u62, hI⟩ := hI
  obtain ⟨u63, hI⟩ := hI
  obtain ⟨u64, hI⟩ := hI
  obtain ⟨u65, hI⟩ := hI
  obtain ⟨u66, hI⟩ := hI
  obtain ⟨u67, hI⟩ := hI
  obtain ⟨u68, hI⟩ := hI
  obtain ⟨u69, hI⟩ := hI
  obtain ⟨u70, hI⟩ := hI
  obtain ⟨u71, hI⟩ := hI
  obtain ⟨u72, hI⟩ := hI
  obtain ⟨u73, hI⟩ := hI
  obtain ⟨u74, hI⟩ := hI
  obtain ⟨u75, hI⟩ := hI
  obtain ⟨u76, hI⟩ := hI
  obtain ⟨u77, hI⟩ := hI
  obtain ⟨u78, hI⟩ := hI
  obtain ⟨u79, hI⟩ := hI
  obtain ⟨u80, hI⟩ := hI
  obtain ⟨u81, hI⟩ := hI
  obtain ⟨u82, hI⟩ := hI
  obtain ⟨u83, hI⟩ := hI
  obtain ⟨u84, hI⟩ := hI
  obtain ⟨u85, hI⟩ := hI
  obtain ⟨u86, hI⟩ := hI
  obtain ⟨u87, hI⟩ := hI
  obtain ⟨u88, hI⟩ := hI
  obtain ⟨u89, hI⟩ := hI
  obtain ⟨u90, hI⟩ := hI
  obtain ⟨u91, hI⟩ := hI
  obtain ⟨u92, hI⟩ := hI
  obtain ⟨u93, hI⟩ := hI
  obtain ⟨u94, hI⟩ := hI
  obtain ⟨u95, hI⟩ := hI
  obtain ⟨u96, hI⟩ := hI
  obtain ⟨u97, hI⟩ := hI
  obtain ⟨u98, hI⟩ := hI
  obtain ⟨u99, hI⟩ := hI
  obtain ⟨u100, hI⟩ := hI
  obtain ⟨u101, hI⟩ := hI
  obtain ⟨u102, hI⟩ := hI
  obtain ⟨u103, hI⟩ := hI
  obtain ⟨u104, hI⟩ := hI
  obtain ⟨u105, hI⟩ := hI
  obtain ⟨u106, hI⟩ := hI
  obtain ⟨u107, hI⟩ := hI
  obtain ⟨u108, hI⟩ := hI
  obtain ⟨u109, hI⟩ := hI
  obtain ⟨k, G, A, c, ⟨⟨hk, hk30⟩, heq, hG⟩, rfl⟩ := hI
  have HEQ := Lib.hid heq
  clear heq
  have HG := Lib.hid hG
  have hx' : WorldAt w' xb v0 (.slice A1 n1 c1) v2 := (hG.but.block xb hxlt (by rintro (e | e) <;> omega)).trans HX.out
  have x1 := cell_of hx' 1
  simp only [List.getElem?_toArray, List.getElem?_cons_zero, List.getElem?_cons_succ] at x1
  clear hG hx'
  refine wp_seq ?_
  conv => arg 2; whnf
  conv => arg 4; dsimp only
  by_cases hgo : k < n1 ∧ k < 30
  · obtain ⟨hlt, h30⟩ := hgo
    have hkn : (k : Int) < (n1 : Int) := by omega
    have hk3 : (k : Int) < 30 := by omega
    go_wp2_with fail
    refine mkL4_any _ _ _ _ _ _ _ _ _ _ _ _ _ _ _ _ _ _ _ _ _ _ _ _ _ _ _ _ _ _ _ _ _ _ _ _ _ _ _ _ _ _ _ _ _ _ _ _ _ _ _ _ _ _ _ _ _ _ _ _ _ _ _ _ _ _ _ _ _ _ _ _ _ _ _ _ _ _ _ _ _ _ _ _ _ _ _ _ _ _ _ _ _ _ _ _ _ _ _ _ _ _ _ _ _ _ _ _ _ _ _ _ _ _ _ _ _ _ _ _ _ _ _ _ _ _ _ l1 A1 n1 c1 xb rb gb k B1 v0 v2 vC w w' HX.out HRD.out hB1 hB2 hxr hxg hrg hrw hgw hlt G A c HG.out ?_
    intro u11 u12 u13 u55 u56 u57 u58 u59 u60 u61 u62 u63 u64 u65 u66 u67 u68 u69 u70 u71 u72 u73 u74 u75 u76 u77 u78 u79 u80 u81 u82 u83 u84 u85 u86 u87 u88 u89 u90 u91 u92 u93 u94 u95 u96 u97 u98 u99 u100 u101 u102 u103 u104 u105 u106 u107 u108 u109 w3 G3 A3 c3 heq3 hG3
    have HEQ3 : Hid (G3 = (l1.take (k + 1)).foldl gateStep []) := by
      have hlen := HRD.out.trios_len
      have hkl : k < l1.length := by omega
      unfold Hid
      rw [List.take_succ_eq_append_getElem hkl, List.foldl_append, ← HEQ.out, heq3 _ (List.getElem?_eq_getElem hkl)]
      rfl
    clear heq3
    rename_i K hK
    refine hK _ _ ?_
    conv => arg 2; whnf
    conv => arg 4; dsimp only
    have HG3 := Lib.hid hG3
    clear hG3 x1
    go_wp2_with fail
    refine ⟨⟨_, _, _, _, _, _, _, _, _, _, _, _, _, _, _, _, _, _, _, _, _, _, _, _, _, _, _, _, _, _, _, _, _, _, _, _, _, _, _, _, _, _, _, _, _, _, _, _, _, _, _, _, _, _, _, _, _, _, _, _, _, _, _, _, _, _, _, _, _, k + 1, G3, A3, c3, ⟨⟨by omega, by omega⟩, HEQ3.out, HG3.out⟩, rfl⟩, by simp [intOf]; omega⟩
  · have HFIN := Lib.hid HG.out
    have HFE : Hid (G = (l1.take 30).foldl gateStep []) := by
      have hlen := HRD.out.trios_len
      unfold Hid
      rw [HEQ.out]
      by_cases h3 : k = 30
      · rw [h3]
      · rw [List.take_of_length_le (i := k) (by omega), List.take_of_length_le (by omega)]
    by_cases h1 : k < n1
    · have hkn : (k : Int) < (n1 : Int) := by omega
      have hk3 : ¬ (k : Int) < 30 := by omega
      go_wp2_with fail
      exact HQ.out _ _ _ _ _ _ _ _ _ _ _ _ _ _ _ _ _ _ _ _ _ _ _ _ _ _ _ _ _ _ _ _ _ _ _ _ _ _ _ _ _ _ _ _ _ _ _ _ _ _ _ _ _ _ _ _ _ _ _ _ _ _ _ _ _ _ _ _ _ _ w' G A c HFE.out HFIN.out
    · have hkn : ¬ (k : Int) < (n1 : Int) := by omega
      go_wp2_with fail
      exact HQ.out _ _ _ _ _ _ _ _ _ _ _ _ _ _ _ _ _ _ _ _ _ _ _ _ _ _ _ _ _ _ _ _ _ _ _ _ _ _ _ _ _ _ _ _ _ _ _ _ _ _ _ _ _ _ _ _ _ _ _ _ _ _ _ _ _ _ _ _ _ _ w' G A c HFE.out HFIN.out
end Go.Proofs.YtmgncoialppmpaaGreat

/-
  A world that is made: the program's chart and book of the reference's lists.
-/
namespace Go.Proofs.YtmgncoialppmpaaGreat
open Go.RowKit

set_option maxRecDepth 100000 in
set_option maxHeartbeats 400000 in
theorem law3Make_any (C : List Acc) (A : Option Addr) (n c B : Nat) (w : World) (h : Rd w B 3 A n (accs C)) (hB : B ≤ w.heap.size) (hn : n ≤ 1000) (hg : GoodA C) :
    Calls Tryz.prog 61 #[.slice A n c] w fun e w' => ∃ v, e = .returned (.pointer (some ⟨w.heap.size, 0, none⟩)) ∧ ChartAt w' w.heap.size w.heap.size v C ∧ Below w.heap.size w w' := by
  have kn := new_any C A n c B w h hB (by omega)
  unfold NewPost at kn
  obtain ⟨h1, h2⟩ := new_good hg
  rw [h1, h2] at kn
  have KN := Lib.hid kn
  have z0 : ((0 : Int) != 0) = false := rfl
  clear kn h hg h1 h2
  go_enter Tryz.func61, Tryz.ntmps61
  go_wp2_with fail
  refine KN.out.mono ?_
  rintro e w1 ⟨hb, hx⟩
  rcases hx with ⟨h0, _⟩ | ⟨_, rfl, v, hC⟩
  · exact absurd rfl h0
  have HB := Lib.hid hb; have HC := Lib.hid hC
  clear hb hC
  go_wp2_with fail
  go_ret
  exact ⟨v, rfl, HC.out, HB.out⟩
theorem law6Of_any (r : List JR) (A : Option Addr) (n cap B : Nat) (w : World) (h : JlRd w B A n r) (hB : B ≤ w.heap.size) (hn : n ≤ maxLen) (hg : GoodM (r.map JR.j)) :
    Calls Tryz.prog 14 #[.slice A n cap] w fun e w' => ∃ v l, e = .returned (.pointer (some ⟨w.heap.size, 0, none⟩)) ∧ TomeAt w' w.heap.size w.heap.size v l ∧ l.map JR.j = r.map JR.j ∧ Below w.heap.size w w' := by
  obtain ⟨h1, h2⟩ := GoodM.of (r.map JR.j) [] (by simpa using hg)
  refine (lawOf_any r A n cap B w h hB hn h1).mono fun e w' hh => ?_
  obtain ⟨he, ht⟩ := hh
  have hb := ht.below w ((Below.refl _ _).alloc (Nat.le_refl _) _) fun k hk => ⟨by omega, by omega⟩
  obtain ⟨v, l, k1, k2, _⟩ := ht
  rw [h2] at k2
  exact ⟨v, l, he, k1, by simpa using k2, hb⟩

/-- A row whose first cell is a number does not lie in a block of slices: it stays where that one is written. -/
theorem rd_off {w : World} {rb B size n : Nat} {A : Option Addr} {xs : List Value} {T : TypeId} {a1 a2 a3 : Option Addr} {m1 m2 m3 k1 k2 k3 : Nat} (hr : w.heap[rb]? = some (.cells #[.slice a1 m1 k1, .slice a2 m2 k2, .slice a3 m3 k3] T (0, 0))) (h : Rd w B size A n xs) (h0 : 0 < n → ∃ x, xs[0]? = some (.int .i64 x)) (i : Nat) (u : Value) : Rd (w.setCell ⟨rb, i, none⟩ u) B size A n xs := by
  refine ⟨h.1, fun hn => ?_⟩
  obtain ⟨ad, e, hb, hc⟩ := h.2 hn
  obtain ⟨x, hx⟩ := h0 hn
  have c0 := hc 0 _ hx
  have hne : ad.block ≠ rb := by
    intro e2
    obtain ⟨bl, off, sp⟩ := ad
    dsimp only at e2
    subst e2
    simp only [Addr.add, if_pos] at c0
    cases sp <;> simp [World.cell?, hr] at c0
    match off, c0 with
    | 0, c0 => simp at c0
    | 1, c0 => simp at c0
    | 2, c0 => simp at c0
    | q + 3, c0 => simp at c0
  refine ⟨ad, e, hb, fun j v hv => ?_⟩
  rw [← hc j v hv]
  have hh : (w.setCell ⟨rb, i, none⟩ u).heap[(ad.add j).block]? = w.heap[(ad.add j).block]? := Below.heap_setCell _ _ _ _ (by rw [add_block]; exact hne)
  unfold World.cell?
  rw [hh]
theorem jl_off {w : World} {rb B n : Nat} {A : Option Addr} {r : List JR} {T : TypeId} {a1 a2 a3 : Option Addr} {m1 m2 m3 k1 k2 k3 : Nat} (hr : w.heap[rb]? = some (.cells #[.slice a1 m1 k1, .slice a2 m2 k2, .slice a3 m3 k3] T (0, 0))) (h : JlRd w B A n r) (i : Nat) (u : Value) : JlRd (w.setCell ⟨rb, i, none⟩ u) B A n r := by
  refine ⟨rd_off hr h.rd (fun hn => ?_) i u, fun a ha => rd_off hr (h.lines a ha) (fun hn => ?_) i u, h.nil, h.size⟩
  · have := h.rd.jrs_len
    match r, this with
    | [], h0 => simp at h0; omega
    | b :: r, _ => exact ⟨b.j.id, rfl⟩
  · match hl : a.j.lines with
    | [] => rw [hl] at hn; simp at hn
    | x :: L => exact ⟨x.acct, rfl⟩

noncomputable def mkR20 : Code := subCode [1, 1, 1, 1, 1, 1, 0] (Tryz.f11.body.getD .skip)
set_option maxRecDepth 100000 in
set_option maxHeartbeats 2000000 in
theorem mkR20_any (s0 s1 s2 s3 s4 s6 s7 s8 s9 s10 s11 s12 s13 s14 s15 s16 s17 s18 s19 s20 s21 s22 s23 s24 s25 s26 s27 s28 s29 s30 s31 s32 s33 s34 s35 s36 s37 s38 s39 s40 s41 s42 s43 s44 s45 s46 s47 s48 s49 s50 s51 s52 s53 s54 s55 s56 s57 s58 s59 s60 s61 s62 s63 s64 s65 s66 s67 s68 s69 s70 s71 s72 s73 s74 s75 s76 s77 s78 s79 s80 s81 s82 s83 s84 s85 s86 s87 s88 s89 s90 s91 s92 s93 s94 s95 s96 s97 s98 s99 s100 s101 s102 s103 s104 s105 s106 s107 s108 s109 s110 s111 s112 s113 s114 s115 s116 s117 s118 s119 s120 s121 s122 s123 s124 s125 s126 s127 s128 s129 s130 : Value) (Q0 : Exit → Act → World → Prop) (C : List Acc) (r : List JR) (Ac Ab : Option Addr) (nc nb cc cb rb : Nat) (w : World) (r0 : w.cell? ⟨rb, 0, none⟩ = some (.slice Ac nc cc)) (r2 : w.cell? ⟨rb, 2, none⟩ = some (.slice Ab nb cb))
    (hC : Rd w w.heap.size 3 Ac nc (accs C)) (hJ : JlRd w w.heap.size Ab nb r) (hg : GoodA C) (hgm : GoodM (r.map JR.j)) (hn1 : nc ≤ 1000) (hn2 : nb ≤ maxLen)
    (hQ : ∀ (u114 u115 u116 u117 u118 u119 : Value) (c1 b1 : Nat) (v1 v2 : Value) (l : List JR) (w2 : World), ChartAt w2 c1 c1 v1 C → TomeAt w2 b1 b1 v2 l → l.map JR.j = r.map JR.j → w.heap.size ≤ c1 → w.heap.size ≤ b1 → Below w.heap.size w w2 → Q0 .normal ⟨#[s0, s1, s2, s3, s4, .pointer (some ⟨rb, 0, none⟩), s6, s7, s8, s9, s10, s11, s12, s13, .pointer (some ⟨c1, 0, none⟩), .pointer (some ⟨b1, 0, none⟩), s16, s17, s18, s19, s20, s21, s22, s23, s24, s25, s26, s27, s28, s29, s30, s31, s32, s33, s34, s35, s36, s37, s38, s39, s40, s41, s42, s43, s44, s45, s46, s47, s48, s49, s50, s51, s52, s53, s54, s55, s56, s57, s58, s59, s60, s61, s62, s63, s64, s65, s66, s67, s68, s69, s70, s71, s72, s73, s74, s75, s76, s77, s78, s79, s80, s81, s82, s83, s84, s85, s86, s87, s88, s89, s90, s91, s92, s93, s94, s95, s96, s97, s98, s99, s100, s101, s102, s103, s104, s105, s106, s107, s108, s109, s110, s111, s112, s113, u114, u115, u116, u117, u118, u119, s120, s121, s122, s123, s124, s125, s126, s127, s128, s129, s130], []⟩ w2) :
    Code.wp Tryz.prog mkR20 Q0 ⟨#[s0, s1, s2, s3, s4, .pointer (some ⟨rb, 0, none⟩), s6, s7, s8, s9, s10, s11, s12, s13, s14, s15, s16, s17, s18, s19, s20, s21, s22, s23, s24, s25, s26, s27, s28, s29, s30, s31, s32, s33, s34, s35, s36, s37, s38, s39, s40, s41, s42, s43, s44, s45, s46, s47, s48, s49, s50, s51, s52, s53, s54, s55, s56, s57, s58, s59, s60, s61, s62, s63, s64, s65, s66, s67, s68, s69, s70, s71, s72, s73, s74, s75, s76, s77, s78, s79, s80, s81, s82, s83, s84, s85, s86, s87, s88, s89, s90, s91, s92, s93, s94, s95, s96, s97, s98, s99, s100, s101, s102, s103, s104, s105, s106, s107, s108, s109, s110, s111, s112, s113, s114, s115, s116, s117, s118, s119, s120, s121, s122, s123, s124, s125, s126, s127, s128, s129, s130], []⟩ w := by
  have hrw : rb < w.heap.size := block_of_cell r0
  have kc : Hid (∀ w1, Below w.drew.heap.size w.drew w1 → Calls Tryz.prog 61 #[.slice Ac nc cc] w1 fun e w' => ∃ v, e = .returned (.pointer (some ⟨w1.heap.size, 0, none⟩)) ∧ ChartAt w' w1.heap.size w1.heap.size v C ∧ Below w1.heap.size w1 w') := fun w1 hb =>
    law3Make_any C Ac nc cc w.heap.size w1 ((hC.below (Below.refl _ _).drew).below hb) hb.size hn1 hg
  have kb : Hid (∀ w1, Below w.drew.heap.size w.drew w1 → Calls Tryz.prog 14 #[.slice Ab nb cb] w1 fun e w' => ∃ v l, e = .returned (.pointer (some ⟨w1.heap.size, 0, none⟩)) ∧ TomeAt w' w1.heap.size w1.heap.size v l ∧ l.map JR.j = r.map JR.j ∧ Below w1.heap.size w1 w') := fun w1 hb =>
    law6Of_any r Ab nb cb w.heap.size w1 ((hJ.far (Below.refl w.heap.size w).drew (Nat.le_refl _)).far hb (Nat.le_refl _)) hb.size hn2 hgm
  have HQ := Lib.hid hQ
  clear hQ hC hJ hg hgm
  refine wp_onEnd ?_
  conv => arg 2; whnf
  conv => arg 4; dsimp only
  go_region_law (first
    | (go_simp; go_at_call 61; refine (kc.out _ HB1.out).mono ?_; rintro e w2 ⟨v1, rfl, hC, hb2⟩)
    | (go_simp; go_at_call 14; refine (kb.out _ HB1.out).mono ?_; rintro e w2 ⟨v2, l, rfl, hT, hm, hb2⟩)
    | (go_simp; go_at_call 61; refine (kc.out _ (Below.refl _ _)).mono ?_; rintro e w1 ⟨v1, rfl, hC, hb1⟩; have q2 := (hb1.cell (p := ⟨rb, 2, none⟩) (by exact hrw)).trans r2; have HB1 := Lib.hid hb1; clear hb1)
    | (go_simp; go_at_call 14; refine (kb.out _ (Below.refl _ _)).mono ?_; rintro e w1 ⟨v2, l, rfl, hT, hm, hb1⟩; have q0 := (hb1.cell (p := ⟨rb, 0, none⟩) (by exact hrw)).trans r0; have HB1 := Lib.hid hb1; clear hb1))
  all_goals go_simp
  all_goals first
    | exact HQ.out _ _ _ _ _ _ w.heap.size w1.heap.size v1 v2 l w2 (hC.below hb2) hT hm (Nat.le_refl _) HB1.out.size ((Below.refl _ w).drew.trans (HB1.out.trans (hb2.mono HB1.out.size)))
    | exact HQ.out _ _ _ _ _ _ w1.heap.size w.heap.size v1 v2 l w2 hC (hT.below hb2) hm HB1.out.size (Nat.le_refl _) ((Below.refl _ w).drew.trans (HB1.out.trans (hb2.mono HB1.out.size)))
end Go.Proofs.YtmgncoialppmpaaGreat
