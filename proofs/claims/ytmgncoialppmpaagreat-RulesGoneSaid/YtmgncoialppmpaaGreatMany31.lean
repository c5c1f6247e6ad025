/-
  Several texts, one behind the other: what each holds stands ahead of it.
-/
import Derived.Test.YtmgncoialppmpaaGreatRefSetLoop
import Derived.Test.YtmgncoialppmpaaGreatMany28
import Derived.Test.YtmgncoialppmpaaGreatMany23

/-
  Contract of the reference's SetGate: all its ways in one.
-/
namespace Go.Proofs.YtmgncoialppmpaaGreat
open Go.RowKit

set_option maxRecDepth 100000 in
set_option maxHeartbeats 4000000 in
theorem refSet_goes (l : List Trio) (en pe s st : Int) (A : Option Addr) (n c B : Nat) (w : World) (h : w.ownsRow B 121 3 (.slice A n c) n (trios l)) (h1 : ¬ en < 1) (h2 : ¬ 9 < en) (kv : ∀ w, Calls Tryz.prog 105 #[.int .i64 pe] w fun e w' => e = .returned (.bool true) ∧ w = w') (h3 : ¬ s < 0) (h4 : ¬ 2 < s) (ks : ∀ W, Below w.heap.size w W → Calls Tryz.prog 161 #[.slice A n c, .int .i64 en, .int .i64 pe] W fun e w' => e = .returned (.int .i64 st) ∧ W = w') (hg : GoodT l) (ho : okT en pe = true) (hB : B ≤ w.heap.size) (hn : n ≤ 100000) (t1 : (st == 2) = false) (tt : ((s == 2) = true ∧ (st != 1) = false) ∨ (s == 2) = false) :
    Calls Tryz.prog 59 #[.slice A n c, .agg #[.int .i64 en, .int .i64 pe, .int .i64 s]] w (RefSet w B (newT l en pe s) 0) := by
  have HL : Hid (l.length = n) := by have := h.1; rw [trios_len] at this; exact (by omega : l.length = n)
  have KS := Lib.hid ks
  have HNEW := Lib.hid (refSet_new hg.1 en pe s)
  have HG := Lib.hid hg.2
  have HOK := Lib.hid ho
  obtain ⟨w0, hw0⟩ : ∃ w0, w.alloc (.cells #[.int .i64 en, .int .i64 pe, .int .i64 s] 121) = w0 := ⟨_, rfl⟩
  have HB0 : Hid (Below w.heap.size w w0) := by rw [← hw0]; exact (Below.refl _ _).alloc (Nat.le_refl _) _
  have hs0 : w.heap.size + 1 = w0.heap.size := by rw [← hw0]; simp
  have k0 : w0.cell? ⟨w.heap.size, 0, none⟩ = some (.int .i64 en) := by rw [← hw0]; simp [go_sem]
  have k1 : w0.cell? ⟨w.heap.size, 1, none⟩ = some (.int .i64 pe) := by rw [← hw0]; simp [go_sem]
  have k2 : w0.cell? ⟨w.heap.size, 2, none⟩ = some (.int .i64 s) := by rw [← hw0]; simp [go_sem]
  have HR := Lib.hid (((rd_of_own h).below HB0.out).wide (B' := w0.heap.size) (by omega))
  have HW0 := Lib.hid hw0
  clear h ks hg ho hw0
  rcases tt with ⟨tt, t2⟩ | tt
  all_goals
    go_enter Tryz.func59, Tryz.ntmps59
    go_wp2_with fail
    rw [HW0.out]
    go_wp2_with fail
    refine (kv _).mono ?_
    rintro e w1 ⟨rfl, rfl⟩
    go_wp2_with fail
    refine (KS.out _ HB0.out).mono ?_
    rintro e w1 ⟨rfl, rfl⟩
    go_wp2_with fail
    refine gsLoop_any _ _ _ _ _ _ _ _ _ _ _ _ _ _ _ _ _ _ _ _ _ _ _ _ _ _ _ _ _ _ _ _ _ _ _ _ _ _ _ _ _ _ _ _ _ _ _ _ _ _ _ _ _ _ _ _ _ _ _ _ _ _ _ _ _ _ _ _ _ _ _ _ _ _ _ _ _ _ _ _ _ _ _ _ _ _ _ _ _ _ _ _ _ _ _ _ _ _ _ _ _ _ _ _ _ _ _ _ _ _ _ _ _ _ _ l en pe s A n c w.heap.size w0 HL.out hn HR.out (by omega) k0 k1 k2 HG.out HOK.out ?_
    intro u7 u8 u9 u10 u11 u58 u59 u60 u61 u62 u63 u64 u65 u66 u67 u68 u69 u70 u71 u72 u73 u74 u75 u76 u77 u78 u79 u80 u81 u82 u83 u84 u85 u86 u87 u88 u89 u90 u91 u92 u93 u94 u95 u96 u97 u98 u99 u100 u101 u102 u103 u104 u105 u106 u107 u108 u109 u110 u111 wr hrel
    obtain ⟨A0, cc, d, acc, rfl, rfl, hd, hown, hbel⟩ := hrel
    have hzr := hbel.size
    rw [List.take_of_length_le (by have := HL.out; omega)] at hd
    dsimp only at hd
    have hm : acc.length ≤ 300000 := by
      have h1 := refAll_len ⟨en, pe, s⟩ l [] (decide (s = 0))
      rw [hd] at h1
      simp only [List.length_nil] at h1
      have := HL.out
      omega
    have hnew := HNEW.out
    rw [hd] at hnew
    dsimp only at hnew
    have x0 := (hbel.cell (p := ⟨w.heap.size, 0, none⟩) (by show w.heap.size < _; omega)).trans k0
    have x1 := (hbel.cell (p := ⟨w.heap.size, 1, none⟩) (by show w.heap.size < _; omega)).trans k1
    have x2 := (hbel.cell (p := ⟨w.heap.size, 2, none⟩) (by show w.heap.size < _; omega)).trans k2
    have hwlt : w.heap.size < wr.heap.size := by omega
    have HBF : Hid (Below w.heap.size w wr) := HB0.out.trans (hbel.mono HB0.out.size)
    rename_i K hK
    refine hK _ _ ?_
    conv => arg 2; whnf
    conv => arg 4; dsimp only
    cases d
    · rw [if_pos rfl] at hnew
      obtain ⟨Ax, cx, wx, rx, ox, bx, fx, zx⟩ := gate_add ⟨en, pe, s⟩ hown (by omega) (by omega)
      have HRx := Lib.hid rx; have HOx := Lib.hid ox; have HN := Lib.hid hnew
      have HBx : Hid (Below w.heap.size w wx) := HBF.out.trans (bx.below (fun k _ hk => Nat.le_trans (by omega) (own_ge hown k hk)) (by omega))
      clear rx ox bx fx zx hnew hown hbel hd k0 k1 k2
      go_wp2_with (at_builtin; refine wpList_append_run rfl _ _ _ rfl _ _ _ _ rfl rfl HRx.out ?_)
      go_ret2
      have e1 : (newT l en pe s).length = acc.length + 1 := by rw [← HN.out]; simp
      refine ⟨Ax, cx, by rw [e1]; rfl, ?_, HBx.out⟩
      rw [e1, ← HN.out]
      exact own_base HOx.out (by omega)
    · rw [if_neg (by simp)] at hnew
      have HN := Lib.hid hnew
      have HO2 := Lib.hid hown
      clear hnew hown hbel hd k0 k1 k2
      go_wp2_with fail
      go_ret2
      refine ⟨A0, cc, by rw [← HN.out]; rfl, ?_, HBF.out⟩
      rw [← HN.out]
      exact own_base HO2.out (by omega)

theorem refSet_any (l : List Trio) (en pe s : Int) (A : Option Addr) (n c B : Nat) (w : World) (h : w.ownsRow B 121 3 (.slice A n c) n (trios l)) (hg : GoodT l) (hB : B ≤ w.heap.size) :
    Calls Tryz.prog 59 #[.slice A n c, .agg #[.int .i64 en, .int .i64 pe, .int .i64 s]] w (RefSet w B (setT l en pe s) (setE l en pe s)) := by
  have hl : l.length = n := by have := h.1; rw [trios_len] at this; omega
  have hlen := hg.len
  by_cases h1 : en < 1
  · rw [(setE_bad (l := l) (.inl (okT_lo h1))).1, (setE_bad (l := l) (.inl (okT_lo h1))).2]
    exact refSet_lo l en pe s A n c B w h h1
  by_cases h2 : 9 < en
  · rw [(setE_bad (l := l) (.inl (okT_hi h2))).1, (setE_bad (l := l) (.inl (okT_hi h2))).2]
    exact refSet_hi l en pe s A n c B w h h1 h2
  have kv := fun w => refValid_any pe w
  have hk := okT_p (p := pe) h1 h2
  cases hp : okP pe
  · rw [hp] at kv hk
    rw [(setE_bad (l := l) (.inl hk)).1, (setE_bad (l := l) (.inl hk)).2]
    exact refSet_p l en pe s A n c B w h h1 h2 kv
  rw [hp] at kv hk
  by_cases h3 : s < 0
  · rw [(setE_bad (l := l) (.inr (.inl h3))).1, (setE_bad (l := l) (.inr (.inl h3))).2]
    exact refSet_s0 l en pe s A n c B w h h1 h2 kv h3
  by_cases h4 : 2 < s
  · rw [(setE_bad (l := l) (.inr (.inr h4))).1, (setE_bad (l := l) (.inr (.inr h4))).2]
    exact refSet_s2 l en pe s A n c B w h h1 h2 kv h3 h4
  have ks : ∀ W, Below w.heap.size w W → Calls Tryz.prog 161 #[.slice A n c, .int .i64 en, .int .i64 pe] W fun e w' => e = .returned (.int .i64 (stT l en pe)) ∧ W = w' := fun W hb =>
    refState_any l en pe A n c _ W ((rd_of_own h).below hb) (by omega) hg.2
  by_cases hs : stT l en pe = 2
  · rw [(setE_locked hk h3 h4 (.inl hs)).1, (setE_locked hk h3 h4 (.inl hs)).2]
    exact refSet_locked l en pe s _ A n c B w h h1 h2 kv h3 h4 ks hs
  by_cases hs2 : s = 2 ∧ stT l en pe ≠ 1
  · rw [(setE_locked hk h3 h4 (.inr hs2)).1, (setE_locked hk h3 h4 (.inr hs2)).2]
    exact refSet_early l en pe s _ A n c B w h h1 h2 kv h3 h4 ks hs hs2.1 hs2.2
  · have hn : ¬ (stT l en pe = 2 ∨ (s = 2 ∧ stT l en pe ≠ 1)) := fun e => e.elim hs hs2
    rw [(setE_goes hk h3 h4 hn).1, (setE_goes hk h3 h4 hn).2]
    refine refSet_goes l en pe s _ A n c B w h h1 h2 kv h3 h4 ks hg hk hB (by omega) (by simp [hs]) ?_
    by_cases e : s = 2
    · refine .inl ⟨by simp [e], ?_⟩
      have : stT l en pe = 1 := Classical.byContradiction fun h => hs2 ⟨e, h⟩
      rw [this]; rfl
    · exact .inr (by simp [e])
end Go.Proofs.YtmgncoialppmpaaGreat

/-
  A world that is made: one state of a gate, of both.
-/
namespace Go.Proofs.YtmgncoialppmpaaGreat
open Go.RowKit

noncomputable def mkR15 : Code := subCode [1, 1, 1, 1, 0, 1, 0, 0, 1, 0, 0, 1, 0, 0, 1, 0, 0, 0] (Tryz.f11.body.getD .skip)
noncomputable def mkR16 : Code := subCode [1, 1, 1, 1, 0, 1, 0, 0, 1, 0, 0, 1, 0, 0, 1, 0, 0, 1, 0, 0] (Tryz.f11.body.getD .skip)
set_option maxRecDepth 100000 in
set_option maxHeartbeats 2000000 in
theorem mkR15_any (s0 s2 s3 s4 s6 s7 s8 s9 s12 s13 s14 s15 s16 s17 s18 s19 s20 s21 s22 s23 s24 s25 s26 s27 s28 s29 s30 s31 s32 s33 s34 s35 s36 s37 s38 s39 s40 s41 s42 s43 s44 s45 s46 s47 s48 s49 s50 s51 s52 s53 s54 s55 s56 s57 s58 s59 s60 s61 s62 s63 s64 s65 s66 s67 s68 s69 s70 s71 s72 s73 s74 s75 s76 s77 s78 s79 s80 s81 s82 s83 s84 s85 s86 s87 s88 s89 s90 s91 s92 s93 s94 s95 s96 s97 s98 s99 s100 s101 s102 s103 s104 s105 s106 s107 s108 s109 s110 s111 s112 s113 s114 s115 s116 s117 s118 s119 s120 s121 s122 s123 s124 s125 s126 s127 s128 s129 s130 : Value) (Q0 : Exit → Act → World → Prop) (G : List Trio) (x y s : Int) (A : Option Addr) (ad : Addr) (c n0 c0 xb rb k : Nat) (w0 w : World) (x1 : w.cell? ⟨xb, 1, none⟩ = some (.slice (some ad) n0 c0)) (r1 : w.cell? ⟨rb, 1, none⟩ = some (.slice A G.length c)) (hkn : (k : Int) < (n0 : Int))
    (a1 : w.cell? (ad.add (k * 3)) = some (.int .i64 x)) (a2 : w.cell? ⟨(ad.add (k * 3)).block, (ad.add (k * 3)).off + 1, none⟩ = some (.int .i64 y))
    (hown : w.ownsRow w0.heap.size 121 3 (.slice A G.length c) G.length (trios G)) (hz : w0.heap.size ≤ w.heap.size) (hg : GoodT G)
    (hQ : ∀ (u69 u70 u71 u72 u73 u74 u75 u76 u77 u78 u79 u80 u81 u82 u83 u84 u85 u86 u87 u88 : Value) (A2 : Option Addr) (c2 : Nat) (w2 : World), w2.ownsRow w0.heap.size 121 3 (.slice A2 (setT G x y s).length c2) (setT G x y s).length (trios (setT G x y s)) → Below w.heap.size w w2 → Q0 .normal ⟨#[s0, .pointer (some ⟨xb, 0, none⟩), s2, s3, s4, .pointer (some ⟨rb, 0, none⟩), s6, s7, s8, s9, .int .i64 (k : Int), .int .i64 s, .slice A2 (setT G x y s).length c2, .int .i64 (setE G x y s), s14, s15, s16, s17, s18, s19, s20, s21, s22, s23, s24, s25, s26, s27, s28, s29, s30, s31, s32, s33, s34, s35, s36, s37, s38, s39, s40, s41, s42, s43, s44, s45, s46, s47, s48, s49, s50, s51, s52, s53, s54, s55, s56, s57, s58, s59, s60, s61, s62, s63, s64, s65, s66, s67, s68, u69, u70, u71, u72, u73, u74, u75, u76, u77, u78, u79, u80, u81, u82, u83, u84, u85, u86, u87, u88, s89, s90, s91, s92, s93, s94, s95, s96, s97, s98, s99, s100, s101, s102, s103, s104, s105, s106, s107, s108, s109, s110, s111, s112, s113, s114, s115, s116, s117, s118, s119, s120, s121, s122, s123, s124, s125, s126, s127, s128, s129, s130], []⟩ w2) :
    Code.wp Tryz.prog mkR15 Q0 ⟨#[s0, .pointer (some ⟨xb, 0, none⟩), s2, s3, s4, .pointer (some ⟨rb, 0, none⟩), s6, s7, s8, s9, .int .i64 (k : Int), .int .i64 s, s12, s13, s14, s15, s16, s17, s18, s19, s20, s21, s22, s23, s24, s25, s26, s27, s28, s29, s30, s31, s32, s33, s34, s35, s36, s37, s38, s39, s40, s41, s42, s43, s44, s45, s46, s47, s48, s49, s50, s51, s52, s53, s54, s55, s56, s57, s58, s59, s60, s61, s62, s63, s64, s65, s66, s67, s68, s69, s70, s71, s72, s73, s74, s75, s76, s77, s78, s79, s80, s81, s82, s83, s84, s85, s86, s87, s88, s89, s90, s91, s92, s93, s94, s95, s96, s97, s98, s99, s100, s101, s102, s103, s104, s105, s106, s107, s108, s109, s110, s111, s112, s113, s114, s115, s116, s117, s118, s119, s120, s121, s122, s123, s124, s125, s126, s127, s128, s129, s130], []⟩ w := by
  have ka := Lib.hid (refSet_any G x y s A G.length c w0.heap.size w.drew hown hg (by exact hz))
  have HQ := Lib.hid hQ
  unfold RefSet at ka
  generalize setE G x y s = E at *
  generalize setT G x y s = G' at *
  clear hown hg hQ hz
  refine wp_onEnd ?_
  conv => arg 2; whnf
  conv => arg 4; dsimp only
  go_region_law (go_simp; go_at_call 59; refine ka.out.mono ?_; rintro e w2 ⟨A2, c2, rfl, hown2, hb2⟩)
  all_goals go_simp
  all_goals exact HQ.out _ _ _ _ _ _ _ _ _ _ _ _ _ _ _ _ _ _ _ _ A2 c2 w2 hown2 ((Below.refl _ w).drew.trans hb2)
set_option maxRecDepth 100000 in
set_option maxHeartbeats 2000000 in
theorem mkR16_any (s0 s2 s3 s4 s5 s6 s7 s8 s12 s14 s15 s16 s17 s18 s19 s20 s21 s22 s23 s24 s25 s26 s27 s28 s29 s30 s31 s32 s33 s34 s35 s36 s37 s38 s39 s40 s41 s42 s43 s44 s45 s46 s47 s48 s49 s50 s51 s52 s53 s54 s55 s56 s57 s58 s59 s60 s61 s62 s63 s64 s65 s66 s67 s68 s69 s70 s71 s72 s73 s74 s75 s76 s77 s78 s79 s80 s81 s82 s83 s84 s85 s86 s87 s88 s89 s90 s91 s92 s93 s94 s95 s96 s97 s98 s99 s100 s101 s102 s103 s104 s105 s106 s107 s108 s109 s110 s111 s112 s113 s114 s115 s116 s117 s118 s119 s120 s121 s122 s123 s124 s125 s126 s127 s128 s129 s130 : Value) (Q0 : Exit → Act → World → Prop) (G : List Trio) (x y s : Int) (v : Value) (ad : Addr) (n0 c0 xb gb k B : Nat) (w : World) (x1 : w.cell? ⟨xb, 1, none⟩ = some (.slice (some ad) n0 c0)) (hkn : (k : Int) < (n0 : Int))
    (a1 : w.cell? (ad.add (k * 3)) = some (.int .i64 x)) (a2 : w.cell? ⟨(ad.add (k * 3)).block, (ad.add (k * 3)).off + 1, none⟩ = some (.int .i64 y)) (hG : GatesAt w B gb v G)
    (hQ : ∀ (u89 u90 u91 u92 u93 u94 u95 u96 u97 u98 u99 u100 u101 u102 u103 u104 : Value) (w2 : World), GatesTo w B gb v (setT G x y s) w2 → Q0 .normal ⟨#[s0, .pointer (some ⟨xb, 0, none⟩), s2, s3, s4, s5, s6, s7, s8, .pointer (some ⟨gb, 0, none⟩), .int .i64 (k : Int), .int .i64 s, s12, .int .i64 (setE G x y s), s14, s15, s16, s17, s18, s19, s20, s21, s22, s23, s24, s25, s26, s27, s28, s29, s30, s31, s32, s33, s34, s35, s36, s37, s38, s39, s40, s41, s42, s43, s44, s45, s46, s47, s48, s49, s50, s51, s52, s53, s54, s55, s56, s57, s58, s59, s60, s61, s62, s63, s64, s65, s66, s67, s68, s69, s70, s71, s72, s73, s74, s75, s76, s77, s78, s79, s80, s81, s82, s83, s84, s85, s86, s87, s88, u89, u90, u91, u92, u93, u94, u95, u96, u97, u98, u99, u100, u101, u102, u103, u104, .bool false, s106, s107, s108, s109, s110, s111, s112, s113, s114, s115, s116, s117, s118, s119, s120, s121, s122, s123, s124, s125, s126, s127, s128, s129, s130], []⟩ w2) :
    Code.wp Tryz.prog mkR16 Q0 ⟨#[s0, .pointer (some ⟨xb, 0, none⟩), s2, s3, s4, s5, s6, s7, s8, .pointer (some ⟨gb, 0, none⟩), .int .i64 (k : Int), .int .i64 s, s12, .int .i64 (setE G x y s), s14, s15, s16, s17, s18, s19, s20, s21, s22, s23, s24, s25, s26, s27, s28, s29, s30, s31, s32, s33, s34, s35, s36, s37, s38, s39, s40, s41, s42, s43, s44, s45, s46, s47, s48, s49, s50, s51, s52, s53, s54, s55, s56, s57, s58, s59, s60, s61, s62, s63, s64, s65, s66, s67, s68, s69, s70, s71, s72, s73, s74, s75, s76, s77, s78, s79, s80, s81, s82, s83, s84, s85, s86, s87, s88, s89, s90, s91, s92, s93, s94, s95, s96, s97, s98, s99, s100, s101, s102, s103, s104, s105, s106, s107, s108, s109, s110, s111, s112, s113, s114, s115, s116, s117, s118, s119, s120, s121, s122, s123, s124, s125, s126, s127, s128, s129, s130], []⟩ w := by
  have ka := Lib.hid (set_any B gb v G x y s w.drew (hG.below (Below.refl _ _).drew))
  have HQ := Lib.hid hQ
  generalize setE G x y s = E at *
  generalize setT G x y s = G' at *
  have t0 : (E != E) = false := by simp
  clear hG hQ
  refine wp_onEnd ?_
  conv => arg 2; whnf
  conv => arg 4; dsimp only
  go_region_law (go_simp; go_at_call 33; refine ka.out.mono ?_; rintro e w2 ⟨rfl, hto⟩)
  all_goals go_simp
  all_goals exact HQ.out _ _ _ _ _ _ _ _ _ _ _ _ _ _ _ _ w2 (GatesTo.on (Below.refl _ w).drew hto)
end Go.Proofs.YtmgncoialppmpaaGreat
