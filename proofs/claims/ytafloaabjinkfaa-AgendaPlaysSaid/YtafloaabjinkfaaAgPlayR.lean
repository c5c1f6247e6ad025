/-
  AgendaPlays: behind the op: two copies, their comparison.
-/
import Derived.Test.YtafloaabjinkfaaAgPlay
import Derived.Test.YtafloaabjinkfaaAgSame
namespace Go.Proofs.Ytafloaabjinkfaa
open Go.RowKit Go.Sort

noncomputable def apR : Code := subCode [1, 1, 1, 1, 0, 1, 0, 0, 1, 0, 0, 1, 1, 1, 1] (Try.f3.body.getD .skip)
set_option maxRecDepth 100000 in
set_option maxHeartbeats 4000000 in
theorem apR_any (s0 s1 s2 s5 s6 s8 s9 s10 s11 s12 s13 s14 s15 s16 s17 s18 s19 s20 s21 s22 s23 s24 s25 s26 s27 s28 s29 s30 s31 s32 s33 s34 s35 s36 s37 s38 s39 s40 s41 s42 s43 s44 s45 s46 s47 s48 s49 s50 s51 s52 s53 s54 s55 s56 s57 s58 s59 s60 s61 s62 s63 s64 s65 s66 s67 s68 s69 s70 s71 s72 s73 s74 s75 s76 s77 s78 s79 s80 s81 s82 s83 s84 s85 s86 s87 s88 s89 s90 s91 s92 s93 s94 s95 s96 s97 s98 s99 s100 s101 s102 s103 s104 s105 s106 s107 s108 s109 s110 s111 s112 s113 s114 s115 s116 s117 s118 s119 s120 s121 s122 s123 s124 s125 s126 s127 s128 s129 s130 s131 s132 s133 s134 s135 s136 s137 s138 s139 s140 s141 s142 s143 s144 s145 s146 s147 s148 s149 s150 s151 s152 s153 s154 s155 s156 s157 s158 s159 s160 s161 s162 s163 s164 s165 s166 s167 s168 s169 s170 s171 s172 s173 s174 s175 s176 s177 s178 s179 s180 s181 s182 s183 s184 s185 s186 s187 s188 s189 s190 s191 s192 s193 s194 s195 s196 s197 s198 s199 s200 s201 s202 s203 s204 s205 s206 s207 s208 s209 s210 s211 s212 s213 s214 s215 s216 s217 s218 s219 s220 s221 s222 s223 s224 s225 s226 s227 s228 s229 s230 s231 s232 s233 s234 s235 s236 s237 s238 s239 s240 s241 s242 s243 s244 s245 s246 s247 s248 s249 s250 s251 s252 s253 s254 s255 s256 s257 s258 s259 s260 s261 s262 s263 s264 s265 s266 s267 s268 s269 s270 s271 s272 s273 : Value) (Q0 : Exit → Act → World → Prop) (L : List Itm) (rv : Value) (a : Nat) (w0 wq : World) (hS : AgR w0 a L rv wq)
    (hQ : ∀ (u16 u17 u221 u222 u223 u224 u225 u226 u227 u228 u229 u230 u231 u232 u233 u234 u235 u236 u237 u238 u239 u240 u241 u242 u243 u244 u245 : Value) (w' : World), AgR w0 a L rv w' → Q0 .normal ⟨#[s0, s1, s2, .pointer (some ⟨a, 0, none⟩), rv, s5, s6, .bool true, s8, s9, s10, s11, s12, s13, s14, s15, u16, u17, s18, s19, s20, s21, s22, s23, s24, s25, s26, s27, s28, s29, s30, s31, s32, s33, s34, s35, s36, s37, s38, s39, s40, s41, s42, s43, s44, s45, s46, s47, s48, s49, s50, s51, s52, s53, s54, s55, s56, s57, s58, s59, s60, s61, s62, s63, s64, s65, s66, s67, s68, s69, s70, s71, s72, s73, s74, s75, s76, s77, s78, s79, s80, s81, s82, s83, s84, s85, s86, s87, s88, s89, s90, s91, s92, s93, s94, s95, s96, s97, s98, s99, s100, s101, s102, s103, s104, s105, s106, s107, s108, s109, s110, s111, s112, s113, s114, s115, s116, s117, s118, s119, s120, s121, s122, s123, s124, s125, s126, s127, s128, s129, s130, s131, s132, s133, s134, s135, s136, s137, s138, s139, s140, s141, s142, s143, s144, s145, s146, s147, s148, s149, s150, s151, s152, s153, s154, s155, s156, s157, s158, s159, s160, s161, s162, s163, s164, s165, s166, s167, s168, s169, s170, s171, s172, s173, s174, s175, s176, s177, s178, s179, s180, s181, s182, s183, s184, s185, s186, s187, s188, s189, s190, s191, s192, s193, s194, s195, s196, s197, s198, s199, s200, s201, s202, s203, s204, s205, s206, s207, s208, s209, s210, s211, s212, s213, s214, s215, s216, s217, s218, s219, s220, u221, u222, u223, u224, u225, u226, u227, u228, u229, u230, u231, u232, u233, u234, u235, u236, u237, u238, u239, u240, u241, u242, u243, u244, u245, s246, s247, s248, s249, s250, s251, s252, s253, s254, s255, s256, s257, s258, s259, s260, s261, s262, s263, s264, s265, s266, s267, s268, s269, s270, s271, s272, s273], []⟩ w') :
    Code.wp Try.prog apR Q0 ⟨#[s0, s1, s2, .pointer (some ⟨a, 0, none⟩), rv, s5, s6, .bool true, s8, s9, s10, s11, s12, s13, s14, s15, s16, s17, s18, s19, s20, s21, s22, s23, s24, s25, s26, s27, s28, s29, s30, s31, s32, s33, s34, s35, s36, s37, s38, s39, s40, s41, s42, s43, s44, s45, s46, s47, s48, s49, s50, s51, s52, s53, s54, s55, s56, s57, s58, s59, s60, s61, s62, s63, s64, s65, s66, s67, s68, s69, s70, s71, s72, s73, s74, s75, s76, s77, s78, s79, s80, s81, s82, s83, s84, s85, s86, s87, s88, s89, s90, s91, s92, s93, s94, s95, s96, s97, s98, s99, s100, s101, s102, s103, s104, s105, s106, s107, s108, s109, s110, s111, s112, s113, s114, s115, s116, s117, s118, s119, s120, s121, s122, s123, s124, s125, s126, s127, s128, s129, s130, s131, s132, s133, s134, s135, s136, s137, s138, s139, s140, s141, s142, s143, s144, s145, s146, s147, s148, s149, s150, s151, s152, s153, s154, s155, s156, s157, s158, s159, s160, s161, s162, s163, s164, s165, s166, s167, s168, s169, s170, s171, s172, s173, s174, s175, s176, s177, s178, s179, s180, s181, s182, s183, s184, s185, s186, s187, s188, s189, s190, s191, s192, s193, s194, s195, s196, s197, s198, s199, s200, s201, s202, s203, s204, s205, s206, s207, s208, s209, s210, s211, s212, s213, s214, s215, s216, s217, s218, s219, s220, s221, s222, s223, s224, s225, s226, s227, s228, s229, s230, s231, s232, s233, s234, s235, s236, s237, s238, s239, s240, s241, s242, s243, s244, s245, s246, s247, s248, s249, s250, s251, s252, s253, s254, s255, s256, s257, s258, s259, s260, s261, s262, s263, s264, s265, s266, s267, s268, s269, s270, s271, s272, s273], []⟩ wq := by
  obtain ⟨v, hA, hR, hB⟩ := hS
  have HQ := Lib.hid hQ
  clear hQ
  refine wp_onEndA ?_
  conv => arg 2; whnf
  conv => arg 4; dsimp only
  have hlen := hA.len
  obtain ⟨Ar, cr, rfl, hnc, hc63, hnil⟩ := hR.len
  have HA := Lib.hid hA; have HR := Lib.hid hR; have HB := Lib.hid hB
  have K1 := Lib.hid (agAll_any hA)
  clear hA hR hB
  go_wp2_with fail
  refine K1.out.mono ?_
  rintro e w1 ⟨A1, c1, rfl, o1, hb1⟩
  have H1 := Lib.hid (HA.out.below hb1)
  have K2 := Lib.hid (agAll_any H1.out)
  have O1 := Lib.hid o1; have HB1 := Lib.hid hb1
  clear o1 hb1 K1
  go_wp2_with fail
  refine K2.out.mono ?_
  rintro e w2 ⟨A2, c2, rfl, o2, hb2⟩
  have hB2 := HB1.out.trans (hb2.mono HB1.out.size)
  have O1' := Lib.hid (own_kept O1.out fun k hk _ => hb2.block k hk)
  have O2 := Lib.hid o2; have HB2 := Lib.hid hB2
  clear hb2 o2 hB2 K2
  have t1 : ((L.length : Int) != (L.length : Int)) = false := by simp
  have TAIL : Hid (∀ W3, Below wq.heap.size wq W3 → W3.ownsRow w1.heap.size 33 3 (.slice A2 L.length c2) L.length (itms L) → Calls Try.prog 10 #[.slice A2 L.length c2, .slice Ar L.length cr] W3 fun e w' => e = .returned (.bool true) ∧ Drew W3 w') := fun W3 hb ho => by
    have h1 := rd_of_own ho
    obtain ⟨A', c', e, h2, _⟩ := HR.out.below hb
    injection e with e _ _
    subst e
    exact same8_yes L A2 Ar L.length c2 cr _ _ W3 h1 h2 (by omega)
  have FIN : Hid (∀ W3 q, Below wq.heap.size wq W3 → AgR w0 a L (.slice Ar L.length cr) (W3.drewN q)) := fun W3 q hb => by
    have hb3 := below_drewN hb q
    exact ⟨v, HA.out.below hb3, HR.out.below hb3, HB.out.trans (hb3.mono HB.out.size)⟩
  by_cases h0 : 0 < L.length
  · obtain ⟨g, cap, cur, hv, hge, hh⟩ : ∃ g cap cur, Value.slice A1 L.length c1 = .slice (some ⟨g, 0, none⟩) L.length cap ∧ wq.heap.size ≤ g ∧ w2.heap[g]? = some (.cells cur 33 (0, 0)) := by
      rcases O1'.out.2 with ⟨hv, h⟩ | ⟨g, cap, cur, hv, hB, hh, _⟩
      · omega
      · exact ⟨g, cap, cur, hv, hB, hh⟩
    injection hv with e1 _ e3
    subst e1 e3
    have f2 := warm_of hh 2
    obtain ⟨ad, x, e, _, _, _, _, p2⟩ := (rd_of_own O1'.out).itm h0
    injection e with e
    subst e
    have hgl : g < w1.heap.size := own_lt O1.out g rfl
    obtain ⟨W3, hW3⟩ : ∃ W3, w2.setCell ⟨g, 2, none⟩ (.int .i64 (-5)) = W3 := ⟨_, rfl⟩
    have HB3 : Hid (Below wq.heap.size wq W3) := by rw [← hW3]; exact HB2.out.setCell (p := ⟨g, 2, none⟩) hge _
    have ho3 : W3.ownsRow w1.heap.size 33 3 (.slice A2 L.length c2) L.length (itms L) := own_kept O2.out fun k _ hk => by
      have := own_ge O2.out k hk
      rw [← hW3]
      exact Below.heap_setCell _ _ _ _ (fun e => by subst e; exact absurd this (by simp; omega))
    have KS := Lib.hid (TAIL.out W3 HB3.out ho3)
    have hlI : (L.length : Int) > 0 := by omega
    simp [Addr.add] at p2
    have HW3 := Lib.hid hW3
    clear ho3 hW3 hh
    go_wp2_with fail
    rw [HW3.out]
    refine KS.out.mono ?_
    rintro e w4 ⟨rfl, q, rfl⟩
    have HF := Lib.hid (FIN.out W3 q HB3.out)
    go_wp2_with fail
    refine (agLen_any (HA.out.below (below_drewN HB3.out q))).mono ?_
    rintro e w5 ⟨rfl, rfl⟩
    go_wp2_with fail
    exact HQ.out _ _ _ _ _ _ _ _ _ _ _ _ _ _ _ _ _ _ _ _ _ _ _ _ _ _ _ _ HF.out
  · have KS := Lib.hid (TAIL.out w2 HB2.out O2.out)
    have hlI : ¬ (L.length : Int) > 0 := by omega
    go_wp2_with fail
    refine KS.out.mono ?_
    rintro e w4 ⟨rfl, q, rfl⟩
    have HF := Lib.hid (FIN.out w2 q HB2.out)
    go_wp2_with fail
    refine (agLen_any (HA.out.below (below_drewN HB2.out q))).mono ?_
    rintro e w5 ⟨rfl, rfl⟩
    go_wp2_with fail
    exact HQ.out _ _ _ _ _ _ _ _ _ _ _ _ _ _ _ _ _ _ _ _ _ _ _ _ _ _ _ _ HF.out
end Go.Proofs.Ytafloaabjinkfaa
