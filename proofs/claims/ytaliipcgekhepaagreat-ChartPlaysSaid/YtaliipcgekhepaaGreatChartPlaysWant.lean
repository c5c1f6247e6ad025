/-
  ChartPlays: the codes of kinds, by the reference's list.
-/
import Derived.Test.YtaliipcgekhepaaGreatChartPlaysIn
namespace Go.Proofs.YtaliipcgekhepaaGreat
open Go.RowKit

set_option maxRecDepth 100000 in
set_option maxHeartbeats 4000000 in
theorem cpWant_any (s0 s1 s2 s4 s5 s6 s7 s8 s9 s10 s11 s13 s14 s15 s16 s17 s18 s19 s20 s21 s22 s23 s24 s27 s28 s29 s30 s31 s32 s33 s34 s35 s36 s37 s38 s39 s40 s41 s42 s43 s44 s45 s46 s47 s48 s49 s50 s51 s52 s53 s54 s55 s56 s57 s58 s59 s60 s61 s62 s63 s64 s65 s66 s67 s68 s69 s70 s71 s72 s73 s74 s75 s76 s77 s78 s79 s80 s81 s82 s83 s84 s85 s86 s87 s88 s89 s90 s91 s92 s93 s94 s95 s96 s97 s98 s99 s100 s101 s102 s103 s104 s105 s106 s107 s108 s109 s110 s111 s112 s113 s114 s115 s116 s117 s118 s119 s120 s121 s122 s123 s124 s125 s126 s127 s128 s129 s130 s131 s132 s133 s134 s135 s136 s137 s138 s139 s140 s141 s142 s143 s144 s145 s146 s147 s148 s149 s150 s151 s152 s153 s154 s155 s156 s157 s158 s159 s160 s161 s162 s163 s164 s165 s166 s167 s168 s169 s170 s171 s172 s173 s174 s175 s176 s177 s178 s179 s180 s181 s182 s183 s184 s185 s186 s187 s188 s189 s190 s191 s192 s193 s194 s195 s196 s197 s198 s199 s200 s201 s202 s203 s204 s205 s206 s207 s208 s209 s210 s211 s212 s213 s214 s215 s216 s217 s218 s219 s220 s221 s222 s223 s224 s225 s226 s227 s228 s229 s230 s231 s232 s233 s234 s235 s236 s237 s238 s239 s240 s241 s242 s243 s244 s245 s246 s247 s248 s249 s250 s251 s252 s253 s254 s255 s256 s257 s258 s259 s260 s261 s262 s263 s264 s265 s266 s267 s268 s269 s270 s271 s272 s273 s274 s275 s276 s277 s278 s279 s280 s281 s282 s283 s284 s285 s286 s287 s288 s289 s290 s291 s292 s293 s294 s295 s296 s297 s298 s299 s300 s301 s302 s303 s304 s305 s306 s307 s308 s309 s310 s311 s312 s313 s314 s315 s316 s317 s318 s319 s320 s321 s322 s323 s324 s325 s326 s327 s328 s329 s330 s331 s332 s333 s334 s335 s336 s337 s338 s339 s340 s341 s342 s343 s344 s345 s346 s347 s348 s349 s350 s351 s352 s353 : Value) (Q0 : Exit → Act → World → Prop) (A A3 : Option Addr) (N cp n3 c3 B : Nat) (l : List Acc) (ks : List Int) (w : World) (h3 : Rd w B 1 A3 n3 (ints .i64 ks)) (hB : B ≤ w.heap.size) (hn3 : n3 ≤ 12) (hr : Rd w w.heap.size 3 A N (accs l)) (hN : N ≤ 9999)
    (hQ : ∀ (u26 u27 u28 u213 u214 u215 u216 u217 u218 u219 u220 u221 u222 u223 u224 u225 u226 u227 u228 u229 u230 u231 u232 u233 u234 u235 u236 u237 u238 u239 u240 u241 u242 u243 u244 u245 u246 : Value) (A' : Option Addr) (c' : Nat) (w' : World), w'.ownsRow w.heap.size 3 1 (.slice A' (kindL l ks).length c') (kindL l ks).length (ints .i64 (kindL l ks)) → Below w.heap.size w w' → Q0 (.exit 8) ⟨#[s0, s1, s2, .slice A3 n3 c3, s4, s5, s6, s7, s8, s9, s10, s11, .slice A N cp, s13, s14, s15, s16, s17, s18, s19, s20, s21, s22, s23, s24, .slice A' (kindL l ks).length c', u26, u27, u28, s29, s30, s31, s32, s33, s34, s35, s36, s37, s38, s39, s40, s41, s42, s43, s44, s45, s46, s47, s48, s49, s50, s51, s52, s53, s54, s55, s56, s57, s58, s59, s60, s61, s62, s63, s64, s65, s66, s67, s68, s69, s70, s71, s72, s73, s74, s75, s76, s77, s78, s79, s80, s81, s82, s83, s84, s85, s86, s87, s88, s89, s90, s91, s92, s93, s94, s95, s96, s97, s98, s99, s100, s101, s102, s103, s104, s105, s106, s107, s108, s109, s110, s111, s112, s113, s114, s115, s116, s117, s118, s119, s120, s121, s122, s123, s124, s125, s126, s127, s128, s129, s130, s131, s132, s133, s134, s135, s136, s137, s138, s139, s140, s141, s142, s143, s144, s145, s146, s147, s148, s149, s150, s151, s152, s153, s154, s155, s156, s157, s158, s159, s160, s161, s162, s163, s164, s165, s166, s167, s168, s169, s170, s171, s172, s173, s174, s175, s176, s177, s178, s179, s180, s181, s182, s183, s184, s185, s186, s187, s188, s189, s190, s191, s192, s193, s194, s195, s196, s197, s198, s199, s200, s201, s202, s203, s204, s205, s206, s207, s208, s209, s210, s211, s212, u213, u214, u215, u216, u217, u218, u219, u220, u221, u222, u223, u224, u225, u226, u227, u228, u229, u230, u231, u232, u233, u234, u235, u236, u237, u238, u239, u240, u241, u242, u243, u244, u245, u246, s247, s248, s249, s250, s251, s252, s253, s254, s255, s256, s257, s258, s259, s260, s261, s262, s263, s264, s265, s266, s267, s268, s269, s270, s271, s272, s273, s274, s275, s276, s277, s278, s279, s280, s281, s282, s283, s284, s285, s286, s287, s288, s289, s290, s291, s292, s293, s294, s295, s296, s297, s298, s299, s300, s301, s302, s303, s304, s305, s306, s307, s308, s309, s310, s311, s312, s313, s314, s315, s316, s317, s318, s319, s320, s321, s322, s323, s324, s325, s326, s327, s328, s329, s330, s331, s332, s333, s334, s335, s336, s337, s338, s339, s340, s341, s342, s343, s344, s345, s346, s347, s348, s349, s350, s351, s352, s353], []⟩ w') :
    Code.wp Tryz.prog cpWant Q0 ⟨#[s0, s1, s2, .slice A3 n3 c3, s4, s5, s6, s7, s8, s9, s10, s11, .slice A N cp, s13, s14, s15, s16, s17, s18, s19, s20, s21, s22, s23, s24, .slice none 0 0, .int .i64 0, s27, s28, s29, s30, s31, s32, s33, s34, s35, s36, s37, s38, s39, s40, s41, s42, s43, s44, s45, s46, s47, s48, s49, s50, s51, s52, s53, s54, s55, s56, s57, s58, s59, s60, s61, s62, s63, s64, s65, s66, s67, s68, s69, s70, s71, s72, s73, s74, s75, s76, s77, s78, s79, s80, s81, s82, s83, s84, s85, s86, s87, s88, s89, s90, s91, s92, s93, s94, s95, s96, s97, s98, s99, s100, s101, s102, s103, s104, s105, s106, s107, s108, s109, s110, s111, s112, s113, s114, s115, s116, s117, s118, s119, s120, s121, s122, s123, s124, s125, s126, s127, s128, s129, s130, s131, s132, s133, s134, s135, s136, s137, s138, s139, s140, s141, s142, s143, s144, s145, s146, s147, s148, s149, s150, s151, s152, s153, s154, s155, s156, s157, s158, s159, s160, s161, s162, s163, s164, s165, s166, s167, s168, s169, s170, s171, s172, s173, s174, s175, s176, s177, s178, s179, s180, s181, s182, s183, s184, s185, s186, s187, s188, s189, s190, s191, s192, s193, s194, s195, s196, s197, s198, s199, s200, s201, s202, s203, s204, s205, s206, s207, s208, s209, s210, s211, s212, s213, s214, s215, s216, s217, s218, s219, s220, s221, s222, s223, s224, s225, s226, s227, s228, s229, s230, s231, s232, s233, s234, s235, s236, s237, s238, s239, s240, s241, s242, s243, s244, s245, s246, s247, s248, s249, s250, s251, s252, s253, s254, s255, s256, s257, s258, s259, s260, s261, s262, s263, s264, s265, s266, s267, s268, s269, s270, s271, s272, s273, s274, s275, s276, s277, s278, s279, s280, s281, s282, s283, s284, s285, s286, s287, s288, s289, s290, s291, s292, s293, s294, s295, s296, s297, s298, s299, s300, s301, s302, s303, s304, s305, s306, s307, s308, s309, s310, s311, s312, s313, s314, s315, s316, s317, s318, s319, s320, s321, s322, s323, s324, s325, s326, s327, s328, s329, s330, s331, s332, s333, s334, s335, s336, s337, s338, s339, s340, s341, s342, s343, s344, s345, s346, s347, s348, s349, s350, s351, s352, s353], []⟩ w := by
  have HQ := Lib.hid hQ
  have HL := Lib.hid hr.accs_len
  have H3 := Lib.hid h3
  have HR := Lib.hid hr
  clear hQ hr h3
  conv => arg 2; whnf
  conv => arg 4; dsimp only
  go_loopw [25, 26] (fun lv kv wx => ∃ k : Nat, k ≤ N ∧ kv = .int .i64 k ∧ KindRel w l ks k lv wx) (fun _ kv _ => N - (intOf kv).toNat)
  case atStart => exact ⟨0, Nat.zero_le _, rfl, none, 0, rfl, World.ownsRow_nil _ _ _ _, Below.refl _ _⟩
  case round =>
    obtain ⟨k, hk, rfl, A2, c2, rfl, hown, hbel⟩ := hrel
    have hz := hbel.size
    have hkl : (kindL (l.take k) ks).length ≤ 9999 := by have := kindL_len (l.take k) ks; simp at this; omega
    have HO := Lib.hid hown
    have HB := Lib.hid hbel
    clear hown hbel
    generalize hM : (kindL (l.take k) ks).length = M at *
    have HM := Lib.hid hM
    clear hM
    by_cases hlt : k < N
    · have hkl2 : k < l.length := by have := HL.out; omega
      have hg : l[k]? = some l[k] := List.getElem?_eq_getElem hkl2
      have HG := Lib.hid hg
      have HYES := Lib.hid (kindL_yes (ks := ks) hg)
      have HNO := Lib.hid (kindL_no (ks := ks) hg)
      have HRr := Lib.hid (HR.out.below HB.out)
      have hkI : (k : Int) < (N : Int) := by omega
      clear hg
      generalize l[k] = a at *
      go_wp2_with fail
      refine cpIn_any _ _ _ _ _ _ _ _ _ _ _ _ _ _ _ _ _ _ _ _ _ _ _ _ _ _ _ _ _ _ _ _ _ _ _ _ _ _ _ _ _ _ _ _ _ _ _ _ _ _ _ _ _ _ _ _ _ _ _ _ _ _ _ _ _ _ _ _ _ _ _ _ _ _ _ _ _ _ _ _ _ _ _ _ _ _ _ _ _ _ _ _ _ _ _ _ _ _ _ _ _ _ _ _ _ _ _ _ _ _ _ _ _ _ _ _ _ _ _ _ _ _ _ _ _ _ _ _ _ _ _ _ _ _ _ _ _ _ _ _ _ _ _ _ _ _ _ _ _ _ _ _ _ _ _ _ _ _ _ _ _ _ _ _ _ _ _ _ _ _ _ _ _ _ _ _ _ _ _ _ _ _ _ _ _ _ _ _ _ _ _ _ _ _ _ _ _ _ _ _ _ _ _ _ _ _ _ _ _ _ _ _ _ _ _ _ _ _ _ _ _ _ _ _ _ _ _ _ _ _ _ _ _ _ _ _ _ _ _ _ _ _ _ _ _ _ _ _ _ _ _ _ _ _ _ _ _ _ _ _ _ _ _ _ _ _ _ _ _ _ _ _ _ _ _ _ _ _ _ _ _ _ _ _ _ _ _ _ _ _ _ _ _ _ _ _ _ _ _ _ _ _ _ _ _ _ _ _ _ _ _ _ _ _ _ _ _ _ _ _ _ _ _ _ _ _ _ _ _ _ _ _ _ _ _ _ _ _ _ _ _ _ _ _ _ _ _ _ _ _ A A3 N cp n3 c3 k B l a ks wr (H3.out.far HB.out hB) hn3 (HRr.out.wide hz) HG.out hN ?_
      intro u28 u219 u220 u221 u222 u223 u224 u225 u226 u227 u228 u229 u230 u231 u232 u233 u234 u235 u236 u237 w5 hd5
      have hb5 : Below wr.heap.size wr w5 := hd5.below
      have hz5 := hb5.size
      have HB5 := Lib.hid hb5
      obtain ⟨ad, a', hAe, hbl, hx, p1, _, _⟩ := (HRr.out.far hb5 hz).acc hlt
      rw [HG.out] at hx
      injection hx with hx
      subst hx
      subst hAe
      clear hb5 hd5
      obtain ⟨x1, x2, x3⟩ := a
      cases hT : ks.contains (Acc.mk x1 x2 x3).kind
      · have HN2 : Hid (kindL (l.take (k + 1)) ks = kindL (l.take k) ks) := HNO.out hT
        clear HYES HNO hT
        go_wp2
        refine ⟨⟨k + 1, by omega, by go_num, A2, c2, ?_, ?_, ?_⟩, by simp [intOf]; omega⟩
        · rw [HN2.out, HM.out]
        · rw [HN2.out, HM.out]
          exact own_kept HO.out fun q hq _ => HB5.out.block q hq
        · exact HB.out.trans (HB5.out.mono hz)
      · have HN2 : Hid (kindL (l.take (k + 1)) ks = kindL (l.take k) ks ++ [x1]) := HYES.out hT
        clear HYES HNO hT
        obtain ⟨v3, w3, hrun, hown3, hg3, _⟩ := append_fresh (P := Tryz.prog) (w := w5.alloc (.cells #[.int .i64 x1] 3)) (ty := 24) (c := 1) infoInt Tryz.underlying24 rfl (by omega) w.heap.size _ M _ (own_kept HO.out fun q hq _ => (Below.heap_alloc _ _ _ (by omega)).trans (HB5.out.block q hq)) (rd_one w5 (.int .i64 x1) 3) (by simp [Value.oneCell']) (by unfold maxLen; omega) (by omega) (by simp; omega)
        obtain ⟨A3', c3', rfl⟩ := own_form hown3
        have HR3 := Lib.hid hrun
        have HB3 : Hid (Below w.heap.size w w3) := ((HB.out.trans (HB5.out.mono hz)).alloc (by omega) _).grown hg3 (by simp; omega) (own_ge HO.out)
        have HO3 := Lib.hid hown3
        clear hrun hown3 hg3
        go_wp2_with (at_builtin; refine wpList_append_run rfl _ _ _ rfl _ _ _ _ rfl rfl HR3.out ?_)
        refine ⟨⟨k + 1, by omega, by go_num, A3', c3', ?_, ?_, HB3.out⟩, by simp [intOf]; omega⟩
        · rw [HN2.out, List.length_append, HM.out]; rfl
        · rw [HN2.out, List.length_append, HM.out]
          have := HO3.out
          simpa [ints] using this
    · obtain rfl : k = N := by omega
      have HT : Hid (l.take k = l) := List.take_of_length_le (by have := HL.out; omega)
      have hm := HM.out
      rw [HT.out] at hm
      have ho := HO.out
      rw [HT.out] at ho
      subst hm
      have HO2 := Lib.hid ho
      clear ho HO
      go_wp2
      exact HQ.out _ _ _ _ _ _ _ _ _ _ _ _ _ _ _ _ _ _ _ _ _ _ _ _ _ _ _ _ _ _ _ _ _ _ _ _ _ _ _ _ HO2.out HB.out
end Go.Proofs.YtaliipcgekhepaaGreat
