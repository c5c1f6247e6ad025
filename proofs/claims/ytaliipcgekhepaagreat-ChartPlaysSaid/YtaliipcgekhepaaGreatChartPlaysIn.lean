/-
  ChartPlays: is a kind asked for?
-/
import Derived.Test.YtaliipcgekhepaaGreatChartPlaysIf0
namespace Go.Proofs.YtaliipcgekhepaaGreat
open Go.RowKit

noncomputable def cpIn : Code := subCode [1, 1, 1, 1, 1, 1, 1, 1, 1, 1, 0, 1, 0, 0, 1, 0, 0, 1, 1, 1, 1, 1, 0, 1, 0, 0, 1, 0, 0, 1, 0, 1, 0] (Tryz.f3.body.getD .skip)
noncomputable def cpWant : Code := subCode [1, 1, 1, 1, 1, 1, 1, 1, 1, 1, 0, 1, 0, 0, 1, 0, 0, 1, 1, 1, 1, 1, 0, 1, 0] (Tryz.f3.body.getD .skip)
noncomputable def cpLive : Code := subCode [1, 1, 1, 1, 1, 1, 1, 1, 1, 1, 0, 1, 0, 0, 1, 0, 0, 1, 1, 1, 1, 1, 1, 1, 0, 1, 0] (Tryz.f3.body.getD .skip)
noncomputable def cpGet : Code := subCode [1, 1, 1, 1, 1, 1, 1, 1, 1, 1, 0, 1, 0, 0, 1, 0, 0, 1, 1, 1, 1, 1, 1, 1, 1, 1, 1, 0] (Tryz.f3.body.getD .skip)
noncomputable def cpEnd : Code := subCode [1, 1, 1, 1, 1, 1, 1, 1, 1, 1, 1] (Tryz.f3.body.getD .skip)

theorem contains_succ {ks : List Int} {j : Nat} {y : Int} (x : Int) (hy : ks[j]? = some y) : (ks.take (j + 1)).contains x = ((ks.take j).contains x || y == x) := by
  obtain ⟨hl, rfl⟩ := List.getElem?_eq_some_iff.1 hy
  rw [List.take_succ_eq_append_getElem hl]
  rw [Bool.eq_iff_iff]
  simp only [List.contains_iff_mem, List.mem_append, List.mem_singleton, Bool.or_eq_true, beq_iff_eq]
  constructor
  · rintro (h | h)
    · exact .inl h
    · exact .inr h.symm
  · rintro (h | h)
    · exact .inl h
    · exact .inr h.symm

set_option maxRecDepth 100000 in
set_option maxHeartbeats 4000000 in
theorem cpIn_any (s0 s1 s2 s4 s5 s6 s7 s8 s9 s10 s11 s13 s14 s15 s16 s17 s18 s19 s20 s21 s22 s23 s24 s25 s29 s30 s31 s32 s33 s34 s35 s36 s37 s38 s39 s40 s41 s42 s43 s44 s45 s46 s47 s48 s49 s50 s51 s52 s53 s54 s55 s56 s57 s58 s59 s60 s61 s62 s63 s64 s65 s66 s67 s68 s69 s70 s71 s72 s73 s74 s75 s76 s77 s78 s79 s80 s81 s82 s83 s84 s85 s86 s87 s88 s89 s90 s91 s92 s93 s94 s95 s96 s97 s98 s99 s100 s101 s102 s103 s104 s105 s106 s107 s108 s109 s110 s111 s112 s113 s114 s115 s116 s117 s118 s119 s120 s121 s122 s123 s124 s125 s126 s127 s128 s129 s130 s131 s132 s133 s134 s135 s136 s137 s138 s139 s140 s141 s142 s143 s144 s145 s146 s147 s148 s149 s150 s151 s152 s153 s154 s155 s156 s157 s158 s159 s160 s161 s162 s163 s164 s165 s166 s167 s168 s169 s170 s171 s172 s173 s174 s175 s176 s177 s178 s179 s180 s181 s182 s183 s184 s185 s186 s187 s188 s189 s190 s191 s192 s193 s194 s195 s196 s197 s198 s199 s200 s201 s202 s203 s204 s205 s206 s207 s208 s209 s210 s211 s212 s213 s214 s215 s216 s217 s218 s219 s220 s221 s222 s223 s224 s225 s226 s227 s228 s229 s230 s231 s232 s233 s234 s235 s236 s237 s238 s239 s240 s241 s242 s243 s244 s245 s246 s247 s248 s249 s250 s251 s252 s253 s254 s255 s256 s257 s258 s259 s260 s261 s262 s263 s264 s265 s266 s267 s268 s269 s270 s271 s272 s273 s274 s275 s276 s277 s278 s279 s280 s281 s282 s283 s284 s285 s286 s287 s288 s289 s290 s291 s292 s293 s294 s295 s296 s297 s298 s299 s300 s301 s302 s303 s304 s305 s306 s307 s308 s309 s310 s311 s312 s313 s314 s315 s316 s317 s318 s319 s320 s321 s322 s323 s324 s325 s326 s327 s328 s329 s330 s331 s332 s333 s334 s335 s336 s337 s338 s339 s340 s341 s342 s343 s344 s345 s346 s347 s348 s349 s350 s351 s352 s353 : Value) (Q0 : Exit → Act → World → Prop) (A A3 : Option Addr) (N cp n3 c3 k B : Nat) (l : List Acc) (a : Acc) (ks : List Int) (w : World) (h3 : Rd w B 1 A3 n3 (ints .i64 ks)) (hn3 : n3 ≤ 12) (hr : Rd w w.heap.size 3 A N (accs l)) (ha : l[k]? = some a) (hN : N ≤ 9999)
    (hQ : ∀ (u28 u219 u220 u221 u222 u223 u224 u225 u226 u227 u228 u229 u230 u231 u232 u233 u234 u235 u236 u237 : Value) (w' : World), Drew w w' → Q0 (.exit 10) ⟨#[s0, s1, s2, .slice A3 n3 c3, s4, s5, s6, s7, s8, s9, s10, s11, .slice A N cp, s13, s14, s15, s16, s17, s18, s19, s20, s21, s22, s23, s24, s25, .int .i64 (k : Nat), .bool (ks.contains a.kind), u28, s29, s30, s31, s32, s33, s34, s35, s36, s37, s38, s39, s40, s41, s42, s43, s44, s45, s46, s47, s48, s49, s50, s51, s52, s53, s54, s55, s56, s57, s58, s59, s60, s61, s62, s63, s64, s65, s66, s67, s68, s69, s70, s71, s72, s73, s74, s75, s76, s77, s78, s79, s80, s81, s82, s83, s84, s85, s86, s87, s88, s89, s90, s91, s92, s93, s94, s95, s96, s97, s98, s99, s100, s101, s102, s103, s104, s105, s106, s107, s108, s109, s110, s111, s112, s113, s114, s115, s116, s117, s118, s119, s120, s121, s122, s123, s124, s125, s126, s127, s128, s129, s130, s131, s132, s133, s134, s135, s136, s137, s138, s139, s140, s141, s142, s143, s144, s145, s146, s147, s148, s149, s150, s151, s152, s153, s154, s155, s156, s157, s158, s159, s160, s161, s162, s163, s164, s165, s166, s167, s168, s169, s170, s171, s172, s173, s174, s175, s176, s177, s178, s179, s180, s181, s182, s183, s184, s185, s186, s187, s188, s189, s190, s191, s192, s193, s194, s195, s196, s197, s198, s199, s200, s201, s202, s203, s204, s205, s206, s207, s208, s209, s210, s211, s212, s213, s214, s215, s216, s217, s218, u219, u220, u221, u222, u223, u224, u225, u226, u227, u228, u229, u230, u231, u232, u233, u234, u235, u236, u237, s238, s239, s240, s241, s242, s243, s244, s245, s246, s247, s248, s249, s250, s251, s252, s253, s254, s255, s256, s257, s258, s259, s260, s261, s262, s263, s264, s265, s266, s267, s268, s269, s270, s271, s272, s273, s274, s275, s276, s277, s278, s279, s280, s281, s282, s283, s284, s285, s286, s287, s288, s289, s290, s291, s292, s293, s294, s295, s296, s297, s298, s299, s300, s301, s302, s303, s304, s305, s306, s307, s308, s309, s310, s311, s312, s313, s314, s315, s316, s317, s318, s319, s320, s321, s322, s323, s324, s325, s326, s327, s328, s329, s330, s331, s332, s333, s334, s335, s336, s337, s338, s339, s340, s341, s342, s343, s344, s345, s346, s347, s348, s349, s350, s351, s352, s353], []⟩ w') :
    Code.wp Tryz.prog cpIn Q0 ⟨#[s0, s1, s2, .slice A3 n3 c3, s4, s5, s6, s7, s8, s9, s10, s11, .slice A N cp, s13, s14, s15, s16, s17, s18, s19, s20, s21, s22, s23, s24, s25, .int .i64 (k : Nat), .bool false, .int .i64 0, s29, s30, s31, s32, s33, s34, s35, s36, s37, s38, s39, s40, s41, s42, s43, s44, s45, s46, s47, s48, s49, s50, s51, s52, s53, s54, s55, s56, s57, s58, s59, s60, s61, s62, s63, s64, s65, s66, s67, s68, s69, s70, s71, s72, s73, s74, s75, s76, s77, s78, s79, s80, s81, s82, s83, s84, s85, s86, s87, s88, s89, s90, s91, s92, s93, s94, s95, s96, s97, s98, s99, s100, s101, s102, s103, s104, s105, s106, s107, s108, s109, s110, s111, s112, s113, s114, s115, s116, s117, s118, s119, s120, s121, s122, s123, s124, s125, s126, s127, s128, s129, s130, s131, s132, s133, s134, s135, s136, s137, s138, s139, s140, s141, s142, s143, s144, s145, s146, s147, s148, s149, s150, s151, s152, s153, s154, s155, s156, s157, s158, s159, s160, s161, s162, s163, s164, s165, s166, s167, s168, s169, s170, s171, s172, s173, s174, s175, s176, s177, s178, s179, s180, s181, s182, s183, s184, s185, s186, s187, s188, s189, s190, s191, s192, s193, s194, s195, s196, s197, s198, s199, s200, s201, s202, s203, s204, s205, s206, s207, s208, s209, s210, s211, s212, s213, s214, s215, s216, s217, s218, s219, s220, s221, s222, s223, s224, s225, s226, s227, s228, s229, s230, s231, s232, s233, s234, s235, s236, s237, s238, s239, s240, s241, s242, s243, s244, s245, s246, s247, s248, s249, s250, s251, s252, s253, s254, s255, s256, s257, s258, s259, s260, s261, s262, s263, s264, s265, s266, s267, s268, s269, s270, s271, s272, s273, s274, s275, s276, s277, s278, s279, s280, s281, s282, s283, s284, s285, s286, s287, s288, s289, s290, s291, s292, s293, s294, s295, s296, s297, s298, s299, s300, s301, s302, s303, s304, s305, s306, s307, s308, s309, s310, s311, s312, s313, s314, s315, s316, s317, s318, s319, s320, s321, s322, s323, s324, s325, s326, s327, s328, s329, s330, s331, s332, s333, s334, s335, s336, s337, s338, s339, s340, s341, s342, s343, s344, s345, s346, s347, s348, s349, s350, s351, s352, s353], []⟩ w := by
  obtain ⟨x1, x2, x3⟩ := a
  dsimp only at hQ
  have HQ := Lib.hid hQ
  have HL := Lib.hid hr.accs_len
  have hkN : k < N := by have := (List.getElem?_eq_some_iff.1 ha).1; have := HL.out; omega
  obtain ⟨ad, a', rfl, _, ha', _, p2, _⟩ := hr.acc hkN
  rw [ha] at ha'
  injection ha' with ha'
  subst ha'
  have p2' := cell_behind p2 (by omega)
  have HL3 := Lib.hid h3.ints_len
  have H3 := Lib.hid h3
  have hkI : (k : Int) < (N : Int) := by omega
  clear hQ hr ha p2 h3
  conv => arg 2; whnf
  conv => arg 4; dsimp only
  go_loopw [27, 28] (fun iv jv wx => ∃ j : Nat, j ≤ n3 ∧ jv = .int .i64 j ∧ Drew w wx ∧ iv = .bool ((ks.take j).contains x2)) (fun _ jv _ => n3 - (intOf jv).toNat)
  case atStart => exact ⟨0, Nat.zero_le _, rfl, Drew.refl _, rfl⟩
  case round =>
    obtain ⟨j, hj, rfl, ⟨q, rfl⟩, rfl⟩ := hrel
    by_cases hlt : j < n3
    · obtain ⟨ad3, rfl, _, hc3⟩ := H3.out.int hlt
      have hjl : j < ks.length := by have := HL3.out; omega
      have hy : ks[j]? = some ks[j] := List.getElem?_eq_getElem hjl
      rw [hy, Option.getD_some] at hc3
      have HS := Lib.hid (contains_succ x2 hy)
      have hjn : (j : Int) < (n3 : Int) := by omega
      clear hy
      generalize ks[j] = y at *
      generalize (ks.take j).contains x2 = t at *
      cases t
      · by_cases he : y = x2
        · have hb : (y == x2) = true := by simp [he]
          go_wp2_with fail
          go_big_quiet (fail)
          go_wp2
          exact ⟨⟨j + 1, by omega, by go_num, Drew.add _ _, by rw [HS.out]; simp [he]⟩, by simp [intOf]; omega⟩
        · have hb : (y == x2) = false := by simp [he]
          go_wp2_with fail
          go_big_quiet (fail)
          go_wp2
          exact ⟨⟨j + 1, by omega, by go_num, Drew.add _ _, by rw [HS.out]; simp [he]⟩, by simp [intOf]; omega⟩
      · go_wp2_with fail
        go_big_quiet (fail)
        go_wp2
        exact ⟨⟨j + 1, by omega, by go_num, Drew.add _ _, by rw [HS.out]; simp⟩, by simp [intOf]; omega⟩
    · obtain rfl : j = n3 := by omega
      have HT : Hid (ks.take j = ks) := List.take_of_length_le (by have := HL3.out; omega)
      rw [HT.out]
      generalize ks.contains x2 = t at *
      go_wp2
      exact HQ.out _ _ _ _ _ _ _ _ _ _ _ _ _ _ _ _ _ _ _ _ _ ⟨q, rfl⟩
end Go.Proofs.YtaliipcgekhepaaGreat
