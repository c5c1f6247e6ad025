/-
  ChartPlays: accounts that are told.
-/
import Derived.Test.YtaliipcgekhepaaGreatChartPlaysIn
namespace Go.Proofs.YtaliipcgekhepaaGreat
open Go.RowKit

set_option maxRecDepth 100000 in
set_option maxHeartbeats 4000000 in
theorem cpGet_any (s0 s1 s3 s4 s5 s6 s7 s8 s9 s11 s13 s14 s15 s16 s17 s18 s19 s20 s21 s22 s23 s24 s25 s26 s27 s28 s29 s30 s32 s33 s34 s35 s36 s37 s38 s39 s40 s41 s42 s43 s44 s45 s46 s47 s48 s49 s50 s51 s52 s53 s54 s55 s56 s57 s58 s59 s60 s61 s62 s63 s64 s65 s66 s67 s68 s69 s70 s71 s72 s73 s74 s75 s76 s77 s78 s79 s80 s81 s82 s83 s84 s85 s86 s87 s88 s89 s90 s91 s92 s93 s94 s95 s96 s97 s98 s99 s100 s101 s102 s103 s104 s105 s106 s107 s108 s109 s110 s111 s112 s113 s114 s115 s116 s117 s118 s119 s120 s121 s122 s123 s124 s125 s126 s127 s128 s129 s130 s131 s132 s133 s134 s135 s136 s137 s138 s139 s140 s141 s142 s143 s144 s145 s146 s147 s148 s149 s150 s151 s152 s153 s154 s155 s156 s157 s158 s159 s160 s161 s162 s163 s164 s165 s166 s167 s168 s169 s170 s171 s172 s173 s174 s175 s176 s177 s178 s179 s180 s181 s182 s183 s184 s185 s186 s187 s188 s189 s190 s191 s192 s193 s194 s195 s196 s197 s198 s199 s200 s201 s202 s203 s204 s205 s206 s207 s208 s209 s210 s211 s212 s213 s214 s215 s216 s217 s218 s219 s220 s221 s222 s223 s224 s225 s226 s227 s228 s229 s230 s231 s232 s233 s234 s235 s236 s237 s238 s239 s240 s241 s242 s243 s244 s245 s246 s247 s248 s249 s250 s251 s252 s253 s254 s255 s256 s257 s258 s259 s260 s261 s262 s263 s264 s265 s266 s267 s268 s269 s270 s271 s272 s273 s274 s275 s276 s277 s278 s279 s280 s281 s282 s283 s284 s285 s286 s287 s288 s289 s290 s291 s292 s293 s294 s295 s296 s297 s298 s299 s300 s301 s302 s303 s304 s305 s306 s307 s308 s309 s310 s311 s312 s313 s314 s315 s316 s317 s318 s319 s320 s321 s322 s323 s324 s325 s326 s327 s328 s329 s330 s331 s332 s333 s334 s335 s336 s337 s338 s339 s340 s341 s342 s343 s344 s345 s346 s347 s348 s349 s350 s351 s352 s353 : Value) (Q0 : Exit → Act → World → Prop) (A A2 : Option Addr) (N cp n2 c2 B B0 ci : Nat) (v : Value) (l : List Acc) (ask : List Int) (w : World) (h2 : Rd w B 1 A2 n2 (ints .i64 ask)) (hB : B ≤ w.heap.size) (hn2 : n2 ≤ 12) (hr : Rd w w.heap.size 3 A N (accs l)) (hN : N ≤ 9999) (hch : ChartAt w B0 ci v l)
    (hQ : ∀ (u8 u31 u32 u33 u34 u35 u280 u281 u282 u283 u284 u285 u286 u287 u288 u289 u290 u291 u292 u293 u294 u295 u296 u297 u298 u299 u300 u301 u302 u303 u304 u305 u306 u307 u308 u309 u310 u311 : Value) (w' : World), Below w.heap.size w w' → Q0 (.exit 14) ⟨#[s0, s1, .slice A2 n2 c2, s3, s4, s5, s6, s7, u8, s9, .pointer (some ⟨ci, 0, none⟩), s11, .slice A N cp, s13, s14, s15, s16, s17, s18, s19, s20, s21, s22, s23, s24, s25, s26, s27, s28, s29, s30, u31, u32, u33, u34, u35, s36, s37, s38, s39, s40, s41, s42, s43, s44, s45, s46, s47, s48, s49, s50, s51, s52, s53, s54, s55, s56, s57, s58, s59, s60, s61, s62, s63, s64, s65, s66, s67, s68, s69, s70, s71, s72, s73, s74, s75, s76, s77, s78, s79, s80, s81, s82, s83, s84, s85, s86, s87, s88, s89, s90, s91, s92, s93, s94, s95, s96, s97, s98, s99, s100, s101, s102, s103, s104, s105, s106, s107, s108, s109, s110, s111, s112, s113, s114, s115, s116, s117, s118, s119, s120, s121, s122, s123, s124, s125, s126, s127, s128, s129, s130, s131, s132, s133, s134, s135, s136, s137, s138, s139, s140, s141, s142, s143, s144, s145, s146, s147, s148, s149, s150, s151, s152, s153, s154, s155, s156, s157, s158, s159, s160, s161, s162, s163, s164, s165, s166, s167, s168, s169, s170, s171, s172, s173, s174, s175, s176, s177, s178, s179, s180, s181, s182, s183, s184, s185, s186, s187, s188, s189, s190, s191, s192, s193, s194, s195, s196, s197, s198, s199, s200, s201, s202, s203, s204, s205, s206, s207, s208, s209, s210, s211, s212, s213, s214, s215, s216, s217, s218, s219, s220, s221, s222, s223, s224, s225, s226, s227, s228, s229, s230, s231, s232, s233, s234, s235, s236, s237, s238, s239, s240, s241, s242, s243, s244, s245, s246, s247, s248, s249, s250, s251, s252, s253, s254, s255, s256, s257, s258, s259, s260, s261, s262, s263, s264, s265, s266, s267, s268, s269, s270, s271, s272, s273, s274, s275, s276, s277, s278, s279, u280, u281, u282, u283, u284, u285, u286, u287, u288, u289, u290, u291, u292, u293, u294, u295, u296, u297, u298, u299, u300, u301, u302, u303, u304, u305, u306, u307, u308, u309, u310, u311, s312, s313, s314, s315, s316, s317, s318, s319, s320, s321, s322, s323, s324, s325, s326, s327, s328, s329, s330, s331, s332, s333, s334, s335, s336, s337, s338, s339, s340, s341, s342, s343, s344, s345, s346, s347, s348, s349, s350, s351, s352, s353], []⟩ w') :
    Code.wp Tryz.prog cpGet Q0 ⟨#[s0, s1, .slice A2 n2 c2, s3, s4, s5, s6, s7, s8, s9, .pointer (some ⟨ci, 0, none⟩), s11, .slice A N cp, s13, s14, s15, s16, s17, s18, s19, s20, s21, s22, s23, s24, s25, s26, s27, s28, s29, s30, .int .i64 0, s32, s33, s34, s35, s36, s37, s38, s39, s40, s41, s42, s43, s44, s45, s46, s47, s48, s49, s50, s51, s52, s53, s54, s55, s56, s57, s58, s59, s60, s61, s62, s63, s64, s65, s66, s67, s68, s69, s70, s71, s72, s73, s74, s75, s76, s77, s78, s79, s80, s81, s82, s83, s84, s85, s86, s87, s88, s89, s90, s91, s92, s93, s94, s95, s96, s97, s98, s99, s100, s101, s102, s103, s104, s105, s106, s107, s108, s109, s110, s111, s112, s113, s114, s115, s116, s117, s118, s119, s120, s121, s122, s123, s124, s125, s126, s127, s128, s129, s130, s131, s132, s133, s134, s135, s136, s137, s138, s139, s140, s141, s142, s143, s144, s145, s146, s147, s148, s149, s150, s151, s152, s153, s154, s155, s156, s157, s158, s159, s160, s161, s162, s163, s164, s165, s166, s167, s168, s169, s170, s171, s172, s173, s174, s175, s176, s177, s178, s179, s180, s181, s182, s183, s184, s185, s186, s187, s188, s189, s190, s191, s192, s193, s194, s195, s196, s197, s198, s199, s200, s201, s202, s203, s204, s205, s206, s207, s208, s209, s210, s211, s212, s213, s214, s215, s216, s217, s218, s219, s220, s221, s222, s223, s224, s225, s226, s227, s228, s229, s230, s231, s232, s233, s234, s235, s236, s237, s238, s239, s240, s241, s242, s243, s244, s245, s246, s247, s248, s249, s250, s251, s252, s253, s254, s255, s256, s257, s258, s259, s260, s261, s262, s263, s264, s265, s266, s267, s268, s269, s270, s271, s272, s273, s274, s275, s276, s277, s278, s279, s280, s281, s282, s283, s284, s285, s286, s287, s288, s289, s290, s291, s292, s293, s294, s295, s296, s297, s298, s299, s300, s301, s302, s303, s304, s305, s306, s307, s308, s309, s310, s311, s312, s313, s314, s315, s316, s317, s318, s319, s320, s321, s322, s323, s324, s325, s326, s327, s328, s329, s330, s331, s332, s333, s334, s335, s336, s337, s338, s339, s340, s341, s342, s343, s344, s345, s346, s347, s348, s349, s350, s351, s352, s353], []⟩ w := by
  have HQ := Lib.hid hQ
  have HL2 := Lib.hid h2.ints_len
  have H2 := Lib.hid h2
  have HR := Lib.hid hr
  have HCH := Lib.hid hch
  clear hQ hr h2 hch
  conv => arg 2; whnf
  conv => arg 4; dsimp only
  go_loopw [31] (fun jv wx => ∃ j : Nat, j ≤ n2 ∧ jv = .int .i64 j ∧ Below w.heap.size w wx) (fun jv _ => n2 - (intOf jv).toNat)
  case atStart => exact ⟨0, Nat.zero_le _, rfl, Below.refl _ _⟩
  case round =>
    obtain ⟨j, hj, rfl, hb⟩ := hrel
    have hz := hb.size
    have HB := Lib.hid hb
    clear hb
    by_cases hlt : j < n2
    · obtain ⟨ad2, rfl, hbl, hc2⟩ := (H2.out.far HB.out hB).int hlt
      have hjn : (j : Int) < (n2 : Int) := by omega
      generalize ask[j]?.getD 0 = y at *
      have kg := get_any B0 ci v l y wr (HCH.out.below HB.out)
      have ka := fun (W : World) (hb : Below wr.heap.size wr W) => refAccount_any l y A N cp _ W ((HR.out.below HB.out).far hb hz) (Nat.le_trans hz hb.size) (by omega)
      unfold getV at kg ka
      generalize (findA l y).getD acc0 = a at *
      generalize (findA l y).isSome = t at *
      obtain ⟨x1, x2, x3⟩ := a
      unfold Acc.val at kg ka
      have KA := Lib.hid ka
      have hbn : (t != t) = false := by simp
      clear ka
      go_wp2_with fail
      refine kg.mono ?_
      rintro e w5 ⟨rfl, hb5⟩
      have hz5 := hb5.size
      have HB5 := Lib.hid hb5
      have hc5 : ∀ o, (w5.alloc o).cell? (ad2.add j) = some (.int .i64 y) := fun o => by
        have h1 : (ad2.add j).block < wr.heap.size := by rw [add_block]; omega
        exact (Below.cell ((hb5.trans ((Below.refl wr.heap.size w5).alloc hz5 o))) h1).trans hc2
      clear hb5 kg
      go_wp2_with fail
      refine (KA.out _ (by first | exact HB5.out.alloc hz5 _ | exact (((HB5.out.alloc hz5 _).setCell (by simp; omega) _).setCell (by simp; omega) _).setCell (by simp; omega) _)).mono ?_
      rintro e w6 ⟨rfl, hb6⟩
      have g0 : w6.cell? ⟨w5.heap.size, 0, none⟩ = some (.int .i64 x1) := by rw [hb6.cell (by simp)]; simp [go_sem]
      have g1 : w6.cell? ⟨w5.heap.size, 1, none⟩ = some (.int .i64 x2) := by rw [hb6.cell (by simp)]; simp [go_sem]
      have g2 : w6.cell? ⟨w5.heap.size, 2, none⟩ = some (.bool x3) := by rw [hb6.cell (by simp)]; simp [go_sem]
      have hz6 : w5.heap.size + 1 ≤ w6.heap.size := by have := hb6.size; simpa using this
      have hz6' : w5.heap.size < w6.heap.size := by omega
      have HB6 : Hid (Below w.heap.size w w6) := HB.out.trans (((HB5.out.alloc hz5 _).trans (hb6.mono (by simp; omega))).mono hz)
      clear hb6
      go_wp2
      exact ⟨⟨j + 1, by omega, by go_num, HB6.out.alloc (Nat.le_trans hz (by omega)) _⟩, by simp [intOf]; omega⟩
    · obtain rfl : j = n2 := by omega
      go_wp2
      exact HQ.out _ _ _ _ _ _ _ _ _ _ _ _ _ _ _ _ _ _ _ _ _ _ _ _ _ _ _ _ _ _ _ _ _ _ _ _ _ _ _ HB.out
end Go.Proofs.YtaliipcgekhepaaGreat
