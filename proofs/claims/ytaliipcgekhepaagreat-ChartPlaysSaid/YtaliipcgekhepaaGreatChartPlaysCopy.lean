/-
  ChartPlays: a copy that takes the chart's place.
-/
import Derived.Test.YtaliipcgekhepaaGreatChartPlaysIf0
namespace Go.Proofs.YtaliipcgekhepaaGreat
open Go.RowKit

set_option maxRecDepth 100000 in
set_option maxHeartbeats 4000000 in
theorem cpIf_copy (s4 s5 s6 s7 s8 s9 s11 s13 s14 s17 s18 s19 s20 s21 s22 s23 s24 s25 s26 s27 s28 s29 s30 s31 s32 s33 s34 s35 s36 s37 s38 s39 s40 s41 s42 s43 s44 s45 s46 s47 s48 s49 s50 s51 s52 s53 s54 s55 s56 s57 s58 s59 s60 s61 s62 s63 s64 s65 s66 s67 s68 s69 s70 s71 s72 s73 s74 s75 s76 s77 s78 s79 s80 s81 s82 s83 s84 s85 s86 s87 s88 s89 s90 s91 s92 s93 s94 s95 s96 s97 s98 s99 s100 s101 s102 s103 s104 s105 s106 s107 s108 s109 s110 s111 s112 s113 s114 s116 s117 s118 s119 s120 s121 s122 s123 s124 s125 s126 s127 s128 s129 s130 s131 s132 s133 s134 s135 s136 s137 s138 s139 s140 s141 s142 s143 s144 s145 s146 s147 s148 s149 s150 s151 s152 s153 s154 s155 s156 s157 s158 s159 s160 s161 s162 s163 s164 s165 s166 s167 s168 s169 s170 s171 s172 s173 s174 s175 s176 s177 s178 s179 s180 s181 s182 s183 s184 s185 s186 s187 s188 s189 s190 s191 s192 s193 s194 s195 s196 s197 s198 s199 s200 s201 s202 s203 s204 s205 s206 s207 s208 s209 s210 s211 s212 s213 s214 s215 s216 s217 s218 s219 s220 s221 s222 s223 s224 s225 s226 s227 s228 s229 s230 s231 s232 s233 s234 s235 s236 s237 s238 s239 s240 s241 s242 s243 s244 s245 s246 s247 s248 s249 s250 s251 s252 s253 s254 s255 s256 s257 s258 s259 s260 s261 s262 s263 s264 s265 s266 s267 s268 s269 s270 s271 s272 s273 s274 s275 s276 s277 s278 s279 s280 s281 s282 s283 s284 s285 s286 s287 s288 s289 s290 s291 s292 s293 s294 s295 s296 s297 s298 s299 s300 s301 s302 s303 s304 s305 s306 s307 s308 s309 s310 s311 s312 s313 s314 s315 s316 s317 s318 s319 s320 s321 s322 s323 s324 s325 s326 s327 s328 s329 s330 s331 s332 s333 s334 s335 s336 s337 s338 s339 s340 s341 s342 s343 s344 s345 s346 s347 s348 s349 s350 s351 s352 s353 : Value) (Q0 : Exit → Act → World → Prop) (ops : List COp) (A0 A1 A2 A3 : Option Addr) (n0 n1 n2 n3 c0 c1 c2 c3 b m : Nat) (im : Int) (t : Bool) (w wr : World) (cv rv : Value) (him : im = (m : Int)) (ht : t = decide (0 < im))
    (h1 : Rd w w.heap.size 3 A1 n1 (ops.flatMap COp.cells)) (hn1 : n1 ≤ 40) (hplay : Play w wr b cv rv m) (hmn : m ≤ n1)
    (hQ : ∀ (u10 u12 u17 u18 u19 u20 u21 u22 u116 u117 u118 u119 u120 u121 u122 u123 u124 u125 u126 u127 u128 u129 u130 u131 u132 u133 u134 u135 u136 u137 u138 u139 u140 u141 u142 u143 u144 u145 u146 u147 u148 u149 u150 u151 u152 u153 u154 u155 u156 u157 u158 u159 u160 u161 u162 u163 u164 u165 u166 u167 u168 u169 u170 u171 u172 u173 u174 u175 u176 u177 u178 u179 u180 u181 u182 u183 u184 u185 u186 u187 u188 u189 u190 u191 u192 u193 u194 u195 u196 u197 u198 u199 u200 u201 : Value) (w' : World), Play w w' b u10 u12 m → Q0 .normal ⟨#[.slice A0 n0 c0, .slice A1 n1 c1, .slice A2 n2 c2, .slice A3 n3 c3, s4, s5, s6, s7, s8, s9, u10, s11, u12, s13, s14, .pointer (some ⟨b, 0, none⟩), .int .i64 im, u17, u18, u19, u20, u21, u22, s23, s24, s25, s26, s27, s28, s29, s30, s31, s32, s33, s34, s35, s36, s37, s38, s39, s40, s41, s42, s43, s44, s45, s46, s47, s48, s49, s50, s51, s52, s53, s54, s55, s56, s57, s58, s59, s60, s61, s62, s63, s64, s65, s66, s67, s68, s69, s70, s71, s72, s73, s74, s75, s76, s77, s78, s79, s80, s81, s82, s83, s84, s85, s86, s87, s88, s89, s90, s91, s92, s93, s94, s95, s96, s97, s98, s99, s100, s101, s102, s103, s104, s105, s106, s107, s108, s109, s110, s111, s112, s113, s114, .bool t, u116, u117, u118, u119, u120, u121, u122, u123, u124, u125, u126, u127, u128, u129, u130, u131, u132, u133, u134, u135, u136, u137, u138, u139, u140, u141, u142, u143, u144, u145, u146, u147, u148, u149, u150, u151, u152, u153, u154, u155, u156, u157, u158, u159, u160, u161, u162, u163, u164, u165, u166, u167, u168, u169, u170, u171, u172, u173, u174, u175, u176, u177, u178, u179, u180, u181, u182, u183, u184, u185, u186, u187, u188, u189, u190, u191, u192, u193, u194, u195, u196, u197, u198, u199, u200, u201, s202, s203, s204, s205, s206, s207, s208, s209, s210, s211, s212, s213, s214, s215, s216, s217, s218, s219, s220, s221, s222, s223, s224, s225, s226, s227, s228, s229, s230, s231, s232, s233, s234, s235, s236, s237, s238, s239, s240, s241, s242, s243, s244, s245, s246, s247, s248, s249, s250, s251, s252, s253, s254, s255, s256, s257, s258, s259, s260, s261, s262, s263, s264, s265, s266, s267, s268, s269, s270, s271, s272, s273, s274, s275, s276, s277, s278, s279, s280, s281, s282, s283, s284, s285, s286, s287, s288, s289, s290, s291, s292, s293, s294, s295, s296, s297, s298, s299, s300, s301, s302, s303, s304, s305, s306, s307, s308, s309, s310, s311, s312, s313, s314, s315, s316, s317, s318, s319, s320, s321, s322, s323, s324, s325, s326, s327, s328, s329, s330, s331, s332, s333, s334, s335, s336, s337, s338, s339, s340, s341, s342, s343, s344, s345, s346, s347, s348, s349, s350, s351, s352, s353], []⟩ w') (x1 x2 x3 : Int) (k : Nat) (hmk : m = k + 1) (ho : ops[k]? = some ⟨x1, x2, x3⟩) (hx : x1 ≠ 1) (hx2 : x1 ≠ 2) :
    Code.wp Tryz.prog cpIf Q0 ⟨#[.slice A0 n0 c0, .slice A1 n1 c1, .slice A2 n2 c2, .slice A3 n3 c3, s4, s5, s6, s7, s8, s9, cv, s11, rv, s13, s14, .pointer (some ⟨b, 0, none⟩), .int .i64 im, s17, s18, s19, s20, s21, s22, s23, s24, s25, s26, s27, s28, s29, s30, s31, s32, s33, s34, s35, s36, s37, s38, s39, s40, s41, s42, s43, s44, s45, s46, s47, s48, s49, s50, s51, s52, s53, s54, s55, s56, s57, s58, s59, s60, s61, s62, s63, s64, s65, s66, s67, s68, s69, s70, s71, s72, s73, s74, s75, s76, s77, s78, s79, s80, s81, s82, s83, s84, s85, s86, s87, s88, s89, s90, s91, s92, s93, s94, s95, s96, s97, s98, s99, s100, s101, s102, s103, s104, s105, s106, s107, s108, s109, s110, s111, s112, s113, s114, .bool t, s116, s117, s118, s119, s120, s121, s122, s123, s124, s125, s126, s127, s128, s129, s130, s131, s132, s133, s134, s135, s136, s137, s138, s139, s140, s141, s142, s143, s144, s145, s146, s147, s148, s149, s150, s151, s152, s153, s154, s155, s156, s157, s158, s159, s160, s161, s162, s163, s164, s165, s166, s167, s168, s169, s170, s171, s172, s173, s174, s175, s176, s177, s178, s179, s180, s181, s182, s183, s184, s185, s186, s187, s188, s189, s190, s191, s192, s193, s194, s195, s196, s197, s198, s199, s200, s201, s202, s203, s204, s205, s206, s207, s208, s209, s210, s211, s212, s213, s214, s215, s216, s217, s218, s219, s220, s221, s222, s223, s224, s225, s226, s227, s228, s229, s230, s231, s232, s233, s234, s235, s236, s237, s238, s239, s240, s241, s242, s243, s244, s245, s246, s247, s248, s249, s250, s251, s252, s253, s254, s255, s256, s257, s258, s259, s260, s261, s262, s263, s264, s265, s266, s267, s268, s269, s270, s271, s272, s273, s274, s275, s276, s277, s278, s279, s280, s281, s282, s283, s284, s285, s286, s287, s288, s289, s290, s291, s292, s293, s294, s295, s296, s297, s298, s299, s300, s301, s302, s303, s304, s305, s306, s307, s308, s309, s310, s311, s312, s313, s314, s315, s316, s317, s318, s319, s320, s321, s322, s323, s324, s325, s326, s327, s328, s329, s330, s331, s332, s333, s334, s335, s336, s337, s338, s339, s340, s341, s342, s343, s344, s345, s346, s347, s348, s349, s350, s351, s352, s353], []⟩ wr := by
  subst hmk
  have ht2 : t = true := by rw [ht, him]; simp <;> omega
  subst ht2
  clear ht
  have HQ := Lib.hid hQ
  obtain ⟨hbel, ci, v, l, A, cp, rfl, rfl, hch, hown, hsep, hk⟩ := hplay
  have hzx := hbel.size
  have hlen := hch.good.len
  have hgood := Lib.hid hch.good
  obtain ⟨ad, rfl, hbo, p1', p2', p3'⟩ : ∃ ad, A1 = some ad ∧ ad.block < w.heap.size ∧ wr.cell? (ad.add (k * 3)) = some (.int .i64 x1) ∧ wr.cell? (ad.add (k * 3 + 1)) = some (.int .i64 x2) ∧ wr.cell? (ad.add (k * 3 + 2)) = some (.int .i64 x3) := by
    obtain ⟨ad, o, e, hbo, ho2, hcells⟩ := (h1.below hbel).flat (cells := COp.cells) (fun _ => rfl) (by omega) (i := k) (by omega)
    rw [ho] at ho2
    injection ho2 with ho2
    subst ho2
    exact ⟨ad, e, hbo, hcells 0 _ rfl, hcells 1 _ rfl, hcells 2 _ rfl⟩
  have p2 := cell_behind p2' (by omega)
  have p3 := cell_behind p3' (by omega)
  have HCH := Lib.hid hch; have HOWN := Lib.hid hown; have HSEP := Lib.hid hsep; have HK := Lib.hid hk; have HBEL := Lib.hid hbel
  have hI : im - 1 = (k : Int) := by omega
  have HIM := Lib.hid him
  have hmI2 : (k : Int) < (n1 : Int) := by omega
  have hclt := hch.lt
  clear hch hown hsep hk hbel p2' p3' ho hQ h1 him
  conv => arg 2; whnf
  have t0 : (x1 == 1) = false := by simp [hx]
  have t2 : (x1 == 2) = false := by simp [hx2]
  have kc := Lib.hid fun (W : World) (hb : Below wr.heap.size wr W) => copy_any w.heap.size ci v l W (HCH.out.below hb)
  have ka := Lib.hid fun (W : World) (hb : Below wr.heap.size wr W) => add_any w.heap.size ci v l 9999 1 W (HCH.out.below hb)
  go_wp2_with fail
  refine (kc.out _ (by first | exact ((Below.refl _ _).alloc (Nat.le_refl _) _) | exact ((((Below.refl _ _).alloc (Nat.le_refl _) _).setCell (by simp) _).setCell (by simp) _).setCell (by simp) _)).mono ?_
  rintro e w5 ⟨d, vd, rfl, hd5, hb5⟩
  have hc1 : w5.cell? ⟨wr.heap.size, 1, none⟩ = some (.int .i64 x2) := by rw [hb5.cell (by simp)]; simp [go_sem]
  have hb5' : Below wr.heap.size wr w5 := ((Below.refl _ _).alloc (Nat.le_refl _) _).trans (hb5.mono (by simp))
  have hz5 : wr.heap.size + 1 ≤ w5.heap.size := by have := hb5.size; simpa using this
  have hd5' := hd5.base (B' := wr.heap.size) (by simp)
  have HB5 := Lib.hid hb5'
  have HD5 := Lib.hid hd5'
  clear hb5 hb5' hd5 hd5'
  go_wp2_with fail
  refine (ka.out w5 HB5.out).mono ?_
  rintro e w6 ⟨rfl, hto⟩
  obtain ⟨v6, q1, q2, q3, q4, q5, q6⟩ := play_step7 (S := fun k => v.ownBlock = some k ∨ wr.heap.size ≤ k) ((HK.out.more fun k hk => hk).below HB5.out) (HCH.out.below HB5.out) hto (own_kept HOWN.out fun q hq _ => HB5.out.block q hq) HSEP.out (fun k hk => .inl hk)
  have hz6 := q6.size
  have hc6 : w6.cell? ⟨wr.heap.size, 1, none⟩ = some (.int .i64 x2) := by
    refine (World.cell?_of_block (q6.block wr.heap.size (by omega) ?_)).trans hc1
    intro hin
    have := HCH.out.ltB _ hin
    omega
  have HD6 : Hid (ChartAt w6 wr.heap.size d vd l) := HD5.out.but q6 fun k hk hin => by
    have h1 := HD5.out.ge k hk
    have h2 := HCH.out.ltB _ hin
    omega
  have HD5L : Hid (∀ k, InChart d vd k → k < w5.heap.size) := HD5.out.ltB
  have kr := Lib.hid (retire_any w.heap.size ci v6 _ x2 w6 q1)
  have Q1 := Lib.hid q1; have Q2 := Lib.hid q2; have Q3 := Lib.hid q3; have Q4 := Lib.hid q4; have Q5 := Lib.hid q5; have Q6 := Lib.hid q6
  clear q1 q2 q3 q4 q5 q6 hto ka kc hc1
  generalize addE l ⟨9999, 1, false⟩ = E6 at *
  generalize addL l ⟨9999, 1, false⟩ = l6 at *
  go_wp2_with fail
  refine kr.out.mono ?_
  rintro e w7 ⟨rfl, hto⟩
  obtain ⟨v7, p1, p2, p3, p4, p5, p6⟩ := play_step7 (S := fun k => v.ownBlock = some k ∨ wr.heap.size ≤ k) Q4.out Q1.out hto Q2.out Q3.out (fun k hk => by
    rcases Q5.out k hk with h | h
    · exact .inl h
    · exact .inr (by omega))
  have HD7 : Hid (ChartAt w7 wr.heap.size d vd l) := HD6.out.but p6 fun k hk hin => by
    have h1 := HD5.out.ge k hk
    have h2 := HD5L.out k hk
    rcases hin with h | h
    · subst h; omega
    · rcases Q5.out k h with h | h
      · have := own_lt HCH.out.own k h; omega
      · omega
  have P2 := Lib.hid p2; have P4 := Lib.hid p4; have P6 := Lib.hid p6
  clear p1 p2 p3 p4 p5 p6 hto kr
  generalize retE l6 x2 = E7 at *
  go_wp2
  refine HQ.out _ _ _ _ _ _ _ _ _ _ _ _ _ _ _ _ _ _ _ _ _ _ _ _ _ _ _ _ _ _ _ _ _ _ _ _ _ _ _ _ _ _ _ _ _ _ _ _ _ _ _ _ _ _ _ _ _ _ _ _ _ _ _ _ _ _ _ _ _ _ _ _ _ _ _ _ _ _ _ _ _ _ _ _ _ _ _ _ _ _ _ _ _ _ _ ⟨?_, d, vd, l, A, cp, rfl, rfl, HD7.out.base hzx, P2.out, ?_, P4.out.more fun k hk => .inl (.inr (own_ge HD7.out.own k hk))⟩
  · exact ((HBEL.out.trans (HB5.out.mono hzx)).trans (Q6.out.below (fun k _ hk => HCH.out.ge k hk) (by omega))).trans (P6.out.below (fun k _ hk => Q1.out.ge k hk) (by omega))
  · intro k hk e
    have h1 := own_ge HD7.out.own k hk
    have h2 := own_lt HOWN.out k e
    omega
end Go.Proofs.YtaliipcgekhepaaGreat
