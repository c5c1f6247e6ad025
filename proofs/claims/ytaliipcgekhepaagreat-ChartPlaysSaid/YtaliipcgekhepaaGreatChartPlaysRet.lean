/-
  ChartPlays: an account that is retired.
-/
import Derived.Test.YtaliipcgekhepaaGreatChartPlaysRetLoop
namespace Go.Proofs.YtaliipcgekhepaaGreat
open Go.RowKit

set_option maxRecDepth 100000 in
set_option maxHeartbeats 4000000 in
theorem cpIf_ret (s4 s5 s6 s7 s8 s9 s11 s13 s14 s17 s18 s19 s20 s21 s22 s23 s24 s25 s26 s27 s28 s29 s30 s31 s32 s33 s34 s35 s36 s37 s38 s39 s40 s41 s42 s43 s44 s45 s46 s47 s48 s49 s50 s51 s52 s53 s54 s55 s56 s57 s58 s59 s60 s61 s62 s63 s64 s65 s66 s67 s68 s69 s70 s71 s72 s73 s74 s75 s76 s77 s78 s79 s80 s81 s82 s83 s84 s85 s86 s87 s88 s89 s90 s91 s92 s93 s94 s95 s96 s97 s98 s99 s100 s101 s102 s103 s104 s105 s106 s107 s108 s109 s110 s111 s112 s113 s114 s116 s117 s118 s119 s120 s121 s122 s123 s124 s125 s126 s127 s128 s129 s130 s131 s132 s133 s134 s135 s136 s137 s138 s139 s140 s141 s142 s143 s144 s145 s146 s147 s148 s149 s150 s151 s152 s153 s154 s155 s156 s157 s158 s159 s160 s161 s162 s163 s164 s165 s166 s167 s168 s169 s170 s171 s172 s173 s174 s175 s176 s177 s178 s179 s180 s181 s182 s183 s184 s185 s186 s187 s188 s189 s190 s191 s192 s193 s194 s195 s196 s197 s198 s199 s200 s201 s202 s203 s204 s205 s206 s207 s208 s209 s210 s211 s212 s213 s214 s215 s216 s217 s218 s219 s220 s221 s222 s223 s224 s225 s226 s227 s228 s229 s230 s231 s232 s233 s234 s235 s236 s237 s238 s239 s240 s241 s242 s243 s244 s245 s246 s247 s248 s249 s250 s251 s252 s253 s254 s255 s256 s257 s258 s259 s260 s261 s262 s263 s264 s265 s266 s267 s268 s269 s270 s271 s272 s273 s274 s275 s276 s277 s278 s279 s280 s281 s282 s283 s284 s285 s286 s287 s288 s289 s290 s291 s292 s293 s294 s295 s296 s297 s298 s299 s300 s301 s302 s303 s304 s305 s306 s307 s308 s309 s310 s311 s312 s313 s314 s315 s316 s317 s318 s319 s320 s321 s322 s323 s324 s325 s326 s327 s328 s329 s330 s331 s332 s333 s334 s335 s336 s337 s338 s339 s340 s341 s342 s343 s344 s345 s346 s347 s348 s349 s350 s351 s352 s353 : Value) (Q0 : Exit → Act → World → Prop) (ops : List COp) (A0 A1 A2 A3 : Option Addr) (n0 n1 n2 n3 c0 c1 c2 c3 b m : Nat) (im : Int) (t : Bool) (w wr : World) (cv rv : Value) (him : im = (m : Int)) (ht : t = decide (0 < im))
    (h1 : Rd w w.heap.size 3 A1 n1 (ops.flatMap COp.cells)) (hn1 : n1 ≤ 40) (hplay : Play w wr b cv rv m) (hmn : m ≤ n1)
    (hQ : ∀ (u10 u12 u17 u18 u19 u20 u21 u22 u116 u117 u118 u119 u120 u121 u122 u123 u124 u125 u126 u127 u128 u129 u130 u131 u132 u133 u134 u135 u136 u137 u138 u139 u140 u141 u142 u143 u144 u145 u146 u147 u148 u149 u150 u151 u152 u153 u154 u155 u156 u157 u158 u159 u160 u161 u162 u163 u164 u165 u166 u167 u168 u169 u170 u171 u172 u173 u174 u175 u176 u177 u178 u179 u180 u181 u182 u183 u184 u185 u186 u187 u188 u189 u190 u191 u192 u193 u194 u195 u196 u197 u198 u199 u200 u201 : Value) (w' : World), Play w w' b u10 u12 m → Q0 .normal ⟨#[.slice A0 n0 c0, .slice A1 n1 c1, .slice A2 n2 c2, .slice A3 n3 c3, s4, s5, s6, s7, s8, s9, u10, s11, u12, s13, s14, .pointer (some ⟨b, 0, none⟩), .int .i64 im, u17, u18, u19, u20, u21, u22, s23, s24, s25, s26, s27, s28, s29, s30, s31, s32, s33, s34, s35, s36, s37, s38, s39, s40, s41, s42, s43, s44, s45, s46, s47, s48, s49, s50, s51, s52, s53, s54, s55, s56, s57, s58, s59, s60, s61, s62, s63, s64, s65, s66, s67, s68, s69, s70, s71, s72, s73, s74, s75, s76, s77, s78, s79, s80, s81, s82, s83, s84, s85, s86, s87, s88, s89, s90, s91, s92, s93, s94, s95, s96, s97, s98, s99, s100, s101, s102, s103, s104, s105, s106, s107, s108, s109, s110, s111, s112, s113, s114, .bool t, u116, u117, u118, u119, u120, u121, u122, u123, u124, u125, u126, u127, u128, u129, u130, u131, u132, u133, u134, u135, u136, u137, u138, u139, u140, u141, u142, u143, u144, u145, u146, u147, u148, u149, u150, u151, u152, u153, u154, u155, u156, u157, u158, u159, u160, u161, u162, u163, u164, u165, u166, u167, u168, u169, u170, u171, u172, u173, u174, u175, u176, u177, u178, u179, u180, u181, u182, u183, u184, u185, u186, u187, u188, u189, u190, u191, u192, u193, u194, u195, u196, u197, u198, u199, u200, u201, s202, s203, s204, s205, s206, s207, s208, s209, s210, s211, s212, s213, s214, s215, s216, s217, s218, s219, s220, s221, s222, s223, s224, s225, s226, s227, s228, s229, s230, s231, s232, s233, s234, s235, s236, s237, s238, s239, s240, s241, s242, s243, s244, s245, s246, s247, s248, s249, s250, s251, s252, s253, s254, s255, s256, s257, s258, s259, s260, s261, s262, s263, s264, s265, s266, s267, s268, s269, s270, s271, s272, s273, s274, s275, s276, s277, s278, s279, s280, s281, s282, s283, s284, s285, s286, s287, s288, s289, s290, s291, s292, s293, s294, s295, s296, s297, s298, s299, s300, s301, s302, s303, s304, s305, s306, s307, s308, s309, s310, s311, s312, s313, s314, s315, s316, s317, s318, s319, s320, s321, s322, s323, s324, s325, s326, s327, s328, s329, s330, s331, s332, s333, s334, s335, s336, s337, s338, s339, s340, s341, s342, s343, s344, s345, s346, s347, s348, s349, s350, s351, s352, s353], []⟩ w') (x1 x2 x3 : Int) (k : Nat) (hmk : m = k + 1) (ho : ops[k]? = some ⟨x1, x2, x3⟩) (hx : x1 = 2) :
    Code.wp Tryz.prog cpIf Q0 ⟨#[.slice A0 n0 c0, .slice A1 n1 c1, .slice A2 n2 c2, .slice A3 n3 c3, s4, s5, s6, s7, s8, s9, cv, s11, rv, s13, s14, .pointer (some ⟨b, 0, none⟩), .int .i64 im, s17, s18, s19, s20, s21, s22, s23, s24, s25, s26, s27, s28, s29, s30, s31, s32, s33, s34, s35, s36, s37, s38, s39, s40, s41, s42, s43, s44, s45, s46, s47, s48, s49, s50, s51, s52, s53, s54, s55, s56, s57, s58, s59, s60, s61, s62, s63, s64, s65, s66, s67, s68, s69, s70, s71, s72, s73, s74, s75, s76, s77, s78, s79, s80, s81, s82, s83, s84, s85, s86, s87, s88, s89, s90, s91, s92, s93, s94, s95, s96, s97, s98, s99, s100, s101, s102, s103, s104, s105, s106, s107, s108, s109, s110, s111, s112, s113, s114, .bool t, s116, s117, s118, s119, s120, s121, s122, s123, s124, s125, s126, s127, s128, s129, s130, s131, s132, s133, s134, s135, s136, s137, s138, s139, s140, s141, s142, s143, s144, s145, s146, s147, s148, s149, s150, s151, s152, s153, s154, s155, s156, s157, s158, s159, s160, s161, s162, s163, s164, s165, s166, s167, s168, s169, s170, s171, s172, s173, s174, s175, s176, s177, s178, s179, s180, s181, s182, s183, s184, s185, s186, s187, s188, s189, s190, s191, s192, s193, s194, s195, s196, s197, s198, s199, s200, s201, s202, s203, s204, s205, s206, s207, s208, s209, s210, s211, s212, s213, s214, s215, s216, s217, s218, s219, s220, s221, s222, s223, s224, s225, s226, s227, s228, s229, s230, s231, s232, s233, s234, s235, s236, s237, s238, s239, s240, s241, s242, s243, s244, s245, s246, s247, s248, s249, s250, s251, s252, s253, s254, s255, s256, s257, s258, s259, s260, s261, s262, s263, s264, s265, s266, s267, s268, s269, s270, s271, s272, s273, s274, s275, s276, s277, s278, s279, s280, s281, s282, s283, s284, s285, s286, s287, s288, s289, s290, s291, s292, s293, s294, s295, s296, s297, s298, s299, s300, s301, s302, s303, s304, s305, s306, s307, s308, s309, s310, s311, s312, s313, s314, s315, s316, s317, s318, s319, s320, s321, s322, s323, s324, s325, s326, s327, s328, s329, s330, s331, s332, s333, s334, s335, s336, s337, s338, s339, s340, s341, s342, s343, s344, s345, s346, s347, s348, s349, s350, s351, s352, s353], []⟩ wr := by
  subst hmk
  have ht2 : t = true := by rw [ht, him]; simp <;> omega
  subst ht2
  clear ht
  have HQ := Lib.hid hQ
  obtain ⟨hbel, ci, v, l, A, cp, rfl, rfl, hch, hown, hsep, hk⟩ := hplay
  have hzx := hbel.size
  have hlen := hch.good.len
  have hgood := Lib.hid hch.good
  obtain ⟨ad, rfl, hbo, p1', p2', p3'⟩ : ∃ ad, A1 = some ad ∧ ad.block < w.heap.size ∧ wr.cell? (ad.add (k * 3)) = some (.int .i64 x1) ∧ wr.cell? (ad.add (k * 3 + 1)) = some (.int .i64 x2) ∧ wr.cell? (ad.add (k * 3 + 2)) = some (.int .i64 x3) := by
    obtain ⟨ad, o, e, hbo, ho2, hcells⟩ := (h1.below hbel).flat (cells := COp.cells) (fun _ => rfl) (by omega) (i := k) (by omega)
    rw [ho] at ho2
    injection ho2 with ho2
    subst ho2
    exact ⟨ad, e, hbo, hcells 0 _ rfl, hcells 1 _ rfl, hcells 2 _ rfl⟩
  have p2 := cell_behind p2' (by omega)
  have p3 := cell_behind p3' (by omega)
  have HCH := Lib.hid hch; have HOWN := Lib.hid hown; have HSEP := Lib.hid hsep; have HK := Lib.hid hk; have HBEL := Lib.hid hbel
  have hI : im - 1 = (k : Int) := by omega
  have HIM := Lib.hid him
  have hmI2 : (k : Int) < (n1 : Int) := by omega
  have hclt := hch.lt
  clear hch hown hsep hk hbel p2' p3' ho hQ h1 him
  conv => arg 2; whnf
  subst hx
  have t0 : ((2 : Int) == 1) = false := by decide
  have kg := fun (W : World) (hb : Below wr.heap.size wr W) => refAccount_any l x2 A l.length cp _ W ((rd_of_own HOWN.out).below hb) hb.size (by omega)
  have ka := Lib.hid fun (W : World) (hb : Below wr.heap.size wr W) => retire_any w.heap.size ci v l x2 W (HCH.out.below hb)
  have HRG := Lib.hid (ret_get l x2)
  unfold getV at kg
  generalize (findA l x2).getD acc0 = y at *
  generalize (findA l x2).isSome = t at *
  generalize hE : retE l x2 = E at *
  obtain ⟨y1, y2, y3⟩ := y
  unfold Acc.val at kg
  have KG := Lib.hid kg
  clear hE kg
  go_wp2_with fail
  refine (KG.out _ (by first | exact ((Below.refl _ _).alloc (Nat.le_refl _) _) | exact ((((Below.refl _ _).alloc (Nat.le_refl _) _).setCell (by simp) _).setCell (by simp) _).setCell (by simp) _)).mono ?_
  rintro e w5 ⟨rfl, hb5⟩
  have hc1 : w5.cell? ⟨wr.heap.size, 1, none⟩ = some (.int .i64 x2) := by rw [hb5.cell (by simp)]; simp [go_sem]
  have hb5' : Below wr.heap.size wr w5 := ((Below.refl _ _).alloc (Nat.le_refl _) _).trans (hb5.mono (by simp))
  have hz5 : wr.heap.size + 1 ≤ w5.heap.size := by have := hb5.size; simpa using this
  have hz5' : wr.heap.size < w5.heap.size := by omega
  have hc1' : ∀ o, (w5.alloc o).cell? ⟨wr.heap.size, 1, none⟩ = some (.int .i64 x2) := fun o => (Below.cell ((Below.refl w5.heap.size w5).alloc (Nat.le_refl _) o) (p := ⟨wr.heap.size, 1, none⟩) hz5').trans hc1
  have HB5 := Lib.hid hb5'
  have KA : Hid (∀ W, Below w5.heap.size w5 W → Calls Tryz.prog 11 #[.pointer (some ⟨ci, 0, none⟩), .int .i64 x2] W fun e w6 => e = .returned (.int .i64 E) ∧ Retd w wr b ci l A cp x2 (k + 1) w6) := by
    intro W hW
    have hWb : Below wr.heap.size wr W := HB5.out.trans (hW.mono (by omega))
    refine (ka.out W hWb).mono ?_
    rintro e w6 ⟨rfl, hto⟩
    refine ⟨rfl, ?_⟩
    obtain ⟨v6, q1, q2, q3, q4, q5, q6⟩ := play_step (S := fun k => v.ownBlock = some k ∨ W.heap.size ≤ k) ((HK.out.below hWb).more fun k hk => hk) (HCH.out.below hWb) hto (own_kept HOWN.out fun q hq _ => hWb.block q hq) HSEP.out (fun k hk => .inl hk) (fun k hk => .inr hk)
    refine ⟨v6, q1, q2, q3, q4.more fun k hk => .inl (q5 k hk), ?_, ?_⟩
    · have h1 : W.cell? ⟨wr.heap.size, 1, none⟩ = some (.int .i64 x2) := (hW.cell (p := ⟨wr.heap.size, 1, none⟩) (by show wr.heap.size < _; omega)).trans hc1
      refine (World.cell?_of_block ?_).trans h1
      refine q6.block wr.heap.size (Nat.lt_of_lt_of_le (by omega) hW.size) ?_
      intro hin
      have := HCH.out.ltB _ hin
      omega
    · exact (HBEL.out.trans (hWb.mono hzx)).trans (q6.below (fun k _ hk => HCH.out.ge k hk) (Nat.le_trans hzx hWb.size))
  clear hb5 hb5' ka
  have hretl := Lib.hid (retL_len l x2)
  have hcase : (t = false ∧ E = 9) ∨ (t = true ∧ y3 = true ∧ E = 5) ∨ (t = true ∧ y3 = false ∧ E = 0) := by
    have := HRG.out
    cases t
    · exact .inl ⟨rfl, this⟩
    · cases y3
      · exact .inr (.inr ⟨rfl, rfl, this⟩)
      · exact .inr (.inl ⟨rfl, rfl, this⟩)
  clear HRG
  rcases hcase with ⟨rfl, rfl⟩ | ⟨rfl, rfl, rfl⟩ | ⟨rfl, rfl, rfl⟩
  all_goals
    go_wp2_with fail
    refine (KA.out _ (by first | exact ((Below.refl _ _).alloc (Nat.le_refl _) _) | exact ((((Below.refl _ _).alloc (Nat.le_refl _) _).setCell (by simp) _).setCell (by simp) _).setCell (by simp) _)).mono ?_
    rintro e w6 ⟨rfl, v6, q1, q2, q3, q4, q5, q6⟩
    have hz6 := q6.size
    obtain ⟨r7, w7, hrun, ho7, hg7, _⟩ := append_fresh (P := Tryz.prog) (w := w6) (ty := 22) (c := cp) infoAcc Tryz.underlying22 rfl (by omega) w6.heap.size (.slice none 0 0) 0 [] (World.ownsRow_nil _ _ _ _) (rd_of_own q2) (accs_one _) (by unfold maxLen; omega) (by omega) (Nat.le_refl _)
    rw [Nat.zero_add, List.nil_append] at ho7
    have hb7 : Below w6.heap.size w6 w7 := (Below.refl _ _).grown hg7 (Nat.le_refl _) (fun k h => by cases h)
    obtain ⟨A7, c7, rfl⟩ := own_form ho7
    have HR := Lib.hid hrun; have HO7 := Lib.hid ho7; have HB7 := Lib.hid hb7; have Q1 := Lib.hid q1; have Q3 := Lib.hid q3; have Q4 := Lib.hid q4; have Q6 := Lib.hid q6; have Q5 := Lib.hid q5
    clear hrun ho7 hb7 hg7 q1 q2 q3 q4 q5 q6 KA
    generalize hN : l.length = N at *
    have HN := Lib.hid hN
    clear hN
    go_wp2_with (at_builtin; refine wpList_append_run rfl _ _ _ rfl _ _ _ _ rfl rfl HR.out ?_)
    refine cpRetLoop_any _ _ _ _ _ _ _ _ _ _ _ _ _ _ _ _ _ _ _ _ _ _ _ _ _ _ _ _ _ _ _ _ _ _ _ _ _ _ _ _ _ _ _ _ _ _ _ _ _ _ _ _ _ _ _ _ _ _ _ _ _ _ _ _ _ _ _ _ _ _ _ _ _ _ _ _ _ _ _ _ _ _ _ _ _ _ _ _ _ _ _ _ _ _ _ _ _ _ _ _ _ _ _ _ _ _ _ _ _ _ _ _ _ _ _ _ _ _ _ _ _ _ _ _ _ _ _ _ _ _ _ _ _ _ _ _ _ _ _ _ _ _ _ _ _ _ _ _ _ _ _ _ _ _ _ _ _ _ _ _ _ _ _ _ _ _ _ _ _ _ _ _ _ _ _ _ _ _ _ _ _ _ _ _ _ _ _ _ _ _ _ _ _ _ _ _ _ _ _ _ _ _ _ _ _ _ _ _ _ _ _ _ _ _ _ _ _ _ _ _ _ _ _ _ _ _ _ _ _ _ _ _ _ _ _ _ _ _ _ _ _ _ _ _ _ _ _ _ _ _ _ _ _ _ _ _ _ _ _ _ _ _ _ _ _ _ _ _ _ _ _ _ _ _ _ _ _ _ _ _ _ _ _ _ _ _ _ _ _ _ _ _ _ _ _ _ _ _ _ _ _ _ _ _ _ _ _ _ _ _ _ _ _ _ _ _ _ _ _ _ _ _ _ _ _ _ _ _ _ _ _ _ _ _ _ _ _ _ _ _ _ _ _ _ _ _ _ _ _ _ _ _ A7 N c7 wr.heap.size l x2 w6 w7 HN.out (by omega) HO7.out HB7.out Q5.out ?_
    intro u21 u177 u178 u179 u180 u181 u182 u183 u184 u185 u186 u187 u188 u189 u190 u191 u192 u193 u194 u195 u196 u197 u198 u199 u200 u201 w8 ho hbJ
    have HOX := Lib.hid ho
    have HBJ := Lib.hid hbJ
    clear ho hbJ
    go_wp2
    have hrl : (retL l x2).length = N := hretl.out
    refine HQ.out _ _ _ _ _ _ _ _ _ _ _ _ _ _ _ _ _ _ _ _ _ _ _ _ _ _ _ _ _ _ _ _ _ _ _ _ _ _ _ _ _ _ _ _ _ _ _ _ _ _ _ _ _ _ _ _ _ _ _ _ _ _ _ _ _ _ _ _ _ _ _ _ _ _ _ _ _ _ _ _ _ _ _ _ _ _ _ _ _ _ _ _ _ _ _ ⟨Q6.out.trans (HBJ.out.mono hz6), ci, v6, retL l x2, A7, c7, rfl, by rw [hrl], Q1.out.below HBJ.out, by rw [hrl]; exact own_base HOX.out hz6, ?_, Q4.out.below HBJ.out⟩
    intro q hq e
    have h1 := own_lt Q1.out.own q hq
    rw [hrl] at e
    have h2 := own_ge HOX.out q e
    omega
end Go.Proofs.YtaliipcgekhepaaGreat
