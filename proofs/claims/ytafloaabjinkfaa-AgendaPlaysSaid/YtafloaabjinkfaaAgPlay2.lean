/-
  AgendaPlays: an op of kind 2, Next.
-/
import Derived.Test.YtafloaabjinkfaaAgPlay
namespace Go.Proofs.Ytafloaabjinkfaa
open Go.RowKit Go.Sort

noncomputable def apK2 : Code := subCode [1, 1, 1, 1, 0, 1, 0, 0, 1, 0, 0, 1, 1, 1, 0, 1, 0, 1, 1, 1, 0] (Try.f3.body.getD .skip)
set_option maxRecDepth 100000 in
set_option maxHeartbeats 4000000 in
theorem apK2_any (s0 s1 s2 s5 s8 s9 s10 s11 s12 s13 s14 s15 s16 s17 s18 s19 s20 s21 s22 s23 s24 s25 s26 s27 s28 s29 s30 s31 s32 s33 s34 s35 s36 s37 s38 s39 s40 s41 s42 s43 s44 s45 s46 s47 s48 s49 s50 s51 s52 s53 s54 s55 s56 s57 s58 s59 s60 s61 s62 s63 s64 s65 s66 s67 s68 s69 s70 s71 s72 s73 s74 s75 s76 s77 s78 s79 s80 s81 s82 s83 s84 s85 s86 s87 s88 s89 s90 s91 s92 s93 s94 s95 s96 s97 s98 s99 s100 s101 s102 s103 s104 s105 s106 s107 s108 s109 s110 s111 s112 s113 s114 s115 s116 s117 s118 s119 s120 s121 s122 s123 s124 s125 s126 s127 s128 s129 s130 s131 s132 s133 s134 s135 s136 s137 s138 s139 s140 s141 s142 s143 s144 s145 s146 s147 s148 s149 s150 s151 s152 s153 s154 s155 s156 s157 s158 s159 s160 s161 s162 s163 s164 s165 s166 s167 s168 s169 s170 s171 s172 s173 s174 s175 s176 s177 s178 s179 s180 s181 s182 s183 s184 s185 s186 s187 s188 s189 s190 s191 s192 s193 s194 s195 s196 s197 s198 s199 s200 s201 s202 s203 s204 s205 s206 s207 s208 s209 s210 s211 s212 s213 s214 s215 s216 s217 s218 s219 s220 s221 s222 s223 s224 s225 s226 s227 s228 s229 s230 s231 s232 s233 s234 s235 s236 s237 s238 s239 s240 s241 s242 s243 s244 s245 s246 s247 s248 s249 s250 s251 s252 s253 s254 s255 s256 s257 s258 s259 s260 s261 s262 s263 s264 s265 s266 s267 s268 s269 s270 s271 s272 s273 : Value) (Q0 : Exit → Act → World → Prop) (L : List Itm) (rv : Value) (a ob : Nat) (o : OpR) (w0 wr : World) (hS : AgR w0 a L rv wr) (hO : OpBox wr ob o)
    (hQ : ∀ (u4 u11 u12 u159 u160 u161 u162 u163 u164 u165 u166 u167 u168 u169 u170 u171 u172 u173 u174 u175 u176 u177 u178 u179 u180 u181 u182 u183 u184 u185 u186 u187 u188 u189 u190 u191 : Value) (w' : World), AgR w0 a L.tail u4 w' → OpBox w' ob o → Q0 .normal ⟨#[s0, s1, s2, .pointer (some ⟨a, 0, none⟩), u4, s5, .pointer (some ⟨ob, 0, none⟩), .bool true, s8, s9, s10, u11, u12, s13, s14, s15, s16, s17, s18, s19, s20, s21, s22, s23, s24, s25, s26, s27, s28, s29, s30, s31, s32, s33, s34, s35, s36, s37, s38, s39, s40, s41, s42, s43, s44, s45, s46, s47, s48, s49, s50, s51, s52, s53, s54, s55, s56, s57, s58, s59, s60, s61, s62, s63, s64, s65, s66, s67, s68, s69, s70, s71, s72, s73, s74, s75, s76, s77, s78, s79, s80, s81, s82, s83, s84, s85, s86, s87, s88, s89, s90, s91, s92, s93, s94, s95, s96, s97, s98, s99, s100, s101, s102, s103, s104, s105, s106, s107, s108, s109, s110, s111, s112, s113, s114, s115, s116, s117, s118, s119, s120, s121, s122, s123, s124, s125, s126, s127, s128, s129, s130, s131, s132, s133, s134, s135, s136, s137, s138, s139, s140, s141, s142, s143, s144, s145, s146, s147, s148, s149, s150, s151, s152, s153, s154, s155, s156, s157, s158, u159, u160, u161, u162, u163, u164, u165, u166, u167, u168, u169, u170, u171, u172, u173, u174, u175, u176, u177, u178, u179, u180, u181, u182, u183, u184, u185, u186, u187, u188, u189, u190, u191, s192, s193, s194, s195, s196, s197, s198, s199, s200, s201, s202, s203, s204, s205, s206, s207, s208, s209, s210, s211, s212, s213, s214, s215, s216, s217, s218, s219, s220, s221, s222, s223, s224, s225, s226, s227, s228, s229, s230, s231, s232, s233, s234, s235, s236, s237, s238, s239, s240, s241, s242, s243, s244, s245, s246, s247, s248, s249, s250, s251, s252, s253, s254, s255, s256, s257, s258, s259, s260, s261, s262, s263, s264, s265, s266, s267, s268, s269, s270, s271, s272, s273], []⟩ w') :
    Code.wp Try.prog apK2 Q0 ⟨#[s0, s1, s2, .pointer (some ⟨a, 0, none⟩), rv, s5, .pointer (some ⟨ob, 0, none⟩), .bool true, s8, s9, s10, s11, s12, s13, s14, s15, s16, s17, s18, s19, s20, s21, s22, s23, s24, s25, s26, s27, s28, s29, s30, s31, s32, s33, s34, s35, s36, s37, s38, s39, s40, s41, s42, s43, s44, s45, s46, s47, s48, s49, s50, s51, s52, s53, s54, s55, s56, s57, s58, s59, s60, s61, s62, s63, s64, s65, s66, s67, s68, s69, s70, s71, s72, s73, s74, s75, s76, s77, s78, s79, s80, s81, s82, s83, s84, s85, s86, s87, s88, s89, s90, s91, s92, s93, s94, s95, s96, s97, s98, s99, s100, s101, s102, s103, s104, s105, s106, s107, s108, s109, s110, s111, s112, s113, s114, s115, s116, s117, s118, s119, s120, s121, s122, s123, s124, s125, s126, s127, s128, s129, s130, s131, s132, s133, s134, s135, s136, s137, s138, s139, s140, s141, s142, s143, s144, s145, s146, s147, s148, s149, s150, s151, s152, s153, s154, s155, s156, s157, s158, s159, s160, s161, s162, s163, s164, s165, s166, s167, s168, s169, s170, s171, s172, s173, s174, s175, s176, s177, s178, s179, s180, s181, s182, s183, s184, s185, s186, s187, s188, s189, s190, s191, s192, s193, s194, s195, s196, s197, s198, s199, s200, s201, s202, s203, s204, s205, s206, s207, s208, s209, s210, s211, s212, s213, s214, s215, s216, s217, s218, s219, s220, s221, s222, s223, s224, s225, s226, s227, s228, s229, s230, s231, s232, s233, s234, s235, s236, s237, s238, s239, s240, s241, s242, s243, s244, s245, s246, s247, s248, s249, s250, s251, s252, s253, s254, s255, s256, s257, s258, s259, s260, s261, s262, s263, s264, s265, s266, s267, s268, s269, s270, s271, s272, s273], []⟩ wr := by
  obtain ⟨v, hA, hR, hB⟩ := hS
  have HQ := Lib.hid hQ; have HB := Lib.hid hB; have HO := Lib.hid hO
  clear hQ hB hO
  refine wp_onEndA ?_
  conv => arg 2; whnf
  conv => arg 4; dsimp only
  obtain ⟨A, c, rfl, hnc, hc63, hnil⟩ := hR.len
  cases L with
  | nil =>
    have KN := Lib.hid (agNext_none hA)
    have HA := Lib.hid hA; have HR := Lib.hid hR
    clear hA hR
    go_wp2_with fail
    refine KN.out.mono ?_
    rintro e w1 ⟨rfl, hb1⟩
    have HB1 := Lib.hid hb1
    clear hb1
    go_wp2_with fail
    have HB2 : Hid (Below wr.heap.size wr (w1.alloc (.cells #[.int .i64 0, .int .i64 0, .int .i64 0] 33))) := HB1.out.alloc HB1.out.size _
    exact HQ.out _ _ _ _ _ _ _ _ _ _ _ _ _ _ _ _ _ _ _ _ _ _ _ _ _ _ _ _ _ _ _ _ _ _ _ _ _ ⟨v, HA.out.below HB2.out, HR.out.below HB2.out, HB.out.trans (HB2.out.mono HB.out.size)⟩ (HO.out.below HB2.out)
  | cons x r =>
    have KN := Lib.hid (agNext_some hA)
    have HA := Lib.hid hA; have HR := Lib.hid hR
    clear hA hR
    go_wp2_with fail
    refine KN.out.mono ?_
    rintro e w1 ⟨rfl, T⟩
    have HT := Lib.hid T
    clear T
    have hlI : (((x :: r).length : Nat) : Int) > 0 := by simp
    go_wp2_with fail
    obtain ⟨W2, hW2⟩ : ∃ W2, w1.alloc (.cells #[.int .i64 x.per, .int .i64 x.rk, .int .i64 x.id] 33) = W2 := ⟨_, rfl⟩
    have hb2 : Below w1.heap.size w1 W2 := by rw [← hW2]; exact (Below.refl _ _).alloc (Nat.le_refl _) _
    have hx := heap_new w1 (.cells #[.int .i64 x.per, .int .i64 x.rk, .int .i64 x.id] 33)
    rw [hW2] at hx
    obtain ⟨x0, x1, x2⟩ := cells3_regrown hx
    have hR2 := (HR.out.to HA.out HT.out.to).below hb2
    have hO2 := (HO.out.to HA.out HT.out.to).below hb2
    have hB2 := HB.out.trans ((HT.out.to.bel HA.out HB.out.size).trans (hb2.mono (Nat.le_trans HB.out.size (by obtain ⟨_, _, hb, _⟩ := HT.out; exact hb.size))))
    obtain ⟨v1, hA1, _⟩ := HT.out
    have hA2 := hA1.below hb2
    obtain ⟨A', c', e, hRd, _⟩ := hR2
    injection e with e1 _ e3
    subst e1 e3
    obtain ⟨ad, y, rfl, _, hy, p0, p1, p2⟩ := hRd.itm (i := 0) (by simp)
    simp at hy
    subst hy
    have p1' := cell_behind p1 (by omega)
    have p2' := cell_behind p2 (by omega)
    have e0 : ad.add (0 * 3) = ad := by simp [Addr.add]
    rw [e0] at p0 p1' p2'
    clear e0
    have HR2 := Lib.hid ((HR.out.to HA.out HT.out.to).below hb2); have HO2 := Lib.hid hO2; have HB2 := Lib.hid hB2; have HA2 := Lib.hid hA2
    rw [hW2]
    clear hx hO2 hB2 hA1 hA2 hRd p1 p2 hW2 hb2
    go_big_quiet (fail)
    generalize hW3 : W2.drewN nq = W3
    have hb3 : Below W2.heap.size W2 W3 := by rw [← hW3]; exact below_drewN (Below.refl _ _) nq
    have HA3 := Lib.hid (HA2.out.below hb3); have HO3 := Lib.hid (HO2.out.below hb3); have HB3 := Lib.hid (HB2.out.trans (hb3.mono HB2.out.size))
    have hd := (HR2.out.below hb3).drop (k := 1) (by simp)
    clear hb3 hW3 p0 p1' p2' x0 x1 x2
    have hl1 : (1 : Int) ≤ ((x :: r).length : Int) := by simp; omega
    have hl2 : (x :: r).length = r.length + 1 := rfl
    rw [hl2] at hnc hd
    by_cases hc1 : c = 1
    · subst hc1
      rw [if_pos rfl, show r.length + 1 - 1 = 0 by omega] at hd
      have HD := Lib.hid hd
      clear hd
      go_wp2_with fail
      exact HQ.out _ _ _ _ _ _ _ _ _ _ _ _ _ _ _ _ _ _ _ _ _ _ _ _ _ _ _ _ _ _ _ _ _ _ _ _ _ ⟨v1, HA3.out, HD.out, HB3.out⟩ HO3.out
    · rw [if_neg hc1] at hd
      have HD := Lib.hid hd
      have h1c : 1 ≤ c := by omega
      clear hd
      go_wp2_with fail
      exact HQ.out _ _ _ _ _ _ _ _ _ _ _ _ _ _ _ _ _ _ _ _ _ _ _ _ _ _ _ _ _ _ _ _ _ _ _ _ _ ⟨v1, HA3.out, HD.out, HB3.out⟩ HO3.out
end Go.Proofs.Ytafloaabjinkfaa
