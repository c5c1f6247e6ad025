/-
  AgendaPlays: an op of kind 1: the reference's puts.
-/
import Derived.Test.YtafloaabjinkfaaAgPlay1
import Derived.Test.YtafloaabjinkfaaQuietTail
namespace Go.Proofs.Ytafloaabjinkfaa
open Go.RowKit Go.Sort

noncomputable def apK1b : Code := subCode [1, 1, 1, 1, 0, 1, 0, 0, 1, 0, 0, 1, 1, 1, 0, 1, 0, 1, 0, 1, 0] (Try.f3.body.getD .skip)
set_option maxRecDepth 100000 in
set_option maxHeartbeats 4000000 in
theorem apK1b_any (s0 s1 s2 s3 s5 s7 s8 s9 s10 s11 s12 s13 s14 s15 s16 s17 s18 s19 s20 s21 s22 s23 s24 s25 s26 s27 s28 s29 s30 s31 s32 s33 s34 s35 s36 s37 s38 s39 s40 s41 s42 s43 s44 s45 s46 s47 s48 s49 s50 s51 s52 s53 s54 s55 s56 s57 s58 s59 s60 s61 s62 s63 s64 s65 s66 s67 s68 s69 s70 s71 s72 s73 s74 s75 s76 s77 s78 s79 s80 s81 s82 s83 s84 s85 s86 s87 s88 s89 s90 s91 s92 s93 s94 s95 s96 s97 s98 s99 s100 s101 s102 s103 s104 s105 s106 s107 s108 s109 s110 s111 s112 s113 s114 s115 s116 s117 s118 s119 s120 s121 s122 s123 s124 s125 s126 s127 s128 s129 s130 s131 s132 s133 s134 s135 s136 s137 s138 s139 s140 s141 s142 s143 s144 s145 s146 s147 s148 s149 s150 s151 s152 s153 s154 s155 s156 s157 s158 s159 s160 s161 s162 s163 s164 s165 s166 s167 s168 s169 s170 s171 s172 s173 s174 s175 s176 s177 s178 s179 s180 s181 s182 s183 s184 s185 s186 s187 s188 s189 s190 s191 s192 s193 s194 s195 s196 s197 s198 s199 s200 s201 s202 s203 s204 s205 s206 s207 s208 s209 s210 s211 s212 s213 s214 s215 s216 s217 s218 s219 s220 s221 s222 s223 s224 s225 s226 s227 s228 s229 s230 s231 s232 s233 s234 s235 s236 s237 s238 s239 s240 s241 s242 s243 s244 s245 s246 s247 s248 s249 s250 s251 s252 s253 s254 s255 s256 s257 s258 s259 s260 s261 s262 s263 s264 s265 s266 s267 s268 s269 s270 s271 s272 s273 : Value) (Q0 : Exit → Act → World → Prop) (L : List Itm) (rv : Value) (ob p B : Nat) (o : OpR) (wq : World) (hO : OpBox wq ob o) (hL : L.length ≤ 1000)
    (hR : RefAt wq L rv) (hD : Rd wq B 3 o.A p (itms o.l)) (hB : B ≤ wq.heap.size) (h30 : p ≤ 30)
    (hQ : ∀ (u4 u9 u91 u92 u93 u94 u95 u96 u97 u98 u99 u100 u101 u102 u103 u104 u105 u106 u107 u108 u109 u110 u111 u112 u113 u114 u115 u116 u117 u118 : Value) (w' : World), RefAt w' (putsI L o.l) u4 → Below wq.heap.size wq w' → Q0 .normal ⟨#[s0, s1, s2, s3, u4, s5, .pointer (some ⟨ob, 0, none⟩), s7, s8, u9, s10, s11, s12, s13, s14, s15, s16, s17, s18, s19, s20, s21, s22, s23, s24, s25, s26, s27, s28, s29, s30, s31, s32, s33, s34, s35, s36, s37, s38, s39, s40, s41, s42, s43, s44, s45, s46, s47, s48, s49, s50, s51, s52, s53, s54, s55, s56, s57, s58, s59, s60, s61, s62, s63, s64, s65, s66, s67, s68, s69, s70, s71, s72, s73, s74, s75, s76, s77, s78, s79, s80, s81, s82, s83, s84, s85, s86, s87, s88, s89, s90, u91, u92, u93, u94, u95, u96, u97, u98, u99, u100, u101, u102, u103, u104, u105, u106, u107, u108, u109, u110, u111, u112, u113, u114, u115, u116, u117, u118, s119, s120, s121, s122, s123, s124, s125, s126, s127, s128, s129, s130, s131, s132, s133, s134, s135, s136, s137, s138, s139, s140, s141, s142, s143, s144, s145, s146, s147, s148, s149, s150, s151, s152, s153, s154, s155, s156, s157, s158, s159, s160, s161, s162, s163, s164, s165, s166, s167, s168, s169, s170, s171, s172, s173, s174, s175, s176, s177, s178, s179, s180, s181, s182, s183, s184, s185, s186, s187, s188, s189, s190, s191, s192, s193, s194, s195, s196, s197, s198, s199, s200, s201, s202, s203, s204, s205, s206, s207, s208, s209, s210, s211, s212, s213, s214, s215, s216, s217, s218, s219, s220, s221, s222, s223, s224, s225, s226, s227, s228, s229, s230, s231, s232, s233, s234, s235, s236, s237, s238, s239, s240, s241, s242, s243, s244, s245, s246, s247, s248, s249, s250, s251, s252, s253, s254, s255, s256, s257, s258, s259, s260, s261, s262, s263, s264, s265, s266, s267, s268, s269, s270, s271, s272, s273], []⟩ w') :
    Code.wp Try.prog apK1b Q0 ⟨#[s0, s1, s2, s3, rv, s5, .pointer (some ⟨ob, 0, none⟩), s7, s8, s9, s10, s11, s12, s13, s14, s15, s16, s17, s18, s19, s20, s21, s22, s23, s24, s25, s26, s27, s28, s29, s30, s31, s32, s33, s34, s35, s36, s37, s38, s39, s40, s41, s42, s43, s44, s45, s46, s47, s48, s49, s50, s51, s52, s53, s54, s55, s56, s57, s58, s59, s60, s61, s62, s63, s64, s65, s66, s67, s68, s69, s70, s71, s72, s73, s74, s75, s76, s77, s78, s79, s80, s81, s82, s83, s84, s85, s86, s87, s88, s89, s90, s91, s92, s93, s94, s95, s96, s97, s98, s99, s100, s101, s102, s103, s104, s105, s106, s107, s108, s109, s110, s111, s112, s113, s114, s115, s116, s117, s118, s119, s120, s121, s122, s123, s124, s125, s126, s127, s128, s129, s130, s131, s132, s133, s134, s135, s136, s137, s138, s139, s140, s141, s142, s143, s144, s145, s146, s147, s148, s149, s150, s151, s152, s153, s154, s155, s156, s157, s158, s159, s160, s161, s162, s163, s164, s165, s166, s167, s168, s169, s170, s171, s172, s173, s174, s175, s176, s177, s178, s179, s180, s181, s182, s183, s184, s185, s186, s187, s188, s189, s190, s191, s192, s193, s194, s195, s196, s197, s198, s199, s200, s201, s202, s203, s204, s205, s206, s207, s208, s209, s210, s211, s212, s213, s214, s215, s216, s217, s218, s219, s220, s221, s222, s223, s224, s225, s226, s227, s228, s229, s230, s231, s232, s233, s234, s235, s236, s237, s238, s239, s240, s241, s242, s243, s244, s245, s246, s247, s248, s249, s250, s251, s252, s253, s254, s255, s256, s257, s258, s259, s260, s261, s262, s263, s264, s265, s266, s267, s268, s269, s270, s271, s272, s273], []⟩ wq := by
  have hp := hD.itms_len
  have HQ := Lib.hid hQ; have HR := Lib.hid hR; have HD := Lib.hid hD
  have hob := hO
  unfold OpBox at hob
  rw [hp] at hob
  have HOB := Lib.hid hob
  have HP := Lib.hid hp
  clear hQ hO hR hD hob hp
  refine wp_onEndA ?_
  conv => arg 2; whnf
  conv => arg 4; dsimp only
  go_wp2_with fail
  go_loopw [9, 4] (fun kv sv wr2 => ∃ k : Nat, k ≤ p ∧ kv = .int .i64 k ∧ RefAt wr2 (putsI L (o.l.take k)) sv ∧ Below wq.heap.size wq wr2) (fun kv _ _ => p - (intOf kv).toNat)
  case atStart => exact ⟨0, Nat.zero_le _, rfl, HR.out, Below.refl _ _⟩
  case round =>
    obtain ⟨k, hk, rfl, href, hbel⟩ := hrel
    have hbox := (hbel.block _ (lt_of_blk HOB.out)).trans HOB.out
    have b2 := cell_of hbox 2
    simp only [List.getElem?_toArray, List.getElem?_cons_zero, List.getElem?_cons_succ] at b2
    by_cases hlt : k < p
    · have hkI : (k : Int) < (p : Int) := by omega
      obtain ⟨ad, x, e, _, hx, p0, p1, p2⟩ := (HD.out.below (hbel.mono hB)).itm hlt
      have p1' := cell_behind p1 (by omega)
      have p2' := cell_behind p2 (by omega)
      have HX := Lib.hid hx; have HBEL := Lib.hid hbel; have HREF := Lib.hid href
      have hpl : (putsI L (o.l.take k)).length ≤ 1000000 := by rw [putsI_len _ _ hL]; omega
      rw [e] at b2
      clear hx hbel href hbox p1 p2
      go_wp2_with fail
      refine wp_region_drew_tail 20 (by kernel_rfl) (by kernel_rfl) ?_
      simp only [List.take_succ_cons, List.take_zero, List.drop_succ_cons, List.drop_zero]
      repeat (go_big_quiet_step (fail))
      refine wpQuiet_nil ?_
      rintro w' ⟨q, rfl⟩
      go_wp2_with fail
      refine (putItem_any _ x _ _ (HREF.out.below (below_drewN (Below.refl _ _) q)) hpl).mono ?_
      rintro e w3 ⟨v2, rfl, hr3, hb3⟩
      have HB3 := Lib.hid ((below_drewN HBEL.out q).trans (hb3.mono (HBEL.out.size)))
      have HR3 : Hid (RefAt w3 (putsI L (o.l.take (k + 1))) v2) := by rw [putsI_step HX.out]; exact hr3
      clear hr3 hb3
      go_wp2_with fail
      exact ⟨⟨k + 1, by omega, by go_num, HR3.out, HB3.out⟩, by simp [intOf]; omega⟩
    · obtain rfl : k = p := by omega
      rw [show o.l.take k = o.l by rw [← HP.out]; exact List.take_length] at href
      have HBEL := Lib.hid hbel; have HREF := Lib.hid href
      clear hbel href hbox
      go_wp2_with fail
      exact HQ.out _ _ _ _ _ _ _ _ _ _ _ _ _ _ _ _ _ _ _ _ _ _ _ _ _ _ _ _ _ _ _ HREF.out HBEL.out
end Go.Proofs.Ytafloaabjinkfaa
