/-
  AgendaPlays: an op of kind 1: the agenda's Put, and that the list given is as it was.
-/
import Derived.Test.YtafloaabjinkfaaAgPlay1
namespace Go.Proofs.Ytafloaabjinkfaa
open Go.RowKit Go.Sort

noncomputable def apK1c : Code := subCode [1, 1, 1, 1, 0, 1, 0, 0, 1, 0, 0, 1, 1, 1, 0, 1, 0, 1, 0, 1, 1] (Try.f3.body.getD .skip)
set_option maxRecDepth 100000 in
set_option maxHeartbeats 4000000 in
theorem apK1c_any (s0 s1 s2 s5 s9 s10 s11 s12 s13 s14 s15 s16 s17 s18 s19 s20 s21 s22 s23 s24 s25 s26 s27 s28 s29 s30 s31 s32 s33 s34 s35 s36 s37 s38 s39 s40 s41 s42 s43 s44 s45 s46 s47 s48 s49 s50 s51 s52 s53 s54 s55 s56 s57 s58 s59 s60 s61 s62 s63 s64 s65 s66 s67 s68 s69 s70 s71 s72 s73 s74 s75 s76 s77 s78 s79 s80 s81 s82 s83 s84 s85 s86 s87 s88 s89 s90 s91 s92 s93 s94 s95 s96 s97 s98 s99 s100 s101 s102 s103 s104 s105 s106 s107 s108 s109 s110 s111 s112 s113 s114 s115 s116 s117 s118 s119 s120 s121 s122 s123 s124 s125 s126 s127 s128 s129 s130 s131 s132 s133 s134 s135 s136 s137 s138 s139 s140 s141 s142 s143 s144 s145 s146 s147 s148 s149 s150 s151 s152 s153 s154 s155 s156 s157 s158 s159 s160 s161 s162 s163 s164 s165 s166 s167 s168 s169 s170 s171 s172 s173 s174 s175 s176 s177 s178 s179 s180 s181 s182 s183 s184 s185 s186 s187 s188 s189 s190 s191 s192 s193 s194 s195 s196 s197 s198 s199 s200 s201 s202 s203 s204 s205 s206 s207 s208 s209 s210 s211 s212 s213 s214 s215 s216 s217 s218 s219 s220 s221 s222 s223 s224 s225 s226 s227 s228 s229 s230 s231 s232 s233 s234 s235 s236 s237 s238 s239 s240 s241 s242 s243 s244 s245 s246 s247 s248 s249 s250 s251 s252 s253 s254 s255 s256 s257 s258 s259 s260 s261 s262 s263 s264 s265 s266 s267 s268 s269 s270 s271 s272 s273 : Value) (Q0 : Exit → Act → World → Prop) (L : List Itm) (rv v : Value) (a ob p BM c2 : Nat) (A2 : Option Addr) (o : OpR) (w0 wq : World)
    (hA : AgAt wq w0.heap.size a v L) (hR : RefAt wq (putsI L o.l) rv) (hB : Below w0.heap.size w0 wq) (hO : OpBox wq ob o) (hD : Rd wq w0.heap.size 3 o.A p (itms o.l)) (h30 : p ≤ 30)
    (hM : wq.ownsRow BM 33 3 (.slice A2 (p + 1) c2) (p + 1) (itms (o.l ++ [⟨0, 0, -77⟩]))) (hMA : ∀ k, InAg a v k → k < BM)
    (hQ : ∀ (u10 u119 u120 u121 u122 u123 u124 u125 u126 u127 u128 u129 u130 u131 u132 u133 u134 u135 u136 u137 u138 u139 u140 u141 u142 u143 u144 u145 u146 u147 u148 u149 u150 u151 u152 u153 u154 u155 u156 : Value) (w' : World), AgR w0 a (putsI L o.l) rv w' → OpBox w' ob o → Q0 .normal ⟨#[s0, s1, s2, .pointer (some ⟨a, 0, none⟩), rv, s5, .pointer (some ⟨ob, 0, none⟩), .bool true, .slice A2 p c2, s9, u10, s11, s12, s13, s14, s15, s16, s17, s18, s19, s20, s21, s22, s23, s24, s25, s26, s27, s28, s29, s30, s31, s32, s33, s34, s35, s36, s37, s38, s39, s40, s41, s42, s43, s44, s45, s46, s47, s48, s49, s50, s51, s52, s53, s54, s55, s56, s57, s58, s59, s60, s61, s62, s63, s64, s65, s66, s67, s68, s69, s70, s71, s72, s73, s74, s75, s76, s77, s78, s79, s80, s81, s82, s83, s84, s85, s86, s87, s88, s89, s90, s91, s92, s93, s94, s95, s96, s97, s98, s99, s100, s101, s102, s103, s104, s105, s106, s107, s108, s109, s110, s111, s112, s113, s114, s115, s116, s117, s118, u119, u120, u121, u122, u123, u124, u125, u126, u127, u128, u129, u130, u131, u132, u133, u134, u135, u136, u137, u138, u139, u140, u141, u142, u143, u144, u145, u146, u147, u148, u149, u150, u151, u152, u153, u154, u155, u156, s157, s158, s159, s160, s161, s162, s163, s164, s165, s166, s167, s168, s169, s170, s171, s172, s173, s174, s175, s176, s177, s178, s179, s180, s181, s182, s183, s184, s185, s186, s187, s188, s189, s190, s191, s192, s193, s194, s195, s196, s197, s198, s199, s200, s201, s202, s203, s204, s205, s206, s207, s208, s209, s210, s211, s212, s213, s214, s215, s216, s217, s218, s219, s220, s221, s222, s223, s224, s225, s226, s227, s228, s229, s230, s231, s232, s233, s234, s235, s236, s237, s238, s239, s240, s241, s242, s243, s244, s245, s246, s247, s248, s249, s250, s251, s252, s253, s254, s255, s256, s257, s258, s259, s260, s261, s262, s263, s264, s265, s266, s267, s268, s269, s270, s271, s272, s273], []⟩ w') :
    Code.wp Try.prog apK1c Q0 ⟨#[s0, s1, s2, .pointer (some ⟨a, 0, none⟩), rv, s5, .pointer (some ⟨ob, 0, none⟩), .bool true, .slice A2 p c2, s9, s10, s11, s12, s13, s14, s15, s16, s17, s18, s19, s20, s21, s22, s23, s24, s25, s26, s27, s28, s29, s30, s31, s32, s33, s34, s35, s36, s37, s38, s39, s40, s41, s42, s43, s44, s45, s46, s47, s48, s49, s50, s51, s52, s53, s54, s55, s56, s57, s58, s59, s60, s61, s62, s63, s64, s65, s66, s67, s68, s69, s70, s71, s72, s73, s74, s75, s76, s77, s78, s79, s80, s81, s82, s83, s84, s85, s86, s87, s88, s89, s90, s91, s92, s93, s94, s95, s96, s97, s98, s99, s100, s101, s102, s103, s104, s105, s106, s107, s108, s109, s110, s111, s112, s113, s114, s115, s116, s117, s118, s119, s120, s121, s122, s123, s124, s125, s126, s127, s128, s129, s130, s131, s132, s133, s134, s135, s136, s137, s138, s139, s140, s141, s142, s143, s144, s145, s146, s147, s148, s149, s150, s151, s152, s153, s154, s155, s156, s157, s158, s159, s160, s161, s162, s163, s164, s165, s166, s167, s168, s169, s170, s171, s172, s173, s174, s175, s176, s177, s178, s179, s180, s181, s182, s183, s184, s185, s186, s187, s188, s189, s190, s191, s192, s193, s194, s195, s196, s197, s198, s199, s200, s201, s202, s203, s204, s205, s206, s207, s208, s209, s210, s211, s212, s213, s214, s215, s216, s217, s218, s219, s220, s221, s222, s223, s224, s225, s226, s227, s228, s229, s230, s231, s232, s233, s234, s235, s236, s237, s238, s239, s240, s241, s242, s243, s244, s245, s246, s247, s248, s249, s250, s251, s252, s253, s254, s255, s256, s257, s258, s259, s260, s261, s262, s263, s264, s265, s266, s267, s268, s269, s270, s271, s272, s273], []⟩ wq := by
  have hp := hD.itms_len
  have HQ := Lib.hid hQ; have HA := Lib.hid hA; have HP := Lib.hid hp
  have hpc : p + 1 ≤ c2 := own_cap hM
  obtain ⟨Ar, cr, rfl, _, hr63, _⟩ := hR.len
  have hml : (putsI L o.l).length ≤ 1000 := by rw [putsI_len _ _ hA.len]; omega
  have hge := own_ge hM
  have hRM := (rd_of_own hM).takeR (k := p) (by omega)
  rw [List.take_left' hp] at hRM
  have KP := agPut_any o.l A2 p c2 _ w0.heap.size a v L wq hA hRM (Nat.le_refl _) (by omega) (by omega) (fun _ ad e hi => by
    have h1 := hMA _ hi
    have h2 := hge ad.block (by rw [e]; rfl)
    omega)
  have KP := Lib.hid KP
  have AFT : Hid (∀ w1, AgTo wq w0.heap.size a v (putsI L o.l) w1 → AgR w0 a (putsI L o.l) (.slice Ar (putsI L o.l).length cr) w1 ∧ OpBox w1 ob o ∧ Rd w1 w0.heap.size 3 o.A p (itms o.l) ∧ w1.ownsRow BM 33 3 (.slice A2 (p + 1) c2) (p + 1) (itms (o.l ++ [⟨0, 0, -77⟩]))) := fun w1 T => by
    have hb := T.bel hA hB.size
    have h1 := hR.to hA T
    have h2 := hO.to hA T
    obtain ⟨v1, k1, k2, _⟩ := T
    refine ⟨⟨v1, k1, h1, hB.trans hb⟩, h2, hD.below hb, own_kept hM fun k hk ho => k2.block k hk fun hi => ?_⟩
    have h3 := hMA _ hi
    have h4 := hge k ho
    omega
  clear hQ hA hR hB hO hD hM hMA hge hRM hp
  refine wp_onEndA ?_
  conv => arg 2; whnf
  conv => arg 4; dsimp only
  obtain ⟨N, hN⟩ : ∃ N, (putsI L o.l).length = N := ⟨_, rfl⟩
  have HN := Lib.hid hN
  rw [hN] at hml
  rw [hN]
  clear hN
  go_wp2_with fail
  refine KP.out.mono ?_
  rintro e w1 ⟨rfl, T⟩
  obtain ⟨t1, t2, t3, t4⟩ := AFT.out w1 T
  rw [HN.out] at t1 ⊢
  have H1 := Lib.hid t1; have H2 := Lib.hid t2; have H3 := Lib.hid t3; have H4 := Lib.hid t4
  clear T t1 t2 t3 t4 KP AFT
  have e1 : ((N : Int) == (N : Int)) = true := by simp
  obtain ⟨ad, x, hAd, _, hx, p0, p1, p2⟩ := (rd_of_own H4.out).itm (i := p) (by omega)
  subst hAd
  have hxx : x = ⟨0, 0, -77⟩ := by
    rw [← HP.out] at hx
    simpa using hx.symm
  subst hxx
  have p2' := cell_behind p2 (by omega)
  have hpcI : (p : Int) + 1 ≤ (c2 : Int) := by omega
  have hpp : (p : Int) < (p : Int) + 1 := by omega
  clear hx p1 p0 p2
  have hq := HQ.out
  rw [HN.out] at hq
  clear HQ
  have HQ := Lib.hid hq
  clear hq
  have hobx := H2.out
  unfold OpBox at hobx
  rw [HP.out] at hobx
  have HOB := Lib.hid hobx
  have hb2 := cell_of HOB.out 2
  simp only [List.getElem?_toArray, List.getElem?_cons_zero, List.getElem?_cons_succ] at hb2
  have HM := Lib.hid ((rd_of_own H4.out).takeR (k := p) (by omega))
  rw [Hid, List.take_left' HP.out] at HM
  have HM := Lib.hid HM
  clear hobx
  go_wp2_with fail
  go_loopw [10, 7] (fun kv kok wr2 => ∃ k : Nat, k ≤ p ∧ kv = .int .i64 k ∧ kok = .bool true ∧ Drew w1 wr2) (fun kv _ _ => p - (intOf kv).toNat)
  case atStart => exact ⟨0, Nat.zero_le _, rfl, rfl, Drew.refl _⟩
  case round =>
    obtain ⟨k, hk, rfl, rfl, q0, rfl⟩ := hrel
    by_cases hlt : k < p
    · have hkI : (k : Int) < (p : Int) := by omega
      obtain ⟨a1, y, f1, _, hy, p0, p1, p2⟩ := HM.out.itm hlt
      obtain ⟨a2, z, f2, _, hz, r0, r1, r2⟩ := H3.out.itm hlt
      rw [hy] at hz
      injection hz with hz
      subst hz
      injection f1 with f1
      subst f1
      rw [f2] at hb2
      have p1' := cell_behind p1 (by omega)
      have p2'' := cell_behind p2 (by omega)
      have r1' := cell_behind r1 (by omega)
      have r2' := cell_behind r2 (by omega)
      clear hy p1 p2 r1 r2 p2' f2
      obtain ⟨z1, z2, z3⟩ := y
      go_wp2_with fail
      go_big_quiet (fail)
      go_wp2_with fail
      exact ⟨⟨k + 1, by omega, by go_num, rfl, ⟨_, rfl⟩⟩, by simp [intOf]; omega⟩
    · obtain rfl : k = p := by omega
      go_wp2_with fail
      obtain ⟨v1, k1, k2, k3⟩ := H1.out
      have hb := below_drewN (Below.refl w1.heap.size w1) q0
      exact HQ.out _ _ _ _ _ _ _ _ _ _ _ _ _ _ _ _ _ _ _ _ _ _ _ _ _ _ _ _ _ _ _ _ _ _ _ _ _ _ _ _ ⟨v1, k1.below hb, k2.below hb, k3.trans (hb.mono k3.size)⟩ (H2.out.below hb)
end Go.Proofs.Ytafloaabjinkfaa
