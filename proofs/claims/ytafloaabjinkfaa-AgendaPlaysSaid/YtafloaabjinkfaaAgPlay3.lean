/-
  AgendaPlays: an op of kind 3, Due.
-/
import Derived.Test.YtafloaabjinkfaaAgPlay
import Derived.Test.YtafloaabjinkfaaAgSame
namespace Go.Proofs.Ytafloaabjinkfaa
open Go.RowKit Go.Sort

theorem due_then (p : Int) {w : World} {B b n m : Nat} {v : Value} {L : List Itm} {A : Option Addr} {c : Nat} (h : AgAt w B b v L) (hR : RefAt w L (.slice A n c)) (hn : L.length = n) (hm : (dueI p L).length = m) :
    Calls Try.prog 11 #[.pointer (some ⟨b, 0, none⟩), .int .i64 p] w fun e w1 => ∃ A' c', e = .returned (.slice A' m c') ∧ (∀ c2, Calls Try.prog 10 #[.slice A' m c', .slice A m c2] w1 fun e2 w2 => e2 = .returned (.bool true) ∧ Drew w1 w2) ∧ AgStay w B b v (laterI p L) w1 := by
  have hmn : m ≤ n := by rw [← hm, ← hn]; exact due_len p L
  have hl := h.len
  refine (agDue_any p h).mono ?_
  rintro e w1 ⟨A', c', rfl, hown, hst⟩
  rw [hm] at hown ⊢
  refine ⟨A', c', rfl, fun c2 => ?_, hst⟩
  have h1 := rd_of_own hown
  obtain ⟨A1, c1, e1, h2, _⟩ := hR.to h hst.to
  injection e1 with e1 _ _
  subst e1
  rw [hn] at h2
  have h3 := h2.takeR hmn
  have e4 := (due_parts p L).1
  rw [hm] at e4
  rw [e4] at h3
  exact same8_yes (dueI p L) A' A m c' c2 _ _ w1 h1 h3 (by omega)
theorem drop_at {L : List Itm} {k : Nat} {x : Itm} (h : L[k]? = some x) : L.drop k = x :: L.drop (k + 1) := by
  obtain ⟨hk, rfl⟩ := List.getElem?_eq_some_iff.1 h
  exact List.drop_eq_getElem_cons hk
noncomputable def apK3 : Code := subCode [1, 1, 1, 1, 0, 1, 0, 0, 1, 0, 0, 1, 1, 1, 0, 1, 0, 1, 1, 1, 1, 1, 0] (Try.f3.body.getD .skip)
set_option maxRecDepth 100000 in
set_option maxHeartbeats 4000000 in
theorem apK3_any (s0 s1 s2 s5 s8 s9 s10 s11 s12 s13 s14 s15 s16 s17 s18 s19 s20 s21 s22 s23 s24 s25 s26 s27 s28 s29 s30 s31 s32 s33 s34 s35 s36 s37 s38 s39 s40 s41 s42 s43 s44 s45 s46 s47 s48 s49 s50 s51 s52 s53 s54 s55 s56 s57 s58 s59 s60 s61 s62 s63 s64 s65 s66 s67 s68 s69 s70 s71 s72 s73 s74 s75 s76 s77 s78 s79 s80 s81 s82 s83 s84 s85 s86 s87 s88 s89 s90 s91 s92 s93 s94 s95 s96 s97 s98 s99 s100 s101 s102 s103 s104 s105 s106 s107 s108 s109 s110 s111 s112 s113 s114 s115 s116 s117 s118 s119 s120 s121 s122 s123 s124 s125 s126 s127 s128 s129 s130 s131 s132 s133 s134 s135 s136 s137 s138 s139 s140 s141 s142 s143 s144 s145 s146 s147 s148 s149 s150 s151 s152 s153 s154 s155 s156 s157 s158 s159 s160 s161 s162 s163 s164 s165 s166 s167 s168 s169 s170 s171 s172 s173 s174 s175 s176 s177 s178 s179 s180 s181 s182 s183 s184 s185 s186 s187 s188 s189 s190 s191 s192 s193 s194 s195 s196 s197 s198 s199 s200 s201 s202 s203 s204 s205 s206 s207 s208 s209 s210 s211 s212 s213 s214 s215 s216 s217 s218 s219 s220 s221 s222 s223 s224 s225 s226 s227 s228 s229 s230 s231 s232 s233 s234 s235 s236 s237 s238 s239 s240 s241 s242 s243 s244 s245 s246 s247 s248 s249 s250 s251 s252 s253 s254 s255 s256 s257 s258 s259 s260 s261 s262 s263 s264 s265 s266 s267 s268 s269 s270 s271 s272 s273 : Value) (Q0 : Exit → Act → World → Prop) (L : List Itm) (rv : Value) (a ob : Nat) (o : OpR) (w0 wq : World) (hS : AgR w0 a L rv wq) (hO : OpBox wq ob o)
    (hQ : ∀ (u4 u13 u194 u195 u196 u197 u198 u199 u200 u201 u202 u203 u204 u205 u206 u207 u208 u209 u210 u211 u212 u213 u214 u215 u216 u217 u218 u219 u220 : Value) (w' : World), AgR w0 a (laterI o.num L) u4 w' → OpBox w' ob o → Q0 .normal ⟨#[s0, s1, s2, .pointer (some ⟨a, 0, none⟩), u4, s5, .pointer (some ⟨ob, 0, none⟩), .bool true, s8, s9, s10, s11, s12, u13, s14, s15, s16, s17, s18, s19, s20, s21, s22, s23, s24, s25, s26, s27, s28, s29, s30, s31, s32, s33, s34, s35, s36, s37, s38, s39, s40, s41, s42, s43, s44, s45, s46, s47, s48, s49, s50, s51, s52, s53, s54, s55, s56, s57, s58, s59, s60, s61, s62, s63, s64, s65, s66, s67, s68, s69, s70, s71, s72, s73, s74, s75, s76, s77, s78, s79, s80, s81, s82, s83, s84, s85, s86, s87, s88, s89, s90, s91, s92, s93, s94, s95, s96, s97, s98, s99, s100, s101, s102, s103, s104, s105, s106, s107, s108, s109, s110, s111, s112, s113, s114, s115, s116, s117, s118, s119, s120, s121, s122, s123, s124, s125, s126, s127, s128, s129, s130, s131, s132, s133, s134, s135, s136, s137, s138, s139, s140, s141, s142, s143, s144, s145, s146, s147, s148, s149, s150, s151, s152, s153, s154, s155, s156, s157, s158, s159, s160, s161, s162, s163, s164, s165, s166, s167, s168, s169, s170, s171, s172, s173, s174, s175, s176, s177, s178, s179, s180, s181, s182, s183, s184, s185, s186, s187, s188, s189, s190, s191, s192, s193, u194, u195, u196, u197, u198, u199, u200, u201, u202, u203, u204, u205, u206, u207, u208, u209, u210, u211, u212, u213, u214, u215, u216, u217, u218, u219, u220, s221, s222, s223, s224, s225, s226, s227, s228, s229, s230, s231, s232, s233, s234, s235, s236, s237, s238, s239, s240, s241, s242, s243, s244, s245, s246, s247, s248, s249, s250, s251, s252, s253, s254, s255, s256, s257, s258, s259, s260, s261, s262, s263, s264, s265, s266, s267, s268, s269, s270, s271, s272, s273], []⟩ w') :
    Code.wp Try.prog apK3 Q0 ⟨#[s0, s1, s2, .pointer (some ⟨a, 0, none⟩), rv, s5, .pointer (some ⟨ob, 0, none⟩), .bool true, s8, s9, s10, s11, s12, s13, s14, s15, s16, s17, s18, s19, s20, s21, s22, s23, s24, s25, s26, s27, s28, s29, s30, s31, s32, s33, s34, s35, s36, s37, s38, s39, s40, s41, s42, s43, s44, s45, s46, s47, s48, s49, s50, s51, s52, s53, s54, s55, s56, s57, s58, s59, s60, s61, s62, s63, s64, s65, s66, s67, s68, s69, s70, s71, s72, s73, s74, s75, s76, s77, s78, s79, s80, s81, s82, s83, s84, s85, s86, s87, s88, s89, s90, s91, s92, s93, s94, s95, s96, s97, s98, s99, s100, s101, s102, s103, s104, s105, s106, s107, s108, s109, s110, s111, s112, s113, s114, s115, s116, s117, s118, s119, s120, s121, s122, s123, s124, s125, s126, s127, s128, s129, s130, s131, s132, s133, s134, s135, s136, s137, s138, s139, s140, s141, s142, s143, s144, s145, s146, s147, s148, s149, s150, s151, s152, s153, s154, s155, s156, s157, s158, s159, s160, s161, s162, s163, s164, s165, s166, s167, s168, s169, s170, s171, s172, s173, s174, s175, s176, s177, s178, s179, s180, s181, s182, s183, s184, s185, s186, s187, s188, s189, s190, s191, s192, s193, s194, s195, s196, s197, s198, s199, s200, s201, s202, s203, s204, s205, s206, s207, s208, s209, s210, s211, s212, s213, s214, s215, s216, s217, s218, s219, s220, s221, s222, s223, s224, s225, s226, s227, s228, s229, s230, s231, s232, s233, s234, s235, s236, s237, s238, s239, s240, s241, s242, s243, s244, s245, s246, s247, s248, s249, s250, s251, s252, s253, s254, s255, s256, s257, s258, s259, s260, s261, s262, s263, s264, s265, s266, s267, s268, s269, s270, s271, s272, s273], []⟩ wq := by
  obtain ⟨v, hA, hR, hB⟩ := hS
  have HQ := Lib.hid hQ; have HB := Lib.hid hB; have HO := Lib.hid hO
  clear hQ hB hO
  refine wp_onEndA ?_
  conv => arg 2; whnf
  conv => arg 4; dsimp only
  have hR' := hR
  obtain ⟨A, c, rfl, hRd, hnil, hnc, hcm, _⟩ := hR'
  have hlen := hA.len
  obtain ⟨n, hn⟩ : ∃ n, L.length = n := ⟨_, rfl⟩
  obtain ⟨m, hm⟩ : ∃ m, (dueI o.num L).length = m := ⟨_, rfl⟩
  have hmn : m ≤ n := by rw [← hm, ← hn]; exact due_len _ L
  rw [hn] at hRd hnc hlen hR
  have HN := Lib.hid hn; have HRD := Lib.hid hRd; have HM := Lib.hid hm
  have HA := Lib.hid hA; have HR := Lib.hid hR
  unfold maxLen at hcm
  rw [hn]
  clear hA hR hRd hn hm
  go_wp2_with fail
  go_loopw [13] (fun kv wr2 => ∃ k : Nat, k ≤ m ∧ kv = .int .i64 k ∧ Drew wq wr2) (fun kv _ => n - (intOf kv).toNat)
  case atStart => exact ⟨0, Nat.zero_le _, rfl, Drew.refl _⟩
  case round =>
    obtain ⟨k, hk, rfl, q0, rfl⟩ := hrel
    have hbel : Below wq.heap.size wq (wq.drewN q0) := below_drewN (Below.refl _ _) q0
    by_cases hlt : k < n
    · have hkI : (k : Int) < (n : Int) := by omega
      have hkN : decide (k < n) = true := by simpa using hlt
      obtain ⟨ad, x, rfl, _, hx, p0, p1, p2⟩ := HRD.out.itm hlt
      have hbox := HO.out
      have b1 := cell_of hbox 1
      simp only [List.getElem?_toArray, List.getElem?_cons_zero, List.getElem?_cons_succ] at b1
      have HBEL := Lib.hid hbel
      by_cases hkm : k < m
      · have hper : x.per ≤ o.num := by
          obtain ⟨y, hy, h1, _⟩ := due_take (p := o.num) (L := L) (k := k) (by rw [HM.out]; exact hkm)
          rw [hx] at hy
          injection hy with hy
          rw [hy]; exact h1
        have t1 : decide (x.per ≤ o.num) = true := by simpa using hper
        clear hx p1 p2 hbel hbox
        go_wp2_with fail
        go_big_quiet (fail)
        go_wp2_with fail
        exact ⟨⟨k + 1, by omega, by go_num, ⟨_, rfl⟩⟩, by simp [intOf]; omega⟩
      · obtain rfl : k = m := by omega
        have hper : ¬ x.per ≤ o.num := by
          have e := (due_parts o.num L).2
          rw [HM.out, drop_at hx] at e
          exact later_head e.symm
        have t1 : decide (x.per ≤ o.num) = false := by simpa using hper
        have hck : ¬ c = k := by omega
        have hkc : (k : Int) ≤ (c : Int) := by omega
        clear hx p1 p2 hbel hbox
        go_wp2_with fail
        go_big_quiet (fail)
        generalize hW3 : (wq.drewN q0).drewN nq = W3
        have hb3 : Below wq.heap.size wq W3.drew := by rw [← hW3]; exact (below_drewN (below_drewN (Below.refl _ _) q0) nq).drew
        have hA3 := HA.out.below hb3
        have hR3 := HR.out.below hb3
        have KD := Lib.hid (due_then o.num hA3 hR3 HN.out HM.out)
        have HA3 := Lib.hid hA3; have HR3 := Lib.hid hR3; have HO3 := Lib.hid (HO.out.below hb3); have HB3 := Lib.hid hb3
        have b1' : W3.cell? ⟨ob, 1, none⟩ = some (.int .i64 o.num) := by rw [← hW3]; exact b1
        clear hA3 hR3 hb3 hW3 b1 p0
        have hkn : (k : Int) ≤ (n : Int) := by omega
        go_wp2_with fail
        go_region_law (first
          | (go_simp; go_at_call 11; refine KD.out.mono ?_; rintro e w1 ⟨A', c', rfl, KS0, T0⟩; have KS := Lib.hid KS0; have HT := Lib.hid T0; clear KS0 T0)
          | (go_simp; go_at_call 10; refine (KS.out _).mono ?_; rintro e w2 ⟨rfl, q2, rfl⟩))
        all_goals
          have hbA : Below w0.heap.size w0 W3.drew := HB.out.trans (HB3.out.mono HB.out.size)
          have hbq : Below w1.heap.size w1 (w1.drewN q2) := below_drewN (Below.refl _ _) q2
          have HB5 := Lib.hid (below_drewN (hbA.trans (HT.out.to.bel HA3.out hbA.size)) q2)
          have hR5 := (HR3.out.to HA3.out HT.out.to).below hbq
          have HO5 := Lib.hid ((HO3.out.to HA3.out HT.out.to).below hbq)
          obtain ⟨v1, hA1, _⟩ := HT.out
          have HA5 := Lib.hid (hA1.below hbq)
          have hdp := (due_parts o.num L).2
          rw [HM.out] at hdp
          have hd := hR5.drop (k := k) (by rw [HN.out]; omega)
          rw [if_neg hck, hdp] at hd
          have HD := Lib.hid hd
          clear hd hR5
          clear hbA hbq hA1 hdp
          generalize hW5 : w1.drewN q2 = W5 at *
          clear hW5 KD KS
          go_simp
          go_at_K
          go_wp2_with fail
          exact HQ.out _ _ _ _ _ _ _ _ _ _ _ _ _ _ _ _ _ _ _ _ _ _ _ _ _ _ _ _ _ _ ⟨v1, HA5.out, HD.out, HB5.out⟩ HO5.out
    · obtain rfl : k = n := by omega
      obtain rfl : m = k := by omega
      have hkN : decide (m < m) = false := by simp
      have hbox := HO.out
      have b1 := cell_of hbox 1
      simp only [List.getElem?_toArray, List.getElem?_cons_zero, List.getElem?_cons_succ] at b1
      have HBEL := Lib.hid hbel
      clear hbel hbox
      cases A with
      | none =>
        obtain rfl : c = 0 := hnil rfl
        obtain rfl : m = 0 := by omega
        go_wp2_with fail
        go_big_quiet (fail)
        generalize hW3 : (wq.drewN q0).drewN nq = W3
        have hb3 : Below wq.heap.size wq W3.drew := by rw [← hW3]; exact (below_drewN (below_drewN (Below.refl _ _) q0) nq).drew
        have hA3 := HA.out.below hb3
        have hR3 := HR.out.below hb3
        have KD := Lib.hid (due_then o.num hA3 hR3 HN.out HM.out)
        have HA3 := Lib.hid hA3; have HR3 := Lib.hid hR3; have HO3 := Lib.hid (HO.out.below hb3); have HB3 := Lib.hid hb3
        have b1' : W3.cell? ⟨ob, 1, none⟩ = some (.int .i64 o.num) := by rw [← hW3]; exact b1
        clear hA3 hR3 hb3 hW3 b1
        go_wp2_with fail
        go_region_law (first
          | (go_simp; go_at_call 11; refine KD.out.mono ?_; rintro e w1 ⟨A', c', rfl, KS0, T0⟩; have KS := Lib.hid KS0; have HT := Lib.hid T0; clear KS0 T0)
          | (go_simp; go_at_call 10; refine (KS.out _).mono ?_; rintro e w2 ⟨rfl, q2, rfl⟩))
        all_goals
          have hbA : Below w0.heap.size w0 W3.drew := HB.out.trans (HB3.out.mono HB.out.size)
          have hbq : Below w1.heap.size w1 (w1.drewN q2) := below_drewN (Below.refl _ _) q2
          have HB5 := Lib.hid (below_drewN (hbA.trans (HT.out.to.bel HA3.out hbA.size)) q2)
          have hR5 := (HR3.out.to HA3.out HT.out.to).below hbq
          have HO5 := Lib.hid ((HO3.out.to HA3.out HT.out.to).below hbq)
          obtain ⟨v1, hA1, _⟩ := HT.out
          have HA5 := Lib.hid (hA1.below hbq)
          have hdp := (due_parts o.num L).2
          rw [HM.out] at hdp
          have hLn : L = [] := List.eq_nil_of_length_eq_zero HN.out
          have HD : Hid (RefAt (w1.drewN q2) (laterI o.num L) (.slice none 0 0)) := by rw [hLn]; exact RefAt.nil_ _
          clear hR5
          clear hbA hbq hA1 hdp
          generalize hW5 : w1.drewN q2 = W5 at *
          clear hW5 KD KS
          go_simp
          go_at_K
          go_wp2_with fail
          exact HQ.out _ _ _ _ _ _ _ _ _ _ _ _ _ _ _ _ _ _ _ _ _ _ _ _ _ _ _ _ _ _ ⟨v1, HA5.out, HD.out, HB5.out⟩ HO5.out
      | some ad =>
        have hkc : (m : Int) ≤ (c : Int) := by omega
        by_cases hck : c = m
        · subst hck
          go_wp2_with fail
          go_big_quiet (fail)
          generalize hW3 : (wq.drewN q0).drewN nq = W3
          have hb3 : Below wq.heap.size wq W3.drew := by rw [← hW3]; exact (below_drewN (below_drewN (Below.refl _ _) q0) nq).drew
          have hA3 := HA.out.below hb3
          have hR3 := HR.out.below hb3
          have KD := Lib.hid (due_then o.num hA3 hR3 HN.out HM.out)
          have HA3 := Lib.hid hA3; have HR3 := Lib.hid hR3; have HO3 := Lib.hid (HO.out.below hb3); have HB3 := Lib.hid hb3
          have b1' : W3.cell? ⟨ob, 1, none⟩ = some (.int .i64 o.num) := by rw [← hW3]; exact b1
          clear hA3 hR3 hb3 hW3 b1
          have hkn : (c : Int) ≤ (c : Int) := by omega
          go_wp2_with fail
          go_region_law (first
            | (go_simp; go_at_call 11; refine KD.out.mono ?_; rintro e w1 ⟨A', c', rfl, KS0, T0⟩; have KS := Lib.hid KS0; have HT := Lib.hid T0; clear KS0 T0)
            | (go_simp; go_at_call 10; refine (KS.out _).mono ?_; rintro e w2 ⟨rfl, q2, rfl⟩))
          all_goals
            have hbA : Below w0.heap.size w0 W3.drew := HB.out.trans (HB3.out.mono HB.out.size)
            have hbq : Below w1.heap.size w1 (w1.drewN q2) := below_drewN (Below.refl _ _) q2
            have HB5 := Lib.hid (below_drewN (hbA.trans (HT.out.to.bel HA3.out hbA.size)) q2)
            have hR5 := (HR3.out.to HA3.out HT.out.to).below hbq
            have HO5 := Lib.hid ((HO3.out.to HA3.out HT.out.to).below hbq)
            obtain ⟨v1, hA1, _⟩ := HT.out
            have HA5 := Lib.hid (hA1.below hbq)
            have hdp := (due_parts o.num L).2
            rw [HM.out] at hdp
            have hd := hR5.drop (k := c) (by rw [HN.out]; omega)
            rw [if_pos rfl, hdp, Nat.sub_self] at hd
            have HD := Lib.hid hd
            clear hd hR5
            clear hbA hbq hA1 hdp
            generalize hW5 : w1.drewN q2 = W5 at *
            clear hW5 KD KS
            go_simp
            go_at_K
            go_wp2_with fail
            exact HQ.out _ _ _ _ _ _ _ _ _ _ _ _ _ _ _ _ _ _ _ _ _ _ _ _ _ _ _ _ _ _ ⟨v1, HA5.out, HD.out, HB5.out⟩ HO5.out
        · go_wp2_with fail
          go_big_quiet (fail)
          generalize hW3 : (wq.drewN q0).drewN nq = W3
          have hb3 : Below wq.heap.size wq W3.drew := by rw [← hW3]; exact (below_drewN (below_drewN (Below.refl _ _) q0) nq).drew
          have hA3 := HA.out.below hb3
          have hR3 := HR.out.below hb3
          have KD := Lib.hid (due_then o.num hA3 hR3 HN.out HM.out)
          have HA3 := Lib.hid hA3; have HR3 := Lib.hid hR3; have HO3 := Lib.hid (HO.out.below hb3); have HB3 := Lib.hid hb3
          have b1' : W3.cell? ⟨ob, 1, none⟩ = some (.int .i64 o.num) := by rw [← hW3]; exact b1
          clear hA3 hR3 hb3 hW3 b1
          have hkn : (m : Int) ≤ (m : Int) := by omega
          go_wp2_with fail
          go_region_law (first
            | (go_simp; go_at_call 11; refine KD.out.mono ?_; rintro e w1 ⟨A', c', rfl, KS0, T0⟩; have KS := Lib.hid KS0; have HT := Lib.hid T0; clear KS0 T0)
            | (go_simp; go_at_call 10; refine (KS.out _).mono ?_; rintro e w2 ⟨rfl, q2, rfl⟩))
          all_goals
            have hbA : Below w0.heap.size w0 W3.drew := HB.out.trans (HB3.out.mono HB.out.size)
            have hbq : Below w1.heap.size w1 (w1.drewN q2) := below_drewN (Below.refl _ _) q2
            have HB5 := Lib.hid (below_drewN (hbA.trans (HT.out.to.bel HA3.out hbA.size)) q2)
            have hR5 := (HR3.out.to HA3.out HT.out.to).below hbq
            have HO5 := Lib.hid ((HO3.out.to HA3.out HT.out.to).below hbq)
            obtain ⟨v1, hA1, _⟩ := HT.out
            have HA5 := Lib.hid (hA1.below hbq)
            have hdp := (due_parts o.num L).2
            rw [HM.out] at hdp
            have hd := hR5.drop (k := m) (by rw [HN.out]; omega)
            rw [if_neg hck, hdp, Nat.sub_self] at hd
            have HD := Lib.hid hd
            clear hd hR5
            clear hbA hbq hA1 hdp
            generalize hW5 : w1.drewN q2 = W5 at *
            clear hW5 KD KS
            go_simp
            go_at_K
            go_wp2_with fail
            exact HQ.out _ _ _ _ _ _ _ _ _ _ _ _ _ _ _ _ _ _ _ _ _ _ _ _ _ _ _ _ _ _ ⟨v1, HA5.out, HD.out, HB5.out⟩ HO5.out
end Go.Proofs.Ytafloaabjinkfaa
