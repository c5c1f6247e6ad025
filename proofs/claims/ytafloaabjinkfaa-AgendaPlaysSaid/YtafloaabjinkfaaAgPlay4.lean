/-
  AgendaPlays: an op of another kind, Take.
-/
import Derived.Test.YtafloaabjinkfaaAgPlay
namespace Go.Proofs.Ytafloaabjinkfaa
open Go.RowKit Go.Sort

noncomputable def apK4 : Code := subCode [1, 1, 1, 1, 0, 1, 0, 0, 1, 0, 0, 1, 1, 1, 0, 1, 0, 1, 1, 1, 1, 1, 1] (Try.f3.body.getD .skip)
theorem append_itmR {w : World} {base m : Nat} {v : Value} {D : List Itm} (a : Itm) (h : w.ownsRow base 35 3 v m (itms D)) (hb : base ≤ w.heap.size) (hm : m ≤ 1000000) :
    ∃ v' w', (∀ ty, (Builtin.append_ #[29, 29] ty #[v, .slice (some ⟨w.heap.size, 0, none⟩) 1 1]).run Try.prog (w.alloc (.cells #[.int .i64 a.per, .int .i64 a.rk, .int .i64 a.id] 35)) = .ok v' w') ∧ w'.ownsRow base 35 3 v' (m + 1) (itms (D ++ [a])) ∧ But (fun k => v.ownBlock = some k) w w' := by
  have hR : Rd (w.alloc (.cells #[.int .i64 a.per, .int .i64 a.rk, .int .i64 a.id] 35)) (w.heap.size + 1) 3 (some ⟨w.heap.size, 0, none⟩) 1 a.cells := ⟨rfl, fun _ => ⟨_, rfl, by simp, cells_new w a.cells 35⟩⟩
  have h1 : (w.alloc (.cells #[.int .i64 a.per, .int .i64 a.rk, .int .i64 a.id] 35)).ownsRow base 35 3 v m (itms D) := own_kept h fun k hk _ => Below.heap_alloc w _ _ hk
  obtain ⟨v', w', hrun, hown, hg, hp⟩ := append_fresh (P := Try.prog) (ty := 0) (c := 1) infoItmR Try.underlying29 rfl (by omega) base v m (itms D) h1 hR (by intro u hu; simp [Itm.cells] at hu; rcases hu with rfl | rfl | rfl <;> rfl) (by unfold maxLen; omega) (by omega) (by simp; omega)
  refine ⟨v', w', fun ty => hrun, by rw [itms_append]; exact (show itms [a] = a.cells by simp [itms]) ▸ hown, ?_⟩
  exact (But.of_below ((Below.refl _ _).alloc (Nat.le_refl _) _)).trans (But.of_grown hg)
theorem keepI_step {i : Int} {S : List Itm} {k : Nat} {x : Itm} (h : S[k]? = some x) : (x.id = i → keepI i (S.take (k + 1)) = keepI i (S.take k)) ∧ (x.id ≠ i → keepI i (S.take (k + 1)) = keepI i (S.take k) ++ [x]) := by
  obtain ⟨hk, rfl⟩ := List.getElem?_eq_some_iff.1 h
  have e : keepI i (S.take (k + 1)) = keepI i (S.take k) ++ keepI i [S[k]] := by
    rw [List.take_succ_eq_append_getElem hk]; unfold keepI; rw [List.filter_append]
  exact ⟨fun hx => by rw [e]; simp [keepI, hx], fun hx => by rw [e]; simp [keepI, hx]⟩
set_option maxRecDepth 100000 in
set_option maxHeartbeats 4000000 in
theorem apK4_any (s0 s1 s2 s5 s8 s9 s10 s11 s12 s13 s14 s15 s16 s17 s18 s19 s20 s21 s22 s23 s24 s25 s26 s27 s28 s29 s30 s31 s32 s33 s34 s35 s36 s37 s38 s39 s40 s41 s42 s43 s44 s45 s46 s47 s48 s49 s50 s51 s52 s53 s54 s55 s56 s57 s58 s59 s60 s61 s62 s63 s64 s65 s66 s67 s68 s69 s70 s71 s72 s73 s74 s75 s76 s77 s78 s79 s80 s81 s82 s83 s84 s85 s86 s87 s88 s89 s90 s91 s92 s93 s94 s95 s96 s97 s98 s99 s100 s101 s102 s103 s104 s105 s106 s107 s108 s109 s110 s111 s112 s113 s114 s115 s116 s117 s118 s119 s120 s121 s122 s123 s124 s125 s126 s127 s128 s129 s130 s131 s132 s133 s134 s135 s136 s137 s138 s139 s140 s141 s142 s143 s144 s145 s146 s147 s148 s149 s150 s151 s152 s153 s154 s155 s156 s157 s158 s159 s160 s161 s162 s163 s164 s165 s166 s167 s168 s169 s170 s171 s172 s173 s174 s175 s176 s177 s178 s179 s180 s181 s182 s183 s184 s185 s186 s187 s188 s189 s190 s191 s192 s193 s194 s195 s196 s197 s198 s199 s200 s201 s202 s203 s204 s205 s206 s207 s208 s209 s210 s211 s212 s213 s214 s215 s216 s217 s218 s219 s220 s221 s222 s223 s224 s225 s226 s227 s228 s229 s230 s231 s232 s233 s234 s235 s236 s237 s238 s239 s240 s241 s242 s243 s244 s245 s246 s247 s248 s249 s250 s251 s252 s253 s254 s255 s256 s257 s258 s259 s260 s261 s262 s263 s264 s265 s266 s267 s268 s269 s270 s271 s272 s273 : Value) (Q0 : Exit → Act → World → Prop) (L : List Itm) (rv : Value) (a ob : Nat) (o : OpR) (w0 wq : World) (hS : AgR w0 a L rv wq) (hO : OpBox wq ob o)
    (hQ : ∀ (u4 u14 u15 u47 u48 u49 u50 u51 u52 u53 u54 u55 u56 u57 u58 u59 u60 u61 u62 u63 u64 u65 u66 u67 u68 u69 u70 u71 u72 u73 u74 u75 u76 u77 u78 : Value) (w' : World), AgR w0 a (keepI o.num L) u4 w' → OpBox w' ob o → Q0 .normal ⟨#[s0, s1, s2, .pointer (some ⟨a, 0, none⟩), u4, s5, .pointer (some ⟨ob, 0, none⟩), .bool true, s8, s9, s10, s11, s12, s13, u14, u15, s16, s17, s18, s19, s20, s21, s22, s23, s24, s25, s26, s27, s28, s29, s30, s31, s32, s33, s34, s35, s36, s37, s38, s39, s40, s41, s42, s43, s44, s45, s46, u47, u48, u49, u50, u51, u52, u53, u54, u55, u56, u57, u58, u59, u60, u61, u62, u63, u64, u65, u66, u67, u68, u69, u70, u71, u72, u73, u74, u75, u76, u77, u78, s79, s80, s81, s82, s83, s84, s85, s86, s87, s88, s89, s90, s91, s92, s93, s94, s95, s96, s97, s98, s99, s100, s101, s102, s103, s104, s105, s106, s107, s108, s109, s110, s111, s112, s113, s114, s115, s116, s117, s118, s119, s120, s121, s122, s123, s124, s125, s126, s127, s128, s129, s130, s131, s132, s133, s134, s135, s136, s137, s138, s139, s140, s141, s142, s143, s144, s145, s146, s147, s148, s149, s150, s151, s152, s153, s154, s155, s156, s157, s158, s159, s160, s161, s162, s163, s164, s165, s166, s167, s168, s169, s170, s171, s172, s173, s174, s175, s176, s177, s178, s179, s180, s181, s182, s183, s184, s185, s186, s187, s188, s189, s190, s191, s192, s193, s194, s195, s196, s197, s198, s199, s200, s201, s202, s203, s204, s205, s206, s207, s208, s209, s210, s211, s212, s213, s214, s215, s216, s217, s218, s219, s220, s221, s222, s223, s224, s225, s226, s227, s228, s229, s230, s231, s232, s233, s234, s235, s236, s237, s238, s239, s240, s241, s242, s243, s244, s245, s246, s247, s248, s249, s250, s251, s252, s253, s254, s255, s256, s257, s258, s259, s260, s261, s262, s263, s264, s265, s266, s267, s268, s269, s270, s271, s272, s273], []⟩ w') :
    Code.wp Try.prog apK4 Q0 ⟨#[s0, s1, s2, .pointer (some ⟨a, 0, none⟩), rv, s5, .pointer (some ⟨ob, 0, none⟩), .bool true, s8, s9, s10, s11, s12, s13, s14, s15, s16, s17, s18, s19, s20, s21, s22, s23, s24, s25, s26, s27, s28, s29, s30, s31, s32, s33, s34, s35, s36, s37, s38, s39, s40, s41, s42, s43, s44, s45, s46, s47, s48, s49, s50, s51, s52, s53, s54, s55, s56, s57, s58, s59, s60, s61, s62, s63, s64, s65, s66, s67, s68, s69, s70, s71, s72, s73, s74, s75, s76, s77, s78, s79, s80, s81, s82, s83, s84, s85, s86, s87, s88, s89, s90, s91, s92, s93, s94, s95, s96, s97, s98, s99, s100, s101, s102, s103, s104, s105, s106, s107, s108, s109, s110, s111, s112, s113, s114, s115, s116, s117, s118, s119, s120, s121, s122, s123, s124, s125, s126, s127, s128, s129, s130, s131, s132, s133, s134, s135, s136, s137, s138, s139, s140, s141, s142, s143, s144, s145, s146, s147, s148, s149, s150, s151, s152, s153, s154, s155, s156, s157, s158, s159, s160, s161, s162, s163, s164, s165, s166, s167, s168, s169, s170, s171, s172, s173, s174, s175, s176, s177, s178, s179, s180, s181, s182, s183, s184, s185, s186, s187, s188, s189, s190, s191, s192, s193, s194, s195, s196, s197, s198, s199, s200, s201, s202, s203, s204, s205, s206, s207, s208, s209, s210, s211, s212, s213, s214, s215, s216, s217, s218, s219, s220, s221, s222, s223, s224, s225, s226, s227, s228, s229, s230, s231, s232, s233, s234, s235, s236, s237, s238, s239, s240, s241, s242, s243, s244, s245, s246, s247, s248, s249, s250, s251, s252, s253, s254, s255, s256, s257, s258, s259, s260, s261, s262, s263, s264, s265, s266, s267, s268, s269, s270, s271, s272, s273], []⟩ wq := by
  obtain ⟨v, hA, hR, hB⟩ := hS
  have HQ := Lib.hid hQ; have HB := Lib.hid hB; have HO := Lib.hid hO
  clear hQ hB hO
  refine wp_onEndA ?_
  conv => arg 2; whnf
  conv => arg 4; dsimp only
  have hR' := hR
  obtain ⟨A, c, rfl, hRd, hnil, hnc, hcm, _⟩ := hR'
  have hlen := hA.len
  obtain ⟨n, hn⟩ : ∃ n, L.length = n := ⟨_, rfl⟩
  rw [hn] at hRd hnc hlen
  have HN := Lib.hid hn; have HRD := Lib.hid hRd
  have HA := Lib.hid hA; have HR := Lib.hid hR
  unfold maxLen at hcm
  rw [hn]
  clear hA hR hRd hn
  go_wp2_with fail
  go_loopw [15, 14] (fun iv lv wr2 => ∃ k m : Nat, k ≤ n ∧ iv = .int .i64 k ∧ wr2.ownsRow wq.heap.size 35 3 lv m (itms (keepI o.num (L.take k))) ∧ m ≤ k ∧ (keepI o.num (L.take k)).length = m ∧ Below wq.heap.size wq wr2) (fun iv _ _ => n - (intOf iv).toNat)
  case atStart => exact ⟨0, 0, Nat.zero_le _, rfl, World.ownsRow_nil _ _ _ _, Nat.le_refl _, rfl, Below.refl _ _⟩
  case round =>
    obtain ⟨k, m, hk, rfl, hown, hmk, hmm, hbel⟩ := hrel
    by_cases hlt : k < n
    · have hkI : (k : Int) < (n : Int) := by omega
      obtain ⟨ad, x, rfl, _, hx, p0, p1, p2⟩ := (HRD.out.below hbel).itm hlt
      have p1' := cell_behind p1 (by omega)
      have p2' := cell_behind p2 (by omega)
      have hbox := HO.out.below hbel
      have b1 := cell_of hbox 1
      simp only [List.getElem?_toArray, List.getElem?_cons_zero, List.getElem?_cons_succ] at b1
      have hst := keepI_step (i := o.num) hx
      obtain ⟨A1, c1, rfl⟩ := own_form hown
      have HOWN := Lib.hid hown; have HBEL := Lib.hid hbel
      by_cases hid : x.id = o.num
      · have t1 : (x.id != o.num) = false := by simpa using hid
        have HST := Lib.hid (hst.1 hid)
        clear hst hid hbox hx p1 p2 hown hbel
        go_wp2_with fail
        go_big_quiet (fail)
        go_wp2_with fail
        exact ⟨⟨k + 1, m, by omega, by go_num, by rw [HST.out]; exact own_kept HOWN.out (fun _ _ _ => rfl), by omega, by rw [HST.out]; exact hmm, below_drewN HBEL.out _⟩, by simp [intOf]; omega⟩
      · have t1 : (x.id != o.num) = true := by simpa using hid
        have HST := Lib.hid (hst.2 hid); have HX := Lib.hid hx
        clear hst hid hbox hx p1 p2 hown hbel
        go_wp2_with fail
        go_big_quiet (fail)
        obtain ⟨ad2, y, e2, _, hy, q0, q1, q2⟩ := (HRD.out.below (below_drewN HBEL.out nq)).itm hlt
        injection e2 with e2
        subst e2
        rw [HX.out] at hy
        injection hy with hy
        subst hy
        have q1' := cell_behind q1 (by omega)
        have q2' := cell_behind q2 (by omega)
        obtain ⟨v', w', hrun, hown', hbut⟩ := append_itmR (w := wr.drewN nq) (base := wq.heap.size) x (own_kept HOWN.out (fun _ _ _ => rfl)) HBEL.out.size (by omega)
        have hB' : Below wq.heap.size wq w' := (below_drewN HBEL.out nq).trans (hbut.below (fun k' _ hk' => own_ge HOWN.out k' hk') HBEL.out.size)
        have HRUN := Lib.hid hrun; have HOWN' := Lib.hid hown'; have HB' := Lib.hid hB'
        generalize hW3 : wr.drewN nq = W3 at *
        clear p0 p1' p2' q1 q2 hown' hbut hB' hrun HOWN HBEL b1
        go_wp2_with (at_builtin; refine wpList_append_run rfl _ _ _ rfl _ _ _ _ rfl rfl (HRUN.out _) ?_)
        exact ⟨⟨k + 1, m + 1, by omega, by go_num, by rw [HST.out]; exact HOWN'.out, by omega, by rw [HST.out, List.length_append, hmm]; rfl, HB'.out⟩, by simp [intOf]; omega⟩
    · obtain rfl : k = n := by omega
      rw [show L.take k = L by rw [← HN.out]; exact List.take_length] at hown hmm
      obtain ⟨A1, c1, rfl⟩ := own_form hown
      have hA2 := HA.out.below hbel
      have KT := Lib.hid (agTake_any o.num hA2)
      have hbox := HO.out.below hbel
      have b1 := cell_of hbox 1
      simp only [List.getElem?_toArray, List.getElem?_cons_zero, List.getElem?_cons_succ] at b1
      have HL := Lib.hid (RefAt.own hown hmm); have HBEL := Lib.hid hbel; have HBOX := Lib.hid hbox; have HA2 := Lib.hid hA2
      clear hown hA2 hbox hbel
      go_wp2_with fail
      refine KT.out.mono ?_
      rintro e w1 ⟨rfl, T⟩
      have HT := Lib.hid T
      clear T
      rw [HN.out, hmm]
      go_wp2_with fail
      have hbA := (HB.out.trans (HBEL.out.mono HB.out.size))
      have hB1 := hbA.trans (HT.out.to.bel HA2.out hbA.size)
      have hR1 := HL.out.to HA2.out HT.out.to
      have hO1 := HBOX.out.to HA2.out HT.out.to
      obtain ⟨v1, hA1, _⟩ := HT.out
      exact HQ.out _ _ _ _ _ _ _ _ _ _ _ _ _ _ _ _ _ _ _ _ _ _ _ _ _ _ _ _ _ _ _ _ _ _ _ _ ⟨v1, hA1, hR1, hB1⟩ hO1
end Go.Proofs.Ytafloaabjinkfaa
