/-
  AgendaPlays: an op of kind 1, Put.
-/
import Derived.Test.YtafloaabjinkfaaAgPlay
import Derived.Test.YtafloaabjinkfaaAgSame
import Derived.Test.YtafloaabjinkfaaIns3
namespace Go.Proofs.Ytafloaabjinkfaa
open Go.RowKit Go.Sort

section
variable {P : Program} {t e : TypeId} {z : Value} {size bytes : Nat} {W : World} {B p c : Nat} {A : Option Addr} {xs cs : List Value}
/-- 'append(append(nil, l...), x)', x's block made behind the first append. -/
theorem two_x (h : (P.info? e).map (fun i => (i.zero, i.size, i.bytes)) = some (some z, size, bytes)) (ht : P.underlying t = some (.slice e)) (hzs : z.cells.size = size) (hsz : 0 < size) (hby : bytes ≤ 1000) (hcs : cs.length = size)
    (ox : ∀ u ∈ xs, u.oneCell' = true) (oc : ∀ u ∈ cs, u.oneCell' = true) (h1 : Rd W B size A p xs) (hp : p ≤ 1000000) :
    ∃ A1 c1 w1 A2 c2 w2, (Builtin.append_ #[t, t] t #[.slice none 0 0, .slice A p c]).run P W = .ok (.slice A1 p c1) w1 ∧
      (Builtin.append_ #[t, t] t #[.slice A1 p c1, .slice (some ⟨w1.heap.size, 0, none⟩) 1 1]).run P (w1.alloc (.cells cs.toArray e)) = .ok (.slice A2 (p + 1) c2) w2 ∧
      w2.ownsRow W.heap.size e size (.slice A2 (p + 1) c2) (p + 1) (xs ++ cs) ∧ Below W.heap.size W w2 ∧ Below W.heap.size W w1 := by
  have hb1 : (0 + p) * bytes ≤ 140737488355328 := Nat.le_trans (Nat.mul_le_mul (show 0 + p ≤ 1000001 by omega) hby) (by omega)
  have hb2 : (p + 1) * bytes ≤ 140737488355328 := Nat.le_trans (Nat.mul_le_mul (show p + 1 ≤ 1000001 by omega) hby) (by omega)
  obtain ⟨v1, w1, r1, o1, g1, _⟩ := append_fresh (P := P) (ty := t) (c := c) h ht hzs hsz W.heap.size (.slice none 0 0) 0 [] (World.ownsRow_nil _ _ _ _) h1 ox (by unfold maxLen; omega) hb1 (Nat.le_refl _)
  have b1 : Below W.heap.size W w1 := (Below.refl _ _).grown g1 (Nat.le_refl _) (fun k h => by cases h)
  rw [Nat.zero_add, List.nil_append] at o1
  have z1 := b1.size
  have o1' : (w1.alloc (.cells cs.toArray e)).ownsRow W.heap.size e size v1 p xs := own_kept o1 fun q hq _ => Below.heap_alloc _ _ _ hq
  have hr : Rd (w1.alloc (.cells cs.toArray e)) (w1.heap.size + 1) size (some ⟨w1.heap.size, 0, none⟩) 1 cs := ⟨by rw [hcs, Nat.one_mul], fun _ => ⟨_, rfl, by simp, cells_new w1 cs _⟩⟩
  obtain ⟨v2, w2, r2, o2, g2, _⟩ := append_fresh (P := P) (ty := t) (c := 1) h ht hzs hsz W.heap.size v1 p _ o1' hr oc (by unfold maxLen; omega) hb2 (by simp; omega)
  have b2 : Below W.heap.size W w2 := (b1.alloc z1 _).grown g2 (by simp; omega) (own_ge o1)
  obtain ⟨A1, c1, rfl⟩ := own_form o1
  obtain ⟨A2, c2, rfl⟩ := own_form o2
  exact ⟨A1, c1, w1, A2, c2, w2, r1, r2, o2, b2, b1⟩
/-- x's block made ahead. -/
theorem two_y (h : (P.info? e).map (fun i => (i.zero, i.size, i.bytes)) = some (some z, size, bytes)) (ht : P.underlying t = some (.slice e)) (hzs : z.cells.size = size) (hsz : 0 < size) (hby : bytes ≤ 1000) (hcs : cs.length = size)
    (ox : ∀ u ∈ xs, u.oneCell' = true) (oc : ∀ u ∈ cs, u.oneCell' = true) (h1 : Rd W B size A p xs) (hB : B ≤ W.heap.size) (hp : p ≤ 1000000) :
    ∃ A1 c1 w1 A2 c2 w2, (Builtin.append_ #[t, t] t #[.slice none 0 0, .slice A p c]).run P (W.alloc (.cells cs.toArray e)) = .ok (.slice A1 p c1) w1 ∧
      (Builtin.append_ #[t, t] t #[.slice A1 p c1, .slice (some ⟨W.heap.size, 0, none⟩) 1 1]).run P w1 = .ok (.slice A2 (p + 1) c2) w2 ∧
      w2.ownsRow W.heap.size e size (.slice A2 (p + 1) c2) (p + 1) (xs ++ cs) ∧ Below W.heap.size W w2 ∧ Below W.heap.size W w1 := by
  have hb1 : (0 + p) * bytes ≤ 140737488355328 := Nat.le_trans (Nat.mul_le_mul (show 0 + p ≤ 1000001 by omega) hby) (by omega)
  have hb2 : (p + 1) * bytes ≤ 140737488355328 := Nat.le_trans (Nat.mul_le_mul (show p + 1 ≤ 1000001 by omega) hby) (by omega)
  have b0 : Below W.heap.size W (W.alloc (.cells cs.toArray e)) := (Below.refl _ _).alloc (Nat.le_refl _) _
  have hr : Rd (W.alloc (.cells cs.toArray e)) (W.heap.size + 1) size (some ⟨W.heap.size, 0, none⟩) 1 cs := ⟨by rw [hcs, Nat.one_mul], fun _ => ⟨_, rfl, by simp, cells_new W cs _⟩⟩
  have s0 : (W.alloc (.cells cs.toArray e)).heap.size = W.heap.size + 1 := by simp
  obtain ⟨v1, w1, r1, o1, g1, _⟩ := append_fresh (P := P) (ty := t) (c := c) h ht hzs hsz (W.heap.size + 1) (.slice none 0 0) 0 [] (World.ownsRow_nil _ _ _ _) (h1.below (b0.mono hB)) ox (by unfold maxLen; omega) hb1 (by rw [s0]; exact Nat.le_refl _)
  have b01 : Below (W.heap.size + 1) (W.alloc (.cells cs.toArray e)) w1 := (Below.refl _ _).grown g1 (by rw [s0]; exact Nat.le_refl _) (fun k h => by cases h)
  rw [Nat.zero_add, List.nil_append] at o1
  have b1 : Below W.heap.size W w1 := b0.trans (b01.mono (by omega))
  have z1 : W.heap.size + 1 ≤ w1.heap.size := by have := b01.size; omega
  obtain ⟨v2, w2, r2, o2, g2, _⟩ := append_fresh (P := P) (ty := t) (c := 1) h ht hzs hsz (W.heap.size + 1) v1 p _ o1 (hr.below b01) oc (by unfold maxLen; omega) hb2 z1
  have b2 : Below W.heap.size W w2 := b1.grown g2 (by omega) (fun k hk => by have := own_ge o1 k hk; omega)
  obtain ⟨A1, c1, rfl⟩ := own_form o1
  obtain ⟨A2, c2, rfl⟩ := own_form o2
  exact ⟨A1, c1, w1, A2, c2, w2, r1, r2, own_base o2 (by omega), b2, b1⟩
end
theorem putsI_step {L l : List Itm} {k : Nat} {x : Itm} (h : l[k]? = some x) : putsI L (l.take (k + 1)) = putI (putsI L (l.take k)) x := by
  obtain ⟨hk, rfl⟩ := List.getElem?_eq_some_iff.1 h
  unfold putsI
  rw [List.take_succ_eq_append_getElem hk, List.foldl_append]
  rfl
theorem own_cap {w : World} {B n c size : Nat} {e : TypeId} {A : Option Addr} {xs : List Value} (h : w.ownsRow B e size (.slice A n c) n xs) : n ≤ c := by
  rcases h.2 with ⟨hv, h0⟩ | ⟨g, cap, cur, hv, hB, hh, hnc, _⟩
  · omega
  · injection hv with _ _ h3
    omega
noncomputable def apK1a : Code := subCode [1, 1, 1, 1, 0, 1, 0, 0, 1, 0, 0, 1, 1, 1, 0, 1, 0, 1, 0, 0] (Try.f3.body.getD .skip)
set_option maxRecDepth 100000 in
set_option maxHeartbeats 4000000 in
theorem apK1a_any (s0 s1 s2 s3 s4 s5 s7 s8 s9 s10 s11 s12 s13 s14 s15 s16 s17 s18 s19 s20 s21 s22 s23 s24 s25 s26 s27 s28 s29 s30 s31 s32 s33 s34 s35 s36 s37 s38 s39 s40 s41 s42 s43 s44 s45 s46 s47 s48 s49 s50 s51 s52 s53 s54 s55 s56 s57 s58 s59 s60 s61 s62 s63 s64 s65 s66 s67 s68 s69 s70 s71 s72 s73 s74 s75 s76 s77 s78 s79 s80 s81 s82 s83 s84 s85 s86 s87 s88 s89 s90 s91 s92 s93 s94 s95 s96 s97 s98 s99 s100 s101 s102 s103 s104 s105 s106 s107 s108 s109 s110 s111 s112 s113 s114 s115 s116 s117 s118 s119 s120 s121 s122 s123 s124 s125 s126 s127 s128 s129 s130 s131 s132 s133 s134 s135 s136 s137 s138 s139 s140 s141 s142 s143 s144 s145 s146 s147 s148 s149 s150 s151 s152 s153 s154 s155 s156 s157 s158 s159 s160 s161 s162 s163 s164 s165 s166 s167 s168 s169 s170 s171 s172 s173 s174 s175 s176 s177 s178 s179 s180 s181 s182 s183 s184 s185 s186 s187 s188 s189 s190 s191 s192 s193 s194 s195 s196 s197 s198 s199 s200 s201 s202 s203 s204 s205 s206 s207 s208 s209 s210 s211 s212 s213 s214 s215 s216 s217 s218 s219 s220 s221 s222 s223 s224 s225 s226 s227 s228 s229 s230 s231 s232 s233 s234 s235 s236 s237 s238 s239 s240 s241 s242 s243 s244 s245 s246 s247 s248 s249 s250 s251 s252 s253 s254 s255 s256 s257 s258 s259 s260 s261 s262 s263 s264 s265 s266 s267 s268 s269 s270 s271 s272 s273 : Value) (Q0 : Exit → Act → World → Prop) (ob p B : Nat) (o : OpR) (wq : World) (hO : OpBox wq ob o)
    (hR : Rd wq B 3 o.A p (itms o.l)) (hB : B ≤ wq.heap.size) (h30 : p ≤ 30)
    (hQ : ∀ (u81 u82 u83 u84 u85 u86 u87 u88 u89 u90 : Value) (A2 : Option Addr) (c2 : Nat) (w2 : World), w2.ownsRow wq.heap.size 33 3 (.slice A2 (p + 1) c2) (p + 1) (itms (o.l ++ [⟨0, 0, -77⟩])) → Below wq.heap.size wq w2 → Q0 .normal ⟨#[s0, s1, s2, s3, s4, s5, .pointer (some ⟨ob, 0, none⟩), s7, .slice A2 p c2, s9, s10, s11, s12, s13, s14, s15, s16, s17, s18, s19, s20, s21, s22, s23, s24, s25, s26, s27, s28, s29, s30, s31, s32, s33, s34, s35, s36, s37, s38, s39, s40, s41, s42, s43, s44, s45, s46, s47, s48, s49, s50, s51, s52, s53, s54, s55, s56, s57, s58, s59, s60, s61, s62, s63, s64, s65, s66, s67, s68, s69, s70, s71, s72, s73, s74, s75, s76, s77, s78, s79, s80, u81, u82, u83, u84, u85, u86, u87, u88, u89, u90, s91, s92, s93, s94, s95, s96, s97, s98, s99, s100, s101, s102, s103, s104, s105, s106, s107, s108, s109, s110, s111, s112, s113, s114, s115, s116, s117, s118, s119, s120, s121, s122, s123, s124, s125, s126, s127, s128, s129, s130, s131, s132, s133, s134, s135, s136, s137, s138, s139, s140, s141, s142, s143, s144, s145, s146, s147, s148, s149, s150, s151, s152, s153, s154, s155, s156, s157, s158, s159, s160, s161, s162, s163, s164, s165, s166, s167, s168, s169, s170, s171, s172, s173, s174, s175, s176, s177, s178, s179, s180, s181, s182, s183, s184, s185, s186, s187, s188, s189, s190, s191, s192, s193, s194, s195, s196, s197, s198, s199, s200, s201, s202, s203, s204, s205, s206, s207, s208, s209, s210, s211, s212, s213, s214, s215, s216, s217, s218, s219, s220, s221, s222, s223, s224, s225, s226, s227, s228, s229, s230, s231, s232, s233, s234, s235, s236, s237, s238, s239, s240, s241, s242, s243, s244, s245, s246, s247, s248, s249, s250, s251, s252, s253, s254, s255, s256, s257, s258, s259, s260, s261, s262, s263, s264, s265, s266, s267, s268, s269, s270, s271, s272, s273], []⟩ w2) :
    Code.wp Try.prog apK1a Q0 ⟨#[s0, s1, s2, s3, s4, s5, .pointer (some ⟨ob, 0, none⟩), s7, s8, s9, s10, s11, s12, s13, s14, s15, s16, s17, s18, s19, s20, s21, s22, s23, s24, s25, s26, s27, s28, s29, s30, s31, s32, s33, s34, s35, s36, s37, s38, s39, s40, s41, s42, s43, s44, s45, s46, s47, s48, s49, s50, s51, s52, s53, s54, s55, s56, s57, s58, s59, s60, s61, s62, s63, s64, s65, s66, s67, s68, s69, s70, s71, s72, s73, s74, s75, s76, s77, s78, s79, s80, s81, s82, s83, s84, s85, s86, s87, s88, s89, s90, s91, s92, s93, s94, s95, s96, s97, s98, s99, s100, s101, s102, s103, s104, s105, s106, s107, s108, s109, s110, s111, s112, s113, s114, s115, s116, s117, s118, s119, s120, s121, s122, s123, s124, s125, s126, s127, s128, s129, s130, s131, s132, s133, s134, s135, s136, s137, s138, s139, s140, s141, s142, s143, s144, s145, s146, s147, s148, s149, s150, s151, s152, s153, s154, s155, s156, s157, s158, s159, s160, s161, s162, s163, s164, s165, s166, s167, s168, s169, s170, s171, s172, s173, s174, s175, s176, s177, s178, s179, s180, s181, s182, s183, s184, s185, s186, s187, s188, s189, s190, s191, s192, s193, s194, s195, s196, s197, s198, s199, s200, s201, s202, s203, s204, s205, s206, s207, s208, s209, s210, s211, s212, s213, s214, s215, s216, s217, s218, s219, s220, s221, s222, s223, s224, s225, s226, s227, s228, s229, s230, s231, s232, s233, s234, s235, s236, s237, s238, s239, s240, s241, s242, s243, s244, s245, s246, s247, s248, s249, s250, s251, s252, s253, s254, s255, s256, s257, s258, s259, s260, s261, s262, s263, s264, s265, s266, s267, s268, s269, s270, s271, s272, s273], []⟩ wq := by
  have hp := hR.itms_len
  have FIN : Hid (∀ (u81 u82 u83 u84 u85 u86 u87 u88 u89 u90 : Value) (A2 : Option Addr) (c2 : Nat) (w2 : World), w2.ownsRow wq.drew.heap.size 33 3 (.slice A2 (p + 1) c2) (p + 1) (itms o.l ++ [.int .i64 0, .int .i64 0, .int .i64 (-77)]) → Below wq.drew.heap.size wq.drew w2 → Q0 .normal ⟨#[s0, s1, s2, s3, s4, s5, .pointer (some ⟨ob, 0, none⟩), s7, .slice A2 p c2, s9, s10, s11, s12, s13, s14, s15, s16, s17, s18, s19, s20, s21, s22, s23, s24, s25, s26, s27, s28, s29, s30, s31, s32, s33, s34, s35, s36, s37, s38, s39, s40, s41, s42, s43, s44, s45, s46, s47, s48, s49, s50, s51, s52, s53, s54, s55, s56, s57, s58, s59, s60, s61, s62, s63, s64, s65, s66, s67, s68, s69, s70, s71, s72, s73, s74, s75, s76, s77, s78, s79, s80, u81, u82, u83, u84, u85, u86, u87, u88, u89, u90, s91, s92, s93, s94, s95, s96, s97, s98, s99, s100, s101, s102, s103, s104, s105, s106, s107, s108, s109, s110, s111, s112, s113, s114, s115, s116, s117, s118, s119, s120, s121, s122, s123, s124, s125, s126, s127, s128, s129, s130, s131, s132, s133, s134, s135, s136, s137, s138, s139, s140, s141, s142, s143, s144, s145, s146, s147, s148, s149, s150, s151, s152, s153, s154, s155, s156, s157, s158, s159, s160, s161, s162, s163, s164, s165, s166, s167, s168, s169, s170, s171, s172, s173, s174, s175, s176, s177, s178, s179, s180, s181, s182, s183, s184, s185, s186, s187, s188, s189, s190, s191, s192, s193, s194, s195, s196, s197, s198, s199, s200, s201, s202, s203, s204, s205, s206, s207, s208, s209, s210, s211, s212, s213, s214, s215, s216, s217, s218, s219, s220, s221, s222, s223, s224, s225, s226, s227, s228, s229, s230, s231, s232, s233, s234, s235, s236, s237, s238, s239, s240, s241, s242, s243, s244, s245, s246, s247, s248, s249, s250, s251, s252, s253, s254, s255, s256, s257, s258, s259, s260, s261, s262, s263, s264, s265, s266, s267, s268, s269, s270, s271, s272, s273], []⟩ w2) := fun u81 u82 u83 u84 u85 u86 u87 u88 u89 u90 A2 c2 w2 k1 k2 => hQ u81 u82 u83 u84 u85 u86 u87 u88 u89 u90 A2 c2 w2 (by rw [itms_append]; exact k1) ((Below.refl _ wq).drew.trans k2)
  have hob := hO
  unfold OpBox at hob
  rw [hp] at hob
  have HOB := Lib.hid hob
  clear hQ hO
  refine wp_onEndA ?_
  conv => arg 2; whnf
  conv => arg 4; dsimp only
  have x2 := cell_of HOB.out 2
  simp only [List.getElem?_toArray, List.getElem?_cons_zero, List.getElem?_cons_succ] at x2
  have hRd : Rd wq.drew wq.heap.size 3 o.A p (itms o.l) := hR.wide hB
  obtain ⟨A1, c1, w1, A2, c2, w2, r1, r2, o2, b2, b1⟩ := two_x (P := Try.prog) (W := wq.drew) (c := o.c) (cs := [.int .i64 0, .int .i64 0, .int .i64 (-77)]) infoItm Try.underlying25 rfl (by omega) (by omega) rfl (itms_one _) (by intro u hu; simp at hu; rcases hu with rfl | rfl | rfl <;> rfl) hRd (by omega)
  obtain ⟨D1, d1, y1, D2, d2, y2, s1, s2, q2, e2, e1⟩ := two_y (P := Try.prog) (W := wq.drew) (c := o.c) (cs := [.int .i64 0, .int .i64 0, .int .i64 (-77)]) infoItm Try.underlying25 rfl (by omega) (by omega) rfl (itms_one _) (by intro u hu; simp at hu; rcases hu with rfl | rfl | rfl <;> rfl) hRd (Nat.le_refl _) (by omega)
  have v1 : w1.cell? ⟨ob, 2, none⟩ = some (.slice o.A p o.c) := (b1.cell (p := ⟨ob, 2, none⟩) (lt_of_blk HOB.out)).trans x2
  have v2 : w2.cell? ⟨ob, 2, none⟩ = some (.slice o.A p o.c) := (b2.cell (p := ⟨ob, 2, none⟩) (lt_of_blk HOB.out)).trans x2
  have v3 : y1.cell? ⟨ob, 2, none⟩ = some (.slice o.A p o.c) := (e1.cell (p := ⟨ob, 2, none⟩) (lt_of_blk HOB.out)).trans x2
  have v4 : y2.cell? ⟨ob, 2, none⟩ = some (.slice o.A p o.c) := (e2.cell (p := ⟨ob, 2, none⟩) (lt_of_blk HOB.out)).trans x2
  have hobl : ob < wq.heap.size := lt_of_blk HOB.out
  have v5 : (w1.alloc (.cells #[.int .i64 0, .int .i64 0, .int .i64 (-77)] 33)).cell? ⟨ob, 2, none⟩ = some (.slice o.A p o.c) := ((show Below w1.heap.size w1 _ from (Below.refl _ _).alloc (Nat.le_refl _) _).cell (p := ⟨ob, 2, none⟩) (Nat.lt_of_lt_of_le hobl b1.size)).trans v1
  have v6 : (wq.drew.alloc (.cells #[.int .i64 0, .int .i64 0, .int .i64 (-77)] 33)).cell? ⟨ob, 2, none⟩ = some (.slice o.A p o.c) := ((show Below wq.drew.heap.size wq.drew _ from (Below.refl _ _).alloc (Nat.le_refl _) _).cell (p := ⟨ob, 2, none⟩) hobl).trans x2
  have R1 := Lib.hid r1; have R2 := Lib.hid r2; have S1 := Lib.hid s1; have S2 := Lib.hid s2
  have O2 := Lib.hid o2; have B2 := Lib.hid b2; have Q2 := Lib.hid q2; have E2 := Lib.hid e2
  have k2 : (p : Int) ≤ (c2 : Int) := by have := own_cap o2; omega
  have k4 : (p : Int) ≤ (d2 : Int) := by have := own_cap q2; omega
  clear r1 r2 s1 s2 o2 b2 b1 q2 e2 e1 hRd hob hR
  go_region_law (first
    | (refine step_append_run rfl _ (.tmp 82) 25 rfl (.slice none 0 0) (.slice o.A p o.c) _ w1 rfl (by simp [Act.eval, Act.put]) R1.out ?_)
    | (refine step_append_run rfl (.tmp 83) (.tmp 85) 25 rfl (.slice A1 p c1) (.slice (some ⟨w1.heap.size, 0, none⟩) 1 1) _ w2 (by simp [Act.eval, Act.put]) (by simp [Act.eval, Act.put]) R2.out ?_)
    | (refine step_append_run rfl _ (.tmp 82) 25 rfl (.slice none 0 0) (.slice o.A p o.c) _ y1 rfl (by simp [Act.eval, Act.put]) S1.out ?_)
    | (refine step_append_run rfl (.tmp 83) (.tmp 85) 25 rfl (.slice D1 p d1) (.slice (some ⟨wq.heap.size, 0, none⟩) 1 1) _ y2 (by simp [Act.eval, Act.put]) (by simp [Act.eval, Act.put]) S2.out ?_))
  all_goals go_simp
  all_goals first | exact FIN.out _ _ _ _ _ _ _ _ _ _ A2 c2 w2 O2.out B2.out | exact FIN.out _ _ _ _ _ _ _ _ _ _ D2 d2 y2 Q2.out E2.out
end Go.Proofs.Ytafloaabjinkfaa
