/-
  BookPlays: a round, from its head.
-/
import Derived.Test.YtpbdmohccebhhaaGreatMany17
namespace Go.Proofs.YtpbdmohccebhhaaGreat
open Go.RowKit

noncomputable def bpX : Code := subCode [1, 1, 1, 1, 1, 0, 1, 0, 0, 1, 0, 0] (Tryz.f3.body.getD .skip)
noncomputable def bpR9 : Code := subCode [1, 1, 1, 1, 1, 0, 1, 0, 0, 1, 0, 0, 0] (Tryz.f3.body.getD .skip)
noncomputable def bpEarly : Code := subCode [1, 1, 1, 1, 1, 0, 1, 0, 0, 1, 0, 0, 1, 0] (Tryz.f3.body.getD .skip)
noncomputable def bpR12 : Code := subCode [1, 1, 1, 1, 1, 0, 1, 0, 0, 1, 0, 0, 1, 1, 0] (Tryz.f3.body.getD .skip)
noncomputable def bpR13 : Code := subCode [1, 1, 1, 1, 1, 0, 1, 0, 0, 1, 0, 0, 1, 1, 1, 0] (Tryz.f3.body.getD .skip)
noncomputable def bpR14 : Code := subCode [1, 1, 1, 1, 1, 0, 1, 0, 0, 1, 0, 0, 1, 1, 1, 1, 0] (Tryz.f3.body.getD .skip)
noncomputable def bpR15 : Code := subCode [1, 1, 1, 1, 1, 0, 1, 0, 0, 1, 0, 0, 1, 1, 1, 1, 1, 0] (Tryz.f3.body.getD .skip)
theorem BPlay.below {w0 wr w' : World} {b m : Nat} {bv rv : Value} (h : BPlay w0 wr b bv rv m) (hb : Below wr.heap.size wr w') : BPlay w0 w' b bv rv m := by
  obtain ⟨c, v, l, A, cp, r, h1, h2, h3, h4⟩ := h
  exact ⟨c, v, l, A, cp, r, h1, h2, h3.below hb, h4⟩

set_option maxRecDepth 100000 in
set_option maxHeartbeats 8000000 in
theorem bpX_any (s3 s4 s5 s6 s11 s12 s13 s14 s15 s16 s17 s18 s19 s20 s21 s22 s23 s24 s25 s26 s27 s28 s29 s30 s31 s32 s33 s34 s35 s36 s37 s38 s39 s40 s41 s42 s43 s44 s45 s46 s47 s48 s49 s50 s51 s52 s53 s54 s55 s56 s57 s58 s59 s60 s61 s62 s63 s64 s65 s66 s67 s68 s69 s70 s71 s72 s73 s74 s75 s76 s77 s78 s79 s80 s81 s82 s83 s84 s85 s86 s87 s88 s89 s90 s91 s92 s93 s94 s95 s96 s97 s98 s99 s100 s101 s102 s103 s104 s105 s106 s107 s108 s109 s110 s111 s112 s113 s114 s115 s116 s117 s118 s119 s120 s121 s122 s123 s124 s125 s126 s127 s128 s129 s130 s131 s132 s133 s134 s135 s136 s137 s138 s139 s140 s141 s142 s143 s144 s145 s146 s147 s148 s149 s150 s151 s152 s153 s154 s155 s156 s157 s158 s159 s160 s161 s162 s163 s164 s165 s166 s167 s168 s169 s170 s171 s172 s173 s174 s175 s176 s177 s178 s179 s180 s181 s182 s183 s184 s185 s186 s187 s188 s189 s190 s191 s192 s193 s194 s195 s196 s197 s198 s199 s200 s201 s202 s203 s204 s205 s206 s207 s208 s209 s210 s211 s212 s213 s214 s215 s216 s217 s218 s219 s220 s221 s222 s223 s224 s225 s226 s227 s228 s229 s230 s231 s232 s233 s234 s235 s236 s237 s238 s239 s240 s241 s242 s243 s244 s245 s246 s247 s248 s249 s250 s251 s252 s253 s254 s255 s256 s257 s258 s259 s260 s261 s262 s263 s264 s265 s266 s267 s268 s269 s270 s271 s272 s273 s274 s275 s276 s277 s278 s279 s280 s281 s282 s283 s284 s285 s286 s287 s288 s289 s290 s291 s292 s293 s294 s295 s296 s297 s298 s299 s300 s301 s302 s303 s304 s305 s306 s307 s308 s309 s310 s311 s312 s313 s314 s315 s316 s317 s318 s319 s320 s321 s322 s323 s324 s325 s326 s327 s328 s329 : Value) (Q0 : Exit → Act → World → Prop) (ops : List BOp) (x : Int) (s : ByteArray) (A0 : Option Addr) (n0 c0 b m : Nat) (w wr : World) (bv rv : Value) (h0 : Rd w w.heap.size 8 A0 n0 (ops.flatMap BOp.cells)) (hl0 : ∀ o ∈ ops, Rd w w.heap.size 3 o.A o.j.lines.length (lins o.j.lines)) (hn0 : n0 ≤ 50) (hmn : m < n0) (hplay : BPlay w wr b bv rv m)
    (hR : ∀ (u11 u53 u54 u55 u56 u57 u58 u59 u60 u61 u62 u63 u64 u65 u66 u67 u68 : Value) (w' : World), Below w.heap.size w w' → Q0 .ret ⟨#[.slice A0 n0 c0, .int .i64 x, .string s, s3, s4, s5, .bool true, bv, rv, .pointer (some ⟨b, 0, none⟩), .int .i64 (m : Nat), u11, s12, s13, s14, s15, s16, s17, s18, s19, s20, s21, s22, s23, s24, s25, s26, s27, s28, s29, s30, s31, s32, s33, s34, s35, s36, s37, s38, s39, s40, s41, s42, s43, s44, s45, s46, s47, s48, s49, s50, s51, s52, u53, u54, u55, u56, u57, u58, u59, u60, u61, u62, u63, u64, u65, u66, u67, u68, s69, s70, s71, s72, s73, s74, s75, s76, s77, s78, s79, s80, s81, s82, s83, s84, s85, s86, s87, s88, s89, s90, s91, s92, s93, s94, s95, s96, s97, s98, s99, s100, s101, s102, s103, s104, s105, s106, s107, s108, s109, s110, s111, s112, s113, s114, s115, s116, s117, s118, s119, s120, s121, s122, s123, s124, s125, s126, s127, s128, s129, s130, s131, s132, s133, s134, s135, s136, s137, s138, s139, s140, s141, s142, s143, s144, s145, s146, s147, s148, s149, s150, s151, s152, s153, s154, s155, s156, s157, s158, s159, s160, s161, s162, s163, s164, s165, s166, s167, s168, s169, s170, s171, s172, s173, s174, s175, s176, s177, s178, s179, s180, s181, s182, s183, s184, s185, s186, s187, s188, s189, s190, s191, s192, s193, s194, s195, s196, s197, s198, s199, s200, s201, s202, s203, s204, s205, s206, s207, s208, s209, s210, s211, s212, s213, s214, s215, s216, s217, s218, s219, s220, s221, s222, s223, s224, s225, s226, s227, s228, s229, s230, s231, s232, s233, s234, s235, s236, s237, s238, s239, s240, s241, s242, s243, s244, s245, s246, s247, s248, s249, s250, s251, s252, s253, s254, s255, s256, s257, s258, s259, s260, s261, s262, s263, s264, s265, s266, s267, s268, s269, s270, s271, s272, s273, s274, s275, s276, s277, s278, s279, s280, s281, s282, s283, s284, s285, s286, s287, s288, s289, s290, s291, s292, s293, s294, s295, s296, s297, s298, s299, s300, s301, s302, s303, s304, s305, s306, s307, s308, s309, s310, s311, s312, s313, s314, s315, s316, s317, s318, s319, s320, s321, s322, s323, s324, s325, s326, s327, s328, s329], []⟩ w')
    (hQ : ∀ (u6 u7 u8 u11 u12 u13 u14 u15 u16 u17 u18 u19 u20 u21 u22 u23 u24 u25 u26 u53 u54 u55 u56 u57 u58 u59 u60 u61 u62 u63 u64 u65 u66 u67 u68 u69 u70 u71 u72 u73 u74 u75 u76 u77 u78 u79 u80 u81 u82 u83 u84 u85 u86 u87 u88 u89 u90 u91 u92 u93 u94 u95 u96 u97 u98 u99 u100 u101 u102 u103 u104 u105 u106 u107 u108 u109 u110 u111 u112 u113 u114 u115 u116 u117 u118 u119 u120 u121 u122 u123 u124 u125 u126 u127 u128 u129 u130 u131 u132 u133 u134 u135 u136 u137 u138 u139 u140 u141 u142 u143 u144 u145 u146 u147 u148 u149 u150 u151 u152 u153 u154 u155 u156 u157 u158 u159 u160 u161 u162 u163 u164 u165 u166 u167 u168 u169 u170 u171 u172 u173 u174 u175 u176 u177 u178 u179 u180 u181 u182 u183 u184 u185 u186 u187 u188 u189 u190 u191 u192 u193 u194 u195 u196 u197 u198 u199 u200 u201 u202 u203 u204 u205 u206 u207 u208 u209 u210 u211 u212 u213 u214 u215 u216 u217 u218 u219 u220 u221 u222 u223 u224 u225 u226 u227 u228 u229 u230 u231 u232 u233 u234 u235 u236 u237 u238 u239 u240 u241 u242 u243 u244 u245 u246 u247 u248 u249 u250 u251 u252 u253 u254 u255 u256 u257 u258 u259 u260 u261 u262 u263 u264 u265 u266 u267 : Value) (w' : World), BPlay w w' b u7 u8 (m + 1) → Q0 .normal ⟨#[.slice A0 n0 c0, .int .i64 x, .string s, s3, s4, s5, u6, u7, u8, .pointer (some ⟨b, 0, none⟩), .int .i64 (m : Nat), u11, u12, u13, u14, u15, u16, u17, u18, u19, u20, u21, u22, u23, u24, u25, u26, s27, s28, s29, s30, s31, s32, s33, s34, s35, s36, s37, s38, s39, s40, s41, s42, s43, s44, s45, s46, s47, s48, s49, s50, s51, s52, u53, u54, u55, u56, u57, u58, u59, u60, u61, u62, u63, u64, u65, u66, u67, u68, u69, u70, u71, u72, u73, u74, u75, u76, u77, u78, u79, u80, u81, u82, u83, u84, u85, u86, u87, u88, u89, u90, u91, u92, u93, u94, u95, u96, u97, u98, u99, u100, u101, u102, u103, u104, u105, u106, u107, u108, u109, u110, u111, u112, u113, u114, u115, u116, u117, u118, u119, u120, u121, u122, u123, u124, u125, u126, u127, u128, u129, u130, u131, u132, u133, u134, u135, u136, u137, u138, u139, u140, u141, u142, u143, u144, u145, u146, u147, u148, u149, u150, u151, u152, u153, u154, u155, u156, u157, u158, u159, u160, u161, u162, u163, u164, u165, u166, u167, u168, u169, u170, u171, u172, u173, u174, u175, u176, u177, u178, u179, u180, u181, u182, u183, u184, u185, u186, u187, u188, u189, u190, u191, u192, u193, u194, u195, u196, u197, u198, u199, u200, u201, u202, u203, u204, u205, u206, u207, u208, u209, u210, u211, u212, u213, u214, u215, u216, u217, u218, u219, u220, u221, u222, u223, u224, u225, u226, u227, u228, u229, u230, u231, u232, u233, u234, u235, u236, u237, u238, u239, u240, u241, u242, u243, u244, u245, u246, u247, u248, u249, u250, u251, u252, u253, u254, u255, u256, u257, u258, u259, u260, u261, u262, u263, u264, u265, u266, u267, s268, s269, s270, s271, s272, s273, s274, s275, s276, s277, s278, s279, s280, s281, s282, s283, s284, s285, s286, s287, s288, s289, s290, s291, s292, s293, s294, s295, s296, s297, s298, s299, s300, s301, s302, s303, s304, s305, s306, s307, s308, s309, s310, s311, s312, s313, s314, s315, s316, s317, s318, s319, s320, s321, s322, s323, s324, s325, s326, s327, s328, s329], []⟩ w') :
    Code.wp Tryz.prog bpX Q0 ⟨#[.slice A0 n0 c0, .int .i64 x, .string s, s3, s4, s5, s6, bv, rv, .pointer (some ⟨b, 0, none⟩), .int .i64 (m : Nat), s11, s12, s13, s14, s15, s16, s17, s18, s19, s20, s21, s22, s23, s24, s25, s26, s27, s28, s29, s30, s31, s32, s33, s34, s35, s36, s37, s38, s39, s40, s41, s42, s43, s44, s45, s46, s47, s48, s49, s50, s51, s52, s53, s54, s55, s56, s57, s58, s59, s60, s61, s62, s63, s64, s65, s66, s67, s68, s69, s70, s71, s72, s73, s74, s75, s76, s77, s78, s79, s80, s81, s82, s83, s84, s85, s86, s87, s88, s89, s90, s91, s92, s93, s94, s95, s96, s97, s98, s99, s100, s101, s102, s103, s104, s105, s106, s107, s108, s109, s110, s111, s112, s113, s114, s115, s116, s117, s118, s119, s120, s121, s122, s123, s124, s125, s126, s127, s128, s129, s130, s131, s132, s133, s134, s135, s136, s137, s138, s139, s140, s141, s142, s143, s144, s145, s146, s147, s148, s149, s150, s151, s152, s153, s154, s155, s156, s157, s158, s159, s160, s161, s162, s163, s164, s165, s166, s167, s168, s169, s170, s171, s172, s173, s174, s175, s176, s177, s178, s179, s180, s181, s182, s183, s184, s185, s186, s187, s188, s189, s190, s191, s192, s193, s194, s195, s196, s197, s198, s199, s200, s201, s202, s203, s204, s205, s206, s207, s208, s209, s210, s211, s212, s213, s214, s215, s216, s217, s218, s219, s220, s221, s222, s223, s224, s225, s226, s227, s228, s229, s230, s231, s232, s233, s234, s235, s236, s237, s238, s239, s240, s241, s242, s243, s244, s245, s246, s247, s248, s249, s250, s251, s252, s253, s254, s255, s256, s257, s258, s259, s260, s261, s262, s263, s264, s265, s266, s267, s268, s269, s270, s271, s272, s273, s274, s275, s276, s277, s278, s279, s280, s281, s282, s283, s284, s285, s286, s287, s288, s289, s290, s291, s292, s293, s294, s295, s296, s297, s298, s299, s300, s301, s302, s303, s304, s305, s306, s307, s308, s309, s310, s311, s312, s313, s314, s315, s316, s317, s318, s319, s320, s321, s322, s323, s324, s325, s326, s327, s328, s329], []⟩ wr := by
  have hbel : Below w.heap.size w wr := by obtain ⟨c, v, l, A, cp, r, _, _, h3, _⟩ := hplay; exact h3.bel
  have hzx := hbel.size
  have hl : ops.length = n0 := by
    have := h0.1
    rw [flat_len (cells := BOp.cells) (size := 8) (fun _ => rfl)] at this
    omega
  obtain ⟨ad, o, rfl, hbo, ho, hcells⟩ := (h0.below hbel).flat (cells := BOp.cells) (fun _ => rfl) (by omega) (i := m) hmn
  have HSRC := Lib.hid (hl0 o (List.mem_of_getElem? ho))
  have p0 : wr.cell? (ad.add (m * 8)) = some (.int .i64 o.k) := hcells 0 _ rfl
  have p1 := cell_behind (hcells 1 _ rfl) (by omega)
  have p2 := cell_behind (hcells 2 _ rfl) (by omega)
  have p3 := cell_behind (hcells 3 _ rfl) (by omega)
  have p4 := cell_behind (hcells 4 _ rfl) (by omega)
  have p5 := cell_behind (hcells 5 _ rfl) (by omega)
  have p6 := cell_behind (hcells 6 _ rfl) (by omega)
  have p7 := cell_behind (hcells 7 _ rfl) (by omega)
  have hmI : (m : Int) < (n0 : Int) := by omega
  obtain ⟨W, hW⟩ : ∃ W, wr.alloc (.cells #[.int .i64 o.k, .int .i64 o.id, .int .i64 o.j.id, .int .i64 o.j.ent, .int .i64 o.j.per, .string o.j.ref, .slice o.A o.j.lines.length o.c, .bool o.j.void] 45) = W := ⟨_, rfl⟩
  have hb : Below wr.heap.size wr W := by rw [← hW]; exact (Below.refl _ _).alloc (Nat.le_refl _) _
  have hop : BOpAt W wr.heap.size o := by rw [← hW]; exact heap_new _ _
  obtain ⟨d0, d1, d2, d3, d4, d5, d6, d7⟩ := hop.all
  have HP := Lib.hid (hplay.below hb)
  have HBW : Hid (Below w.heap.size w W) := hbel.trans (hb.mono hzx)
  have HOP := Lib.hid hop; have HW := Lib.hid hW; have HQ := Lib.hid hQ; have HRT := Lib.hid hR
  clear hQ hR hplay hcells hbel h0 hl0 hW hb hop ho
  show Code.wp Tryz.prog (Code.seq bpR9 (Code.seq bpEarly (Code.seq bpR12 (Code.seq bpR13 (Code.seq bpR14 (Code.seq bpR15 (Code.seq bpIf bpRest))))))) _ _ _
  refine wp_seq ?_
  conv => arg 2; whnf
  conv => arg 4; dsimp only
  by_cases hlong : 20 < o.j.lines.length
  · have hI : (20 : Int) < (o.j.lines.length : Int) := by omega
    go_wp2_with fail
    rw [HW.out]
    conv => arg 2; whnf
    conv => arg 4; dsimp only
    go_wp2_with fail
    exact HRT.out _ _ _ _ _ _ _ _ _ _ _ _ _ _ _ _ _ _ HBW.out
  have hI : ¬ (20 : Int) < (o.j.lines.length : Int) := by omega
  by_cases hbig : 60 < o.j.ref.size
  · have hI2 : (60 : Int) < (o.j.ref.size : Int) := by omega
    go_wp2_with fail
    rw [HW.out]
    conv => arg 2; whnf
    conv => arg 4; dsimp only
    go_wp2_with fail
    exact HRT.out _ _ _ _ _ _ _ _ _ _ _ _ _ _ _ _ _ _ HBW.out
  have hI2 : ¬ (60 : Int) < (o.j.ref.size : Int) := by omega
  go_wp2_with fail
  rw [HW.out]
  conv => arg 2; whnf
  conv => arg 4; dsimp only
  go_wp2_with fail
  conv => arg 2; whnf
  conv => arg 4; dsimp only
  go_wp2_with fail
  obtain ⟨W5, hW5⟩ : ∃ W5, W.alloc (.cells #[.int .i64 o.j.id, .int .i64 o.j.ent, .int .i64 o.j.per, .string o.j.ref, .slice o.A o.j.lines.length o.c, .bool o.j.void] 43) = W5 := ⟨_, rfl⟩
  have hb5 : Below W.heap.size W W5 := by rw [← hW5]; exact (Below.refl _ _).alloc (Nat.le_refl _) _
  have hz5 : W5.heap.size = W.heap.size + 1 := by rw [← hW5]; simp
  have hjm5 : JAt W5 W.heap.size o.j o.A o.j.lines.length o.c := by rw [← hW5]; exact heap_new W _
  have hb05 : Below w.heap.size w W5 := HBW.out.trans (hb5.mono HBW.out.size)
  obtain ⟨f0, f1, f2, f3, f4, f5, f6, f7⟩ := (HOP.out.below hb5).all
  have KL := Lib.hid (lentLines_any o.j.lines o.A o.j.lines.length o.c w.heap.size W5 (HSRC.out.far hb05 (Nat.le_refl _)) (by omega))
  rw [hW5]
  have HB5 := Lib.hid hb5; have HJM5 := Lib.hid hjm5
  clear hW5 hb5 hjm5 hb05 d0 d1 d2 d3 d4 d5 d6 d7 p0 p1 p2 p3 p4 p5 p6 p7
  conv => arg 2; whnf
  conv => arg 4; dsimp only
  go_wp2_with fail
  refine KL.out.mono ?_
  rintro e w6 ⟨g, cap, rfl, hlent, hb6⟩
  have hjm6 : JAt w6 W.heap.size o.j o.A o.j.lines.length o.c := (hb6.block _ (lt_of_blk HJM5.out)).trans HJM5.out
  obtain ⟨m0, m1, m2, m3, m4, m5⟩ := six_cells hjm6
  have mf := warm_of hjm6 4
  have hlm6 : W.heap.size < w6.heap.size := lt_of_blk hjm6
  obtain ⟨W7, hW7⟩ : ∃ W7, w6.setCell ⟨W.heap.size, 4, none⟩ (.slice (some ⟨g, 0, none⟩) o.j.lines.length cap) = W7 := ⟨_, rfl⟩
  have hgm : g ≠ W.heap.size := by have := hlent.cap_ge.2.1; omega
  have hk7 : ∀ k, k ≠ W.heap.size → W7.heap[k]? = w6.heap[k]? := fun k hk => by rw [← hW7]; exact Below.heap_setCell _ _ _ _ hk
  have hjm7 : JAt W7 W.heap.size o.j (some ⟨g, 0, none⟩) o.j.lines.length cap := by rw [← hW7]; exact (set_here hjm6).trans rfl
  have hl7 : LentLins W7 0 g cap o.j.lines := own_kept (own_base hlent (Nat.zero_le _)) fun k hk he => hk7 k (by
    have : g = k := by simpa [Value.ownBlock] using he
    rw [← this]; exact hgm)
  have hb6' : Below W.heap.size W5 w6 := hb6.mono (by omega)
  have hb57 : Below W.heap.size W5 W7 := by rw [← hW7]; exact hb6'.setCell (Nat.le_refl _) _
  have hbW7 : Below W.heap.size W W7 := HB5.out.trans hb57
  have HRD : Hid (BRound w W7 b bv rv m wr.heap.size W.heap.size g cap o) := by
    obtain ⟨c, v, l, A, cp, r, h1, h2, h3, h4⟩ := HP.out
    exact ⟨c, v, l, A, cp, r, h1, h2, h3.below hbW7, h4, ⟨HOP.out.below hbW7, hjm7, fun e => by have := h3.tome.ltB _ e; omega, hl7⟩⟩
  have HW7 := Lib.hid hW7
  clear hjm7 hl7 hb6' hb57 hbW7 hW7 hk7 hlent hb6 hjm6 KL HJM5 HB5 f0 f1 f2 f3 f4 f5 f6 f7 HP HOP
  dsimp only
  go_wp2_with fail
  rw [HW7.out]
  conv => arg 2; whnf
  conv => arg 4; dsimp only
  go_wp2_with fail
  conv => arg 2; whnf
  conv => arg 4; dsimp only
  go_wp2_with fail
  refine bpIf_any _ _ _ _ _ _ _ _ _ _ _ _ _ _ _ _ _ _ _ _ _ _ _ _ _ _ _ _ _ _ _ _ _ _ _ _ _ _ _ _ _ _ _ _ _ _ _ _ _ _ _ _ _ _ _ _ _ _ _ _ _ _ _ _ _ _ _ _ _ _ _ _ _ _ _ _ _ _ _ _ _ _ _ _ _ _ _ _ _ _ _ _ _ _ _ _ _ _ _ _ _ _ _ _ _ _ _ _ _ _ _ _ _ _ _ _ _ _ _ _ _ _ _ _ _ _ _ _ _ _ _ _ _ _ _ _ _ _ _ _ _ _ _ _ _ _ _ _ _ _ _ _ _ _ _ _ _ _ _ _ _ _ _ _ _ _ _ _ _ _ _ _ _ _ _ _ _ _ _ _ _ _ _ _ _ _ _ _ _ _ _ _ _ _ _ _ _ _ _ _ _ _ _ _ _ _ _ _ _ _ _ _ _ _ _ _ _ _ _ _ _ _ _ _ _ _ _ _ _ _ _ _ _ _ _ _ _ _ _ _ _ _ _ _ _ _ _ _ _ _ _ _ _ _ _ _ _ _ _ _ _ _ _ _ _ _ _ _ _ _ _ _ _ _ _ _ _ _ _ _ _ _ _ _ _ _ _ _ _ _ _ _ _ _ _ _ _ _ _ _ _ _ _ _ _ _ _ _ _ _ _ _ _ _ _ _ _ _ _ _ _ _ _ _ b m wr.heap.size W.heap.size g cap o w W7 bv rv HRD.out HSRC.out (by omega) (by omega) x ?_
  intro u7 u8 u13 u15 u16 u17 u18 u19 u76 u77 u78 u79 u80 u81 u82 u83 u84 u85 u86 u87 u88 u89 u90 u91 u92 u93 u94 u95 u96 u97 u98 u99 u100 u101 u102 u103 u104 u105 u106 u107 u108 u109 u110 u111 u112 u113 u114 u115 u116 u117 u118 u119 u120 u121 u122 u123 u124 u125 u126 u127 u128 u129 u130 u131 u132 u133 u134 u135 u136 u137 u138 u139 u140 u141 u142 u143 u144 u145 u146 u147 u148 u149 u150 u151 u152 u153 u154 u155 u156 u157 u158 u159 u160 u161 u162 u163 u164 u165 u166 u167 u168 u169 u170 u171 u172 u173 w8 hr8
  rename_i K hK
  refine hK _ _ ?_
  refine bpRest_any _ _ _ _ _ _ _ _ _ _ _ _ _ _ _ _ _ _ _ _ _ _ _ _ _ _ _ _ _ _ _ _ _ _ _ _ _ _ _ _ _ _ _ _ _ _ _ _ _ _ _ _ _ _ _ _ _ _ _ _ _ _ _ _ _ _ _ _ _ _ _ _ _ _ _ _ _ _ _ _ _ _ _ _ _ _ _ _ _ _ _ _ _ _ _ _ _ _ _ _ _ _ _ _ _ _ _ _ _ _ _ _ _ _ _ _ _ _ _ _ _ _ _ _ _ _ _ _ _ _ _ _ _ _ _ _ _ _ _ _ _ _ _ _ _ _ _ _ _ _ _ _ _ _ _ _ _ _ _ _ _ _ _ _ _ _ _ _ _ _ _ _ _ _ _ _ _ _ _ _ _ _ _ _ _ _ _ _ _ _ _ _ _ _ _ _ _ _ _ _ _ _ _ _ _ _ _ _ _ _ _ _ _ _ _ _ _ _ _ _ _ _ _ _ _ _ _ _ _ _ _ _ _ _ _ _ _ _ _ _ _ _ _ _ _ _ _ _ _ _ _ _ _ _ _ _ _ _ _ _ _ _ _ _ _ _ _ _ _ _ _ _ _ _ _ _ _ _ _ _ _ _ _ _ _ _ _ _ _ _ _ _ _ _ _ _ _ _ _ _ _ _ _ _ _ _ _ _ _ _ _ _ _ _ _ _ _ _ _ _ _ _ _ x s b m wr.heap.size W.heap.size g cap o w w8 u7 u8 (by omega) hr8 HSRC.out (by omega) ?_
  intro u6 u20 u21 u22 u23 u24 u25 u26 u174 u175 u176 u177 u178 u179 u180 u181 u182 u183 u184 u185 u186 u187 u188 u189 u190 u191 u192 u193 u194 u195 u196 u197 u198 u199 u200 u201 u202 u203 u204 u205 u206 u207 u208 u209 u210 u211 u212 u213 u214 u215 u216 u217 u218 u219 u220 u221 u222 u223 u224 u225 u226 u227 u228 u229 u230 u231 u232 u233 u234 u235 u236 u237 u238 u239 u240 u241 u242 u243 u244 u245 u246 u247 u248 u249 u250 u251 u252 u253 u254 u255 u256 u257 u258 u259 u260 u261 u262 u263 u264 u265 u266 u267 w9 hp9
  exact HQ.out _ _ _ _ _ _ _ _ _ _ _ _ _ _ _ _ _ _ _ _ _ _ _ _ _ _ _ _ _ _ _ _ _ _ _ _ _ _ _ _ _ _ _ _ _ _ _ _ _ _ _ _ _ _ _ _ _ _ _ _ _ _ _ _ _ _ _ _ _ _ _ _ _ _ _ _ _ _ _ _ _ _ _ _ _ _ _ _ _ _ _ _ _ _ _ _ _ _ _ _ _ _ _ _ _ _ _ _ _ _ _ _ _ _ _ _ _ _ _ _ _ _ _ _ _ _ _ _ _ _ _ _ _ _ _ _ _ _ _ _ _ _ _ _ _ _ _ _ _ _ _ _ _ _ _ _ _ _ _ _ _ _ _ _ _ _ _ _ _ _ _ _ _ _ _ _ _ _ _ _ _ _ _ _ _ _ _ _ _ _ _ _ _ _ _ _ _ _ _ _ _ _ _ _ _ _ _ _ _ _ _ _ _ _ _ _ _ _ _ _ _ _ _ _ _ _ _ _ _ _ _ _ _ _ _ hp9
end Go.Proofs.YtpbdmohccebhhaaGreat
