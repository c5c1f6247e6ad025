/-
  BookPlays: a round's Drop.
-/
import Derived.Test.YtpbdmohccebhhaaGreatBookPlaysPost
namespace Go.Proofs.YtpbdmohccebhhaaGreat
open Go.RowKit

set_option maxRecDepth 100000 in
set_option maxHeartbeats 4000000 in
theorem bpIf_drop (s0 s1 s2 s3 s4 s5 s6 s9 s10 s15 s16 s17 s18 s19 s20 s21 s22 s23 s24 s25 s26 s27 s28 s29 s30 s31 s32 s33 s34 s35 s36 s37 s38 s39 s40 s41 s42 s43 s44 s45 s46 s47 s48 s49 s50 s51 s52 s53 s54 s55 s56 s57 s58 s59 s60 s61 s62 s63 s64 s65 s66 s67 s68 s69 s70 s71 s72 s73 s74 s75 s76 s77 s78 s79 s80 s81 s82 s83 s84 s85 s86 s87 s88 s89 s90 s91 s92 s93 s94 s95 s96 s97 s98 s99 s100 s101 s102 s103 s104 s105 s106 s107 s108 s109 s110 s111 s112 s113 s114 s115 s116 s117 s118 s119 s120 s121 s122 s123 s124 s125 s126 s127 s128 s129 s130 s131 s132 s133 s134 s135 s136 s137 s138 s139 s140 s141 s142 s143 s144 s145 s146 s147 s148 s149 s150 s151 s152 s153 s154 s155 s156 s157 s158 s159 s160 s161 s162 s163 s164 s165 s166 s167 s168 s169 s170 s171 s172 s173 s174 s175 s176 s177 s178 s179 s180 s181 s182 s183 s184 s185 s186 s187 s188 s189 s190 s191 s192 s193 s194 s195 s196 s197 s198 s199 s200 s201 s202 s203 s204 s205 s206 s207 s208 s209 s210 s211 s212 s213 s214 s215 s216 s217 s218 s219 s220 s221 s222 s223 s224 s225 s226 s227 s228 s229 s230 s231 s232 s233 s234 s235 s236 s237 s238 s239 s240 s241 s242 s243 s244 s245 s246 s247 s248 s249 s250 s251 s252 s253 s254 s255 s256 s257 s258 s259 s260 s261 s262 s263 s264 s265 s266 s267 s268 s269 s270 s271 s272 s273 s274 s275 s276 s277 s278 s279 s280 s281 s282 s283 s284 s285 s286 s287 s288 s289 s290 s291 s292 s293 s294 s295 s296 s297 s298 s299 s300 s301 s302 s303 s304 s305 s306 s307 s308 s309 s310 s311 s312 s313 s314 s315 s316 s317 s318 s319 s320 s321 s322 s323 s324 s325 s326 s327 s328 s329 : Value) (Q0 : Exit → Act → World → Prop) (b m ob mb g cap : Nat) (o : BOp) (w wr : World) (bv rv : Value) (hplay : BRound w wr b bv rv m ob mb g cap o) (hk : o.k = 4)
    (hQ : ∀ (u7 u8 u13 u15 u16 u17 u18 u19 u76 u77 u78 u79 u80 u81 u82 u83 u84 u85 u86 u87 u88 u89 u90 u91 u92 u93 u94 u95 u96 u97 u98 u99 u100 u101 u102 u103 u104 u105 u106 u107 u108 u109 u110 u111 u112 u113 u114 u115 u116 u117 u118 u119 u120 u121 u122 u123 u124 u125 u126 u127 u128 u129 u130 u131 u132 u133 u134 u135 u136 u137 u138 u139 u140 u141 u142 u143 u144 u145 u146 u147 u148 u149 u150 u151 u152 u153 u154 u155 u156 u157 u158 u159 u160 u161 u162 u163 u164 u165 u166 u167 u168 u169 u170 u171 u172 u173 : Value) (w' : World), BRound w w' b u7 u8 m ob mb g cap o → Q0 .normal ⟨#[s0, s1, s2, s3, s4, s5, s6, u7, u8, s9, s10, .pointer (some ⟨ob, 0, none⟩), .pointer (some ⟨mb, 0, none⟩), u13, .bool true, u15, u16, u17, u18, u19, s20, s21, s22, s23, s24, s25, s26, s27, s28, s29, s30, s31, s32, s33, s34, s35, s36, s37, s38, s39, s40, s41, s42, s43, s44, s45, s46, s47, s48, s49, s50, s51, s52, s53, s54, s55, s56, s57, s58, s59, s60, s61, s62, s63, s64, s65, s66, s67, s68, s69, s70, s71, s72, s73, s74, s75, u76, u77, u78, u79, u80, u81, u82, u83, u84, u85, u86, u87, u88, u89, u90, u91, u92, u93, u94, u95, u96, u97, u98, u99, u100, u101, u102, u103, u104, u105, u106, u107, u108, u109, u110, u111, u112, u113, u114, u115, u116, u117, u118, u119, u120, u121, u122, u123, u124, u125, u126, u127, u128, u129, u130, u131, u132, u133, u134, u135, u136, u137, u138, u139, u140, u141, u142, u143, u144, u145, u146, u147, u148, u149, u150, u151, u152, u153, u154, u155, u156, u157, u158, u159, u160, u161, u162, u163, u164, u165, u166, u167, u168, u169, u170, u171, u172, u173, s174, s175, s176, s177, s178, s179, s180, s181, s182, s183, s184, s185, s186, s187, s188, s189, s190, s191, s192, s193, s194, s195, s196, s197, s198, s199, s200, s201, s202, s203, s204, s205, s206, s207, s208, s209, s210, s211, s212, s213, s214, s215, s216, s217, s218, s219, s220, s221, s222, s223, s224, s225, s226, s227, s228, s229, s230, s231, s232, s233, s234, s235, s236, s237, s238, s239, s240, s241, s242, s243, s244, s245, s246, s247, s248, s249, s250, s251, s252, s253, s254, s255, s256, s257, s258, s259, s260, s261, s262, s263, s264, s265, s266, s267, s268, s269, s270, s271, s272, s273, s274, s275, s276, s277, s278, s279, s280, s281, s282, s283, s284, s285, s286, s287, s288, s289, s290, s291, s292, s293, s294, s295, s296, s297, s298, s299, s300, s301, s302, s303, s304, s305, s306, s307, s308, s309, s310, s311, s312, s313, s314, s315, s316, s317, s318, s319, s320, s321, s322, s323, s324, s325, s326, s327, s328, s329], []⟩ w') :
    Code.wp Tryz.prog bpIf Q0 ⟨#[s0, s1, s2, s3, s4, s5, s6, bv, rv, s9, s10, .pointer (some ⟨ob, 0, none⟩), .pointer (some ⟨mb, 0, none⟩), .int .i64 0, .bool true, s15, s16, s17, s18, s19, s20, s21, s22, s23, s24, s25, s26, s27, s28, s29, s30, s31, s32, s33, s34, s35, s36, s37, s38, s39, s40, s41, s42, s43, s44, s45, s46, s47, s48, s49, s50, s51, s52, s53, s54, s55, s56, s57, s58, s59, s60, s61, s62, s63, s64, s65, s66, s67, s68, s69, s70, s71, s72, s73, s74, s75, s76, s77, s78, s79, s80, s81, s82, s83, s84, s85, s86, s87, s88, s89, s90, s91, s92, s93, s94, s95, s96, s97, s98, s99, s100, s101, s102, s103, s104, s105, s106, s107, s108, s109, s110, s111, s112, s113, s114, s115, s116, s117, s118, s119, s120, s121, s122, s123, s124, s125, s126, s127, s128, s129, s130, s131, s132, s133, s134, s135, s136, s137, s138, s139, s140, s141, s142, s143, s144, s145, s146, s147, s148, s149, s150, s151, s152, s153, s154, s155, s156, s157, s158, s159, s160, s161, s162, s163, s164, s165, s166, s167, s168, s169, s170, s171, s172, s173, s174, s175, s176, s177, s178, s179, s180, s181, s182, s183, s184, s185, s186, s187, s188, s189, s190, s191, s192, s193, s194, s195, s196, s197, s198, s199, s200, s201, s202, s203, s204, s205, s206, s207, s208, s209, s210, s211, s212, s213, s214, s215, s216, s217, s218, s219, s220, s221, s222, s223, s224, s225, s226, s227, s228, s229, s230, s231, s232, s233, s234, s235, s236, s237, s238, s239, s240, s241, s242, s243, s244, s245, s246, s247, s248, s249, s250, s251, s252, s253, s254, s255, s256, s257, s258, s259, s260, s261, s262, s263, s264, s265, s266, s267, s268, s269, s270, s271, s272, s273, s274, s275, s276, s277, s278, s279, s280, s281, s282, s283, s284, s285, s286, s287, s288, s289, s290, s291, s292, s293, s294, s295, s296, s297, s298, s299, s300, s301, s302, s303, s304, s305, s306, s307, s308, s309, s310, s311, s312, s313, s314, s315, s316, s317, s318, s319, s320, s321, s322, s323, s324, s325, s326, s327, s328, s329], []⟩ wr := by
  obtain ⟨c, v, l, A, cp, r, rfl, rfl, hin, hmap, hmid⟩ := hplay
  obtain ⟨c0, c1, c2, c3, c4, c5, c6, c7⟩ := hmid.op.all
  rw [hk] at c0
  have hfew := hin.few
  have kr := Lib.hid (refGet_has r o.id A r.length cp wr.heap.size wr hin.jl.rd (Nat.le_refl _) (by omega))
  have HQ := Lib.hid hQ; have HIN := Lib.hid hin; have HMID := Lib.hid hmid; have HMAP := Lib.hid hmap
  clear hQ hin hmid hmap hk
  generalize hE : hasId (r.map JR.j) o.id = G at *
  have HE := Lib.hid hE
  have tE : (G == G) = true := by simp
  clear hE
  conv => arg 2; whnf
  conv => arg 4; dsimp only
  go_wp2_with fail
  refine kr.out.mono ?_
  rintro e w5 ⟨⟨a0, a1, a2, a3, a4, a5, rfl⟩, hb5⟩
  obtain ⟨y4, y5, y6⟩ := a4
  dsimp only
  obtain ⟨W5, hW5⟩ : ∃ W5, w5.alloc (.cells #[.int .i64 a0, .int .i64 a1, .int .i64 a2, .string a3, .slice y4 y5 y6, .bool a5] 43) = W5 := ⟨_, rfl⟩
  have hbW : Below wr.heap.size wr W5 := by rw [← hW5]; exact hb5.alloc hb5.size _
  have hin5 := HIN.out.below hbW
  have hmid5 := HMID.out.below hbW
  obtain ⟨e0, e1, _⟩ := (HMID.out.below hb5).op.all
  have hol : ob < w5.heap.size := lt_of_blk (HMID.out.below hb5).op
  have ks := Lib.hid (drop_any w.heap.size c v l o.id W5 hin5.tome)
  rw [← HMAP.out, HE.out] at ks
  have HIN5 := Lib.hid hin5; have HMID5 := Lib.hid hmid5
  have HW5 := Lib.hid hW5
  clear hb5 hin5 hmid5 kr c0 c1 c2 c3 c4 c5 c6 c7 HIN HMID hW5 hbW
  go_wp2_with fail
  rw [HW5.out]
  refine ks.out.mono ?_
  rintro e w6 ⟨rfl, hto⟩
  obtain ⟨v', l', hm', hin6, ho6, hk6⟩ := HIN5.out.step hto
  have hmid6 := HMID5.out.step ho6 hk6
  have HIN6 := Lib.hid hin6; have HMID6 := Lib.hid hmid6; have HM' := Lib.hid hm'
  clear hto hin6 ho6 hk6 hm' ks e0 e1 hol
  obtain ⟨c0, c1, _⟩ := hmid6.op.all
  have kp := Lib.hid (refDrop_any r o.id A r.length cp w6.heap.size w6 HIN6.out.jl.rd (Nat.le_refl _) (by omega) HIN6.out.rise)
  clear hmid6
  go_wp2_with fail
  refine kp.out.mono ?_
  rintro e w7 ⟨rv, rfl, hpe⟩
  obtain ⟨A', cp', r', rfl, hr', hin7⟩ := HIN6.out.drop hpe
  have HR : Hid (BRound w w7 b (.pointer (some ⟨c, 0, none⟩)) (.slice A' r'.length cp') m ob mb g cap o) :=
    ⟨c, v', l', A', cp', r', rfl, rfl, hin7, by rw [hr', HM'.out], HMID6.out.below hpe.2⟩
  clear hpe hr' hin7 c0 c1 kp
  go_wp2_with fail
  exact HQ.out _ _ _ _ _ _ _ _ _ _ _ _ _ _ _ _ _ _ _ _ _ _ _ _ _ _ _ _ _ _ _ _ _ _ _ _ _ _ _ _ _ _ _ _ _ _ _ _ _ _ _ _ _ _ _ _ _ _ _ _ _ _ _ _ _ _ _ _ _ _ _ _ _ _ _ _ _ _ _ _ _ _ _ _ _ _ _ _ _ _ _ _ _ _ _ _ _ _ _ _ _ _ _ _ _ _ _ HR.out
end Go.Proofs.YtpbdmohccebhhaaGreat
