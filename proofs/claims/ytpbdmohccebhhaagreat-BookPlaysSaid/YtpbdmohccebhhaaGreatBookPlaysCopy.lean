/-
  BookPlays: a round in which a copy takes the book's place.
-/
import Derived.Test.YtpbdmohccebhhaaGreatBookPlaysPost
namespace Go.Proofs.YtpbdmohccebhhaaGreat
open Go.RowKit

set_option maxRecDepth 100000 in
set_option maxHeartbeats 4000000 in
theorem bpIf_copy (s0 s2 s3 s4 s5 s6 s9 s10 s15 s16 s17 s18 s19 s20 s21 s22 s23 s24 s25 s26 s27 s28 s29 s30 s31 s32 s33 s34 s35 s36 s37 s38 s39 s40 s41 s42 s43 s44 s45 s46 s47 s48 s49 s50 s51 s52 s53 s54 s55 s56 s57 s58 s59 s60 s61 s62 s63 s64 s65 s66 s67 s68 s69 s70 s71 s72 s73 s74 s75 s76 s77 s78 s79 s80 s81 s82 s83 s84 s85 s86 s87 s88 s89 s90 s91 s92 s93 s94 s95 s96 s97 s98 s99 s100 s101 s102 s103 s104 s105 s106 s107 s108 s109 s110 s111 s112 s113 s114 s115 s116 s117 s118 s119 s120 s121 s122 s123 s124 s125 s126 s127 s128 s129 s130 s131 s132 s133 s134 s135 s136 s137 s138 s139 s140 s141 s142 s143 s144 s145 s146 s147 s148 s149 s150 s151 s152 s153 s154 s155 s156 s157 s158 s159 s160 s161 s162 s163 s164 s165 s166 s167 s168 s169 s170 s171 s172 s173 s174 s175 s176 s177 s178 s179 s180 s181 s182 s183 s184 s185 s186 s187 s188 s189 s190 s191 s192 s193 s194 s195 s196 s197 s198 s199 s200 s201 s202 s203 s204 s205 s206 s207 s208 s209 s210 s211 s212 s213 s214 s215 s216 s217 s218 s219 s220 s221 s222 s223 s224 s225 s226 s227 s228 s229 s230 s231 s232 s233 s234 s235 s236 s237 s238 s239 s240 s241 s242 s243 s244 s245 s246 s247 s248 s249 s250 s251 s252 s253 s254 s255 s256 s257 s258 s259 s260 s261 s262 s263 s264 s265 s266 s267 s268 s269 s270 s271 s272 s273 s274 s275 s276 s277 s278 s279 s280 s281 s282 s283 s284 s285 s286 s287 s288 s289 s290 s291 s292 s293 s294 s295 s296 s297 s298 s299 s300 s301 s302 s303 s304 s305 s306 s307 s308 s309 s310 s311 s312 s313 s314 s315 s316 s317 s318 s319 s320 s321 s322 s323 s324 s325 s326 s327 s328 s329 : Value) (Q0 : Exit → Act → World → Prop) (b m ob mb g cap : Nat) (o : BOp) (w wr : World) (bv rv : Value) (hplay : BRound w wr b bv rv m ob mb g cap o) (x : Int) (hk : o.k ≠ 1 ∧ o.k ≠ 2 ∧ o.k ≠ 3 ∧ o.k ≠ 4)
    (hQ : ∀ (u7 u8 u13 u15 u16 u17 u18 u19 u76 u77 u78 u79 u80 u81 u82 u83 u84 u85 u86 u87 u88 u89 u90 u91 u92 u93 u94 u95 u96 u97 u98 u99 u100 u101 u102 u103 u104 u105 u106 u107 u108 u109 u110 u111 u112 u113 u114 u115 u116 u117 u118 u119 u120 u121 u122 u123 u124 u125 u126 u127 u128 u129 u130 u131 u132 u133 u134 u135 u136 u137 u138 u139 u140 u141 u142 u143 u144 u145 u146 u147 u148 u149 u150 u151 u152 u153 u154 u155 u156 u157 u158 u159 u160 u161 u162 u163 u164 u165 u166 u167 u168 u169 u170 u171 u172 u173 : Value) (w' : World), BRound w w' b u7 u8 m ob mb g cap o → Q0 .normal ⟨#[s0, .int .i64 x, s2, s3, s4, s5, s6, u7, u8, s9, s10, .pointer (some ⟨ob, 0, none⟩), .pointer (some ⟨mb, 0, none⟩), u13, .bool true, u15, u16, u17, u18, u19, s20, s21, s22, s23, s24, s25, s26, s27, s28, s29, s30, s31, s32, s33, s34, s35, s36, s37, s38, s39, s40, s41, s42, s43, s44, s45, s46, s47, s48, s49, s50, s51, s52, s53, s54, s55, s56, s57, s58, s59, s60, s61, s62, s63, s64, s65, s66, s67, s68, s69, s70, s71, s72, s73, s74, s75, u76, u77, u78, u79, u80, u81, u82, u83, u84, u85, u86, u87, u88, u89, u90, u91, u92, u93, u94, u95, u96, u97, u98, u99, u100, u101, u102, u103, u104, u105, u106, u107, u108, u109, u110, u111, u112, u113, u114, u115, u116, u117, u118, u119, u120, u121, u122, u123, u124, u125, u126, u127, u128, u129, u130, u131, u132, u133, u134, u135, u136, u137, u138, u139, u140, u141, u142, u143, u144, u145, u146, u147, u148, u149, u150, u151, u152, u153, u154, u155, u156, u157, u158, u159, u160, u161, u162, u163, u164, u165, u166, u167, u168, u169, u170, u171, u172, u173, s174, s175, s176, s177, s178, s179, s180, s181, s182, s183, s184, s185, s186, s187, s188, s189, s190, s191, s192, s193, s194, s195, s196, s197, s198, s199, s200, s201, s202, s203, s204, s205, s206, s207, s208, s209, s210, s211, s212, s213, s214, s215, s216, s217, s218, s219, s220, s221, s222, s223, s224, s225, s226, s227, s228, s229, s230, s231, s232, s233, s234, s235, s236, s237, s238, s239, s240, s241, s242, s243, s244, s245, s246, s247, s248, s249, s250, s251, s252, s253, s254, s255, s256, s257, s258, s259, s260, s261, s262, s263, s264, s265, s266, s267, s268, s269, s270, s271, s272, s273, s274, s275, s276, s277, s278, s279, s280, s281, s282, s283, s284, s285, s286, s287, s288, s289, s290, s291, s292, s293, s294, s295, s296, s297, s298, s299, s300, s301, s302, s303, s304, s305, s306, s307, s308, s309, s310, s311, s312, s313, s314, s315, s316, s317, s318, s319, s320, s321, s322, s323, s324, s325, s326, s327, s328, s329], []⟩ w') :
    Code.wp Tryz.prog bpIf Q0 ⟨#[s0, .int .i64 x, s2, s3, s4, s5, s6, bv, rv, s9, s10, .pointer (some ⟨ob, 0, none⟩), .pointer (some ⟨mb, 0, none⟩), .int .i64 0, .bool true, s15, s16, s17, s18, s19, s20, s21, s22, s23, s24, s25, s26, s27, s28, s29, s30, s31, s32, s33, s34, s35, s36, s37, s38, s39, s40, s41, s42, s43, s44, s45, s46, s47, s48, s49, s50, s51, s52, s53, s54, s55, s56, s57, s58, s59, s60, s61, s62, s63, s64, s65, s66, s67, s68, s69, s70, s71, s72, s73, s74, s75, s76, s77, s78, s79, s80, s81, s82, s83, s84, s85, s86, s87, s88, s89, s90, s91, s92, s93, s94, s95, s96, s97, s98, s99, s100, s101, s102, s103, s104, s105, s106, s107, s108, s109, s110, s111, s112, s113, s114, s115, s116, s117, s118, s119, s120, s121, s122, s123, s124, s125, s126, s127, s128, s129, s130, s131, s132, s133, s134, s135, s136, s137, s138, s139, s140, s141, s142, s143, s144, s145, s146, s147, s148, s149, s150, s151, s152, s153, s154, s155, s156, s157, s158, s159, s160, s161, s162, s163, s164, s165, s166, s167, s168, s169, s170, s171, s172, s173, s174, s175, s176, s177, s178, s179, s180, s181, s182, s183, s184, s185, s186, s187, s188, s189, s190, s191, s192, s193, s194, s195, s196, s197, s198, s199, s200, s201, s202, s203, s204, s205, s206, s207, s208, s209, s210, s211, s212, s213, s214, s215, s216, s217, s218, s219, s220, s221, s222, s223, s224, s225, s226, s227, s228, s229, s230, s231, s232, s233, s234, s235, s236, s237, s238, s239, s240, s241, s242, s243, s244, s245, s246, s247, s248, s249, s250, s251, s252, s253, s254, s255, s256, s257, s258, s259, s260, s261, s262, s263, s264, s265, s266, s267, s268, s269, s270, s271, s272, s273, s274, s275, s276, s277, s278, s279, s280, s281, s282, s283, s284, s285, s286, s287, s288, s289, s290, s291, s292, s293, s294, s295, s296, s297, s298, s299, s300, s301, s302, s303, s304, s305, s306, s307, s308, s309, s310, s311, s312, s313, s314, s315, s316, s317, s318, s319, s320, s321, s322, s323, s324, s325, s326, s327, s328, s329], []⟩ wr := by
  obtain ⟨c, v, l, A, cp, r, rfl, rfl, hin, hmap, hmid⟩ := hplay
  obtain ⟨c0, c1, c2, c3, c4, c5, c6, c7⟩ := hmid.op.all
  obtain ⟨k1, k2, k3, k4⟩ := hk
  have q1 : (o.k == 1) = false := by simpa using k1
  have q2 : (o.k == 2) = false := by simpa using k2
  have q3 : (o.k == 3) = false := by simpa using k3
  have q4 : (o.k == 4) = false := by simpa using k4
  have hfew := hin.few
  have kc := Lib.hid (copyB_any w.heap.size c v l wr hin.tome)
  have HQ := Lib.hid hQ; have HIN := Lib.hid hin; have HMID := Lib.hid hmid; have HMAP := Lib.hid hmap
  clear hQ hin hmid hmap k1 k2 k3 k4
  conv => arg 2; whnf
  conv => arg 4; dsimp only
  go_wp2_with fail
  refine kc.out.mono ?_
  rintro e w5 ⟨d, vd, ld, rfl, hld, hd5, hb5⟩
  have hin5 := HIN.out.below hb5
  have ks := Lib.hid (same_yes wr.heap.size w.heap.size d c vd v ld l w5 hd5 hin5.tome hld)
  have HD5 := Lib.hid hd5; have HB5 := Lib.hid hb5; have HLD := Lib.hid hld
  clear hd5 hb5 hld hin5 kc c0 c1 c2 c3 c4 c5 c6 c7
  go_wp2_with fail
  refine ks.out.mono ?_
  rintro e w6 ⟨rfl, hb6⟩
  have hbr6 : Below wr.heap.size wr w6 := HB5.out.trans (hb6.mono HB5.out.size)
  have hin6 := HIN.out.below hbr6
  have hmid6 := HMID.out.below hbr6
  obtain ⟨e0, e1, _⟩ := hmid6.op.all
  have kd := Lib.hid (drop_any w.heap.size c v l o.id w6 hin6.tome)
  have HIN6 := Lib.hid hin6; have HMID6 := Lib.hid hmid6
  have HD6 := Lib.hid (HD5.out.below hb6)
  have HK6 : Hid (KeptLJ w6 w.heap.size b (fun k => InTome c v l k ∨ wr.heap.size ≤ k) m m) := KeptLJ.below (HIN.out.kept.more fun k hk => hk) hbr6
  have HO : Hid (∀ k, (Value.slice A r.length cp).ownBlock = some k → k < wr.heap.size) := own_lt HIN.out.ref.own
  have HLT : Hid (∀ k, InTome c v l k → k < wr.heap.size) := HIN.out.tome.ltB
  have hzw := HIN.out.bel.size
  have hmbl : mb < wr.heap.size := lt_of_blk HMID.out.box
  have hz6 := hbr6.size
  clear hb6 hbr6 hin6 hmid6 ks HIN HMID HD5 HB5
  generalize hasId (l.map JR.j) o.id = G at kd
  go_wp2_with fail
  refine kd.out.mono ?_
  rintro e w7 ⟨rfl, hto⟩
  obtain ⟨v1, l1, _, hin7, ho7, hk7, hz7, hT7⟩ := HIN6.out.step' hto
  have hmid7 := HMID6.out.step ho7 hk7
  have hd7 : TomeAt w7 wr.heap.size d vd ld := HD6.out.kept fun k hk hi => (hk7 k hk fun e => by have := HLT.out k e; have := HD6.out.ge k hi; omega).1
  have HN7 : Hid (∀ k, InTome d vd ld k → k < w7.heap.size ∧ ¬ InTome c v1 l1 k) := fun k hi => ⟨by have := HD6.out.ltB k hi; omega, (hk7 k (HD6.out.ltB k hi) fun e => by have := HLT.out k e; have := HD6.out.ge k hi; omega).2⟩
  have kv := Lib.hid (void_any w.heap.size c v1 l1 x w7 hin7.tome)
  have HIN7 := Lib.hid hin7; have HMID7 := Lib.hid hmid7; have HD7 := Lib.hid hd7
  have HK7 := Lib.hid (hT7 _ HK6.out)
  clear hto hin7 ho7 hk7 hT7 hmid7 hd7 kd e0 e1
  generalize liveE (l1.map JR.j) x = E at kv
  go_wp2_with fail
  refine kv.out.mono ?_
  rintro e w8 ⟨rfl, hto⟩
  obtain ⟨v2, l2, _, hin8, ho8, hk8, hz8, hT8⟩ := HIN7.out.step' hto
  have hmid8 := HMID7.out.step ho8 hk8
  have hd8 : TomeAt w8 wr.heap.size d vd ld := HD7.out.kept fun k hk hi => (hk8 k hk (HN7.out k hi).2).1
  have HR : Hid (BRound w w8 b (.pointer (some ⟨d, 0, none⟩)) (.slice A r.length cp) m ob mb g cap o) :=
    ⟨d, vd, ld, A, cp, r, rfl, rfl, hin8.other (w1 := wr) (hT8 _ HK7.out) HO.out hd8 hzw (Nat.le_refl _), by rw [HLD.out, HMAP.out], ⟨hmid8.op, hmid8.box, fun e => by have := hd8.ge _ e; omega, hmid8.lent⟩⟩
  clear hto hin8 ho8 hk8 hT8 hmid8 hd8 kv
  go_wp2_with fail
  exact HQ.out _ _ _ _ _ _ _ _ _ _ _ _ _ _ _ _ _ _ _ _ _ _ _ _ _ _ _ _ _ _ _ _ _ _ _ _ _ _ _ _ _ _ _ _ _ _ _ _ _ _ _ _ _ _ _ _ _ _ _ _ _ _ _ _ _ _ _ _ _ _ _ _ _ _ _ _ _ _ _ _ _ _ _ _ _ _ _ _ _ _ _ _ _ _ _ _ _ _ _ _ _ _ _ _ _ _ _ HR.out
end Go.Proofs.YtpbdmohccebhhaaGreat
