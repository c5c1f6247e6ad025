/-
  BookPlays: the rest of a round, behind what is done.
-/
import Derived.Test.YtpbdmohccebhhaaGreatMany16
namespace Go.Proofs.YtpbdmohccebhhaaGreat
open Go.RowKit

noncomputable def bpRest : Code := subCode [1, 1, 1, 1, 1, 0, 1, 0, 0, 1, 0, 0, 1, 1, 1, 1, 1, 1, 1] (Tryz.f3.body.getD .skip)
noncomputable def bpR43 : Code := subCode [1, 1, 1, 1, 1, 0, 1, 0, 0, 1, 0, 0, 1, 1, 1, 1, 1, 1, 1, 0] (Tryz.f3.body.getD .skip)
noncomputable def bpR44 : Code := subCode [1, 1, 1, 1, 1, 0, 1, 0, 0, 1, 0, 0, 1, 1, 1, 1, 1, 1, 1, 1, 0] (Tryz.f3.body.getD .skip)
noncomputable def bpR45 : Code := subCode [1, 1, 1, 1, 1, 0, 1, 0, 0, 1, 0, 0, 1, 1, 1, 1, 1, 1, 1, 1, 1, 0] (Tryz.f3.body.getD .skip)
noncomputable def bpR46 : Code := subCode [1, 1, 1, 1, 1, 0, 1, 0, 0, 1, 0, 0, 1, 1, 1, 1, 1, 1, 1, 1, 1, 1, 0] (Tryz.f3.body.getD .skip)
noncomputable def bpR47 : Code := subCode [1, 1, 1, 1, 1, 0, 1, 0, 0, 1, 0, 0, 1, 1, 1, 1, 1, 1, 1, 1, 1, 1, 1, 0] (Tryz.f3.body.getD .skip)
noncomputable def bpR48 : Code := subCode [1, 1, 1, 1, 1, 0, 1, 0, 0, 1, 0, 0, 1, 1, 1, 1, 1, 1, 1, 1, 1, 1, 1, 1, 0] (Tryz.f3.body.getD .skip)
noncomputable def bpR49 : Code := subCode [1, 1, 1, 1, 1, 0, 1, 0, 0, 1, 0, 0, 1, 1, 1, 1, 1, 1, 1, 1, 1, 1, 1, 1, 1, 0, 0] (Tryz.f3.body.getD .skip)

set_option maxRecDepth 100000 in
set_option maxHeartbeats 8000000 in
theorem bpRest_any (s0 s3 s4 s5 s6 s10 s13 s15 s16 s17 s18 s19 s20 s21 s22 s23 s24 s25 s26 s27 s28 s29 s30 s31 s32 s33 s34 s35 s36 s37 s38 s39 s40 s41 s42 s43 s44 s45 s46 s47 s48 s49 s50 s51 s52 s53 s54 s55 s56 s57 s58 s59 s60 s61 s62 s63 s64 s65 s66 s67 s68 s69 s70 s71 s72 s73 s74 s75 s76 s77 s78 s79 s80 s81 s82 s83 s84 s85 s86 s87 s88 s89 s90 s91 s92 s93 s94 s95 s96 s97 s98 s99 s100 s101 s102 s103 s104 s105 s106 s107 s108 s109 s110 s111 s112 s113 s114 s115 s116 s117 s118 s119 s120 s121 s122 s123 s124 s125 s126 s127 s128 s129 s130 s131 s132 s133 s134 s135 s136 s137 s138 s139 s140 s141 s142 s143 s144 s145 s146 s147 s148 s149 s150 s151 s152 s153 s154 s155 s156 s157 s158 s159 s160 s161 s162 s163 s164 s165 s166 s167 s168 s169 s170 s171 s172 s173 s174 s175 s176 s177 s178 s179 s180 s181 s182 s183 s184 s185 s186 s187 s188 s189 s190 s191 s192 s193 s194 s195 s196 s197 s198 s199 s200 s201 s202 s203 s204 s205 s206 s207 s208 s209 s210 s211 s212 s213 s214 s215 s216 s217 s218 s219 s220 s221 s222 s223 s224 s225 s226 s227 s228 s229 s230 s231 s232 s233 s234 s235 s236 s237 s238 s239 s240 s241 s242 s243 s244 s245 s246 s247 s248 s249 s250 s251 s252 s253 s254 s255 s256 s257 s258 s259 s260 s261 s262 s263 s264 s265 s266 s267 s268 s269 s270 s271 s272 s273 s274 s275 s276 s277 s278 s279 s280 s281 s282 s283 s284 s285 s286 s287 s288 s289 s290 s291 s292 s293 s294 s295 s296 s297 s298 s299 s300 s301 s302 s303 s304 s305 s306 s307 s308 s309 s310 s311 s312 s313 s314 s315 s316 s317 s318 s319 s320 s321 s322 s323 s324 s325 s326 s327 s328 s329 : Value) (Q0 : Exit → Act → World → Prop) (x : Int) (s : ByteArray) (b m ob mb g cap : Nat) (o : BOp) (w wr : World) (bv rv : Value) (hm : m < 250) (hplay : BRound w wr b bv rv m ob mb g cap o) (hsrc : Rd w w.heap.size 3 o.A o.j.lines.length (lins o.j.lines)) (hsz : o.j.lines.length ≤ 20)
    (hQ : ∀ (u6 u20 u21 u22 u23 u24 u25 u26 u174 u175 u176 u177 u178 u179 u180 u181 u182 u183 u184 u185 u186 u187 u188 u189 u190 u191 u192 u193 u194 u195 u196 u197 u198 u199 u200 u201 u202 u203 u204 u205 u206 u207 u208 u209 u210 u211 u212 u213 u214 u215 u216 u217 u218 u219 u220 u221 u222 u223 u224 u225 u226 u227 u228 u229 u230 u231 u232 u233 u234 u235 u236 u237 u238 u239 u240 u241 u242 u243 u244 u245 u246 u247 u248 u249 u250 u251 u252 u253 u254 u255 u256 u257 u258 u259 u260 u261 u262 u263 u264 u265 u266 u267 : Value) (w' : World), BPlay w w' b bv rv (m + 1) → Q0 .normal ⟨#[s0, .int .i64 x, .string s, s3, s4, s5, u6, bv, rv, .pointer (some ⟨b, 0, none⟩), s10, .pointer (some ⟨ob, 0, none⟩), .pointer (some ⟨mb, 0, none⟩), s13, .bool true, s15, s16, s17, s18, s19, u20, u21, u22, u23, u24, u25, u26, s27, s28, s29, s30, s31, s32, s33, s34, s35, s36, s37, s38, s39, s40, s41, s42, s43, s44, s45, s46, s47, s48, s49, s50, s51, s52, s53, s54, s55, s56, s57, s58, s59, s60, s61, s62, s63, s64, s65, s66, s67, s68, s69, s70, s71, s72, s73, s74, s75, s76, s77, s78, s79, s80, s81, s82, s83, s84, s85, s86, s87, s88, s89, s90, s91, s92, s93, s94, s95, s96, s97, s98, s99, s100, s101, s102, s103, s104, s105, s106, s107, s108, s109, s110, s111, s112, s113, s114, s115, s116, s117, s118, s119, s120, s121, s122, s123, s124, s125, s126, s127, s128, s129, s130, s131, s132, s133, s134, s135, s136, s137, s138, s139, s140, s141, s142, s143, s144, s145, s146, s147, s148, s149, s150, s151, s152, s153, s154, s155, s156, s157, s158, s159, s160, s161, s162, s163, s164, s165, s166, s167, s168, s169, s170, s171, s172, s173, u174, u175, u176, u177, u178, u179, u180, u181, u182, u183, u184, u185, u186, u187, u188, u189, u190, u191, u192, u193, u194, u195, u196, u197, u198, u199, u200, u201, u202, u203, u204, u205, u206, u207, u208, u209, u210, u211, u212, u213, u214, u215, u216, u217, u218, u219, u220, u221, u222, u223, u224, u225, u226, u227, u228, u229, u230, u231, u232, u233, u234, u235, u236, u237, u238, u239, u240, u241, u242, u243, u244, u245, u246, u247, u248, u249, u250, u251, u252, u253, u254, u255, u256, u257, u258, u259, u260, u261, u262, u263, u264, u265, u266, u267, s268, s269, s270, s271, s272, s273, s274, s275, s276, s277, s278, s279, s280, s281, s282, s283, s284, s285, s286, s287, s288, s289, s290, s291, s292, s293, s294, s295, s296, s297, s298, s299, s300, s301, s302, s303, s304, s305, s306, s307, s308, s309, s310, s311, s312, s313, s314, s315, s316, s317, s318, s319, s320, s321, s322, s323, s324, s325, s326, s327, s328, s329], []⟩ w') :
    Code.wp Tryz.prog bpRest Q0 ⟨#[s0, .int .i64 x, .string s, s3, s4, s5, s6, bv, rv, .pointer (some ⟨b, 0, none⟩), s10, .pointer (some ⟨ob, 0, none⟩), .pointer (some ⟨mb, 0, none⟩), s13, .bool true, s15, s16, s17, s18, s19, s20, s21, s22, s23, s24, s25, s26, s27, s28, s29, s30, s31, s32, s33, s34, s35, s36, s37, s38, s39, s40, s41, s42, s43, s44, s45, s46, s47, s48, s49, s50, s51, s52, s53, s54, s55, s56, s57, s58, s59, s60, s61, s62, s63, s64, s65, s66, s67, s68, s69, s70, s71, s72, s73, s74, s75, s76, s77, s78, s79, s80, s81, s82, s83, s84, s85, s86, s87, s88, s89, s90, s91, s92, s93, s94, s95, s96, s97, s98, s99, s100, s101, s102, s103, s104, s105, s106, s107, s108, s109, s110, s111, s112, s113, s114, s115, s116, s117, s118, s119, s120, s121, s122, s123, s124, s125, s126, s127, s128, s129, s130, s131, s132, s133, s134, s135, s136, s137, s138, s139, s140, s141, s142, s143, s144, s145, s146, s147, s148, s149, s150, s151, s152, s153, s154, s155, s156, s157, s158, s159, s160, s161, s162, s163, s164, s165, s166, s167, s168, s169, s170, s171, s172, s173, s174, s175, s176, s177, s178, s179, s180, s181, s182, s183, s184, s185, s186, s187, s188, s189, s190, s191, s192, s193, s194, s195, s196, s197, s198, s199, s200, s201, s202, s203, s204, s205, s206, s207, s208, s209, s210, s211, s212, s213, s214, s215, s216, s217, s218, s219, s220, s221, s222, s223, s224, s225, s226, s227, s228, s229, s230, s231, s232, s233, s234, s235, s236, s237, s238, s239, s240, s241, s242, s243, s244, s245, s246, s247, s248, s249, s250, s251, s252, s253, s254, s255, s256, s257, s258, s259, s260, s261, s262, s263, s264, s265, s266, s267, s268, s269, s270, s271, s272, s273, s274, s275, s276, s277, s278, s279, s280, s281, s282, s283, s284, s285, s286, s287, s288, s289, s290, s291, s292, s293, s294, s295, s296, s297, s298, s299, s300, s301, s302, s303, s304, s305, s306, s307, s308, s309, s310, s311, s312, s313, s314, s315, s316, s317, s318, s319, s320, s321, s322, s323, s324, s325, s326, s327, s328, s329], []⟩ wr := by
  obtain ⟨c, v, l, A, cp, r, rfl, rfl, hin, hmap, hmid⟩ := hplay
  have hlen : l.length = r.length := by rw [← List.length_map (f := JR.j), ← hmap, List.length_map]
  have hfew := hin.few
  have hzx := hin.bel.size
  have ka := Lib.hid (all_any w.heap.size c v l wr hin.tome)
  rw [hlen] at ka
  have HQ := Lib.hid hQ; have HIN := Lib.hid hin; have HMID := Lib.hid hmid; have HMAP := Lib.hid hmap; have HSRC := Lib.hid hsrc
  clear hQ hin hmid hmap hsrc
  show Code.wp Tryz.prog (Code.seq bpR43 (Code.seq bpR44 (Code.seq bpR45 (Code.seq bpR46 (Code.seq bpR47 (Code.seq bpR48 (Code.seq (Code.seq bpR49 (Code.block 3 bpWho)) bpAsk))))))) _ _ _
  refine wp_seq ?_
  conv => arg 2; whnf
  conv => arg 4; dsimp only
  go_wp2_with fail
  refine ka.out.mono ?_
  rintro e w5 ⟨A5, c5, l5, rfl, hl5, ho5, hb5⟩
  have hz5 := hb5.size
  have hin5 := HIN.out.below hb5
  have hszl : ∀ a ∈ l5, a.j.ref.size ≤ maxLen ∧ a.j.lines.length ≤ 1000 := fun a ha => by
    have : a.j ∈ r.map JR.j := by rw [HMAP.out, ← hl5]; exact List.mem_map.2 ⟨a, ha, rfl⟩
    obtain ⟨y, hy, ey⟩ := List.mem_map.1 this
    rw [← ey]; exact HIN.out.size y hy
  have KP := Lib.hid (keepJournals_any b w.heap.size m m r.length c5 wr.heap.size (InTome c v l) A5 l5 w5
    (((HIN.out.kept.more (S' := fun k => InTome c v l k ∨ wr.heap.size ≤ k) fun k hk => hk).below hb5).more fun k hk => .inl (by
      rcases hk with h | h
      · exact .inl h
      · exact .inr (own_ge ho5.own k h))) hm ho5 (fun a ha => ⟨(hszl a ha).1, by have := (hszl a ha).2; omega⟩) (by omega) hzx (fun k hk => by
      have h1 := HIN.out.tome.ltB k hk
      exact ⟨by omega, fun e => by have := own_ge ho5.own k e; omega⟩))
  have HIN5 := Lib.hid hin5; have HMID5 := Lib.hid (HMID.out.below hb5); have HO5 := Lib.hid ho5; have HL5 := Lib.hid hl5; have HSZ := Lib.hid hszl
  clear hb5 hin5 ho5 hl5 hszl ka HIN HMID
  go_wp2_with fail
  conv => arg 2; whnf
  conv => arg 4; dsimp only
  go_wp2_with fail
  refine KP.out.mono ?_
  rintro e w6 ⟨rfl, hk6, hb6, ho6⟩
  have hin6 := HIN5.out.keep hb6 ho6 (by decide) (by decide) (by decide) hk6
  have hmid6 := HMID5.out.keep ho6 (by decide) (by decide) (by decide)
  have HALL6 : Hid (OwnJl w6 wr.heap.size A5 r.length c5 l5) := ⟨ho6.own HO5.out.own (by decide), fun a ha => ho6.own (HO5.out.lines a ha) (by decide)⟩
  obtain ⟨jj, on, hjl, kg, Ak, ck, hk2, kg2⟩ := get_both hin6 HMAP.out x
  have KG := Lib.hid kg; have KG2 := Lib.hid kg2; have HK2 := Lib.hid hk2; have HIN6 := Lib.hid hin6; have HMID6 := Lib.hid hmid6
  have hzw6 := hin6.bel.size
  clear hk6 hb6 ho6 hin6 hmid6 kg kg2 hk2 KP HIN5 HMID5 HO5
  go_wp2_with fail
  conv => arg 2; whnf
  conv => arg 4; dsimp only
  go_wp2_with fail
  refine KG.out.mono ?_
  rintro e w7 ⟨Aj, cj, rfl, hoj, hb7⟩
  obtain ⟨W7, hW7⟩ : ∃ W7, w7.alloc (.cells #[.int .i64 jj.id, .int .i64 jj.ent, .int .i64 jj.per, .string jj.ref, .slice Aj jj.lines.length cj, .bool jj.void] 43) = W7 := ⟨_, rfl⟩
  have hb77 : Below w7.heap.size w7 W7 := by rw [← hW7]; exact (Below.refl _ _).alloc (Nat.le_refl _) _
  have hj7 : JAt W7 w7.heap.size jj Aj jj.lines.length cj := by rw [← hW7]; exact heap_new w7 _
  have hb67 : Below w6.heap.size w6 W7 := hb7.trans (hb77.mono hb7.size)
  have HJ7 := Lib.hid hj7; have HB67 := Lib.hid hb67; have HW7 := Lib.hid hW7
  have HOJ : Hid (W7.ownsRow w6.heap.size 100 3 (.slice Aj jj.lines.length cj) jj.lines.length (lins jj.lines)) := own_kept hoj fun k hk _ => hb77.block k hk
  clear hoj hb7 hb77 hj7 hb67 hW7 KG
  go_wp2_with fail
  rw [HW7.out]
  conv => arg 2; whnf
  conv => arg 4; dsimp only
  go_wp2_with fail
  refine (KG2.out _ HB67.out).mono ?_
  rintro e w8 ⟨rfl, hb8⟩
  obtain ⟨W8, hW8⟩ : ∃ W8, w8.alloc (.cells #[.int .i64 jj.id, .int .i64 jj.ent, .int .i64 jj.per, .string jj.ref, .slice Ak jj.lines.length ck, .bool jj.void] 43) = W8 := ⟨_, rfl⟩
  have hb88 : Below w8.heap.size w8 W8 := by rw [← hW8]; exact (Below.refl _ _).alloc (Nat.le_refl _) _
  have hj8 : JAt W8 w8.heap.size jj Ak jj.lines.length ck := by rw [← hW8]; exact heap_new w8 _
  have hb78 : Below W7.heap.size W7 W8 := hb8.trans (hb88.mono hb8.size)
  have hb68 : Below w6.heap.size w6 W8 := HB67.out.trans (hb78.mono HB67.out.size)
  have hj78 : JAt W8 w7.heap.size jj Aj jj.lines.length cj := (hb78.block _ (lt_of_blk HJ7.out)).trans HJ7.out
  have hoj8 : W8.ownsRow w6.heap.size 100 3 (.slice Aj jj.lines.length cj) jj.lines.length (lins jj.lines) := own_kept HOJ.out fun k hk _ => hb78.block k hk
  obtain ⟨y0, y1, y2, y3, y4, y5⟩ := six_cells hj78
  have hz68 := hb68.size
  have KL := Lib.hid (keepLines_any b w.heap.size m (m + 1) jj.lines.length cj w6.heap.size (InTome c v l) Aj jj.lines W8
    (((HIN6.out.kept.more (S' := fun k => InTome c v l k ∨ w6.heap.size ≤ k) fun k hk => hk).below hb68).more fun k hk => .inl (by
      rcases hk with h | h
      · exact .inl h
      · exact .inr (own_ge hoj8 k h))) hm hoj8 (by omega) hzw6 (fun k hk => by
      have h1 := HIN6.out.tome.ltB k hk
      exact ⟨by omega, fun e => by have := own_ge hoj8 k e; omega⟩))
  have HIN8 := Lib.hid (HIN6.out.below hb68); have HMID8 := Lib.hid (HMID6.out.below hb68); have HALL8 := Lib.hid (HALL6.out.kept hb68)
  have HK8 : Hid (W8.ownsRow w.heap.size 100 3 (.slice Ak jj.lines.length ck) jj.lines.length (lins jj.lines)) := own_kept HK2.out fun k hk _ => hb68.block k hk
  have HOJ8 := Lib.hid hoj8; have HJ8 := Lib.hid hj8; have HJ78 := Lib.hid hj78; have HW8 := Lib.hid hW8
  clear hb8 hb88 hj8 hb78 hb68 hj78 hoj8 hW8 HIN6 HMID6 HALL6 HK2 HOJ HJ7 HB67 KG2
  go_wp2_with fail
  rw [HW8.out]
  conv => arg 2; whnf
  conv => arg 4; dsimp only
  go_wp2_with fail
  refine KL.out.mono ?_
  rintro e w9 ⟨rfl, hk9, hb9, ho9⟩
  have HIN9 := Lib.hid (HIN8.out.keep hb9 ho9 (by decide) (by decide) (by decide) hk9)
  have HMID9 := Lib.hid (HMID8.out.keep ho9 (by decide) (by decide) (by decide))
  have HALL9 : Hid (OwnJl w9 wr.heap.size A5 r.length c5 l5) := ⟨ho9.own HALL8.out.own (by decide), fun a ha => ho9.own (HALL8.out.lines a ha) (by decide)⟩
  have HJ1 : Hid (JAt w9 w7.heap.size jj Aj jj.lines.length cj) := (ho9 _ _ _ HJ78.out (by decide)).trans HJ78.out
  have HJ2 : Hid (JAt w9 w8.heap.size jj Ak jj.lines.length ck) := (ho9 _ _ _ HJ8.out (by decide)).trans HJ8.out
  have HR1 := Lib.hid (ho9.own HOJ8.out (by decide))
  have HR2 := Lib.hid (ho9.own HK8.out (by decide))
  clear hk9 hb9 ho9 KL HIN8 HMID8 HALL8 HJ78 HJ8 HOJ8 HK8 y0 y1 y2 y3 y4 y5
  go_wp2_with fail
  conv => arg 2; whnf
  conv => arg 4; dsimp only
  go_wp2_with fail
  conv => arg 2; whnf
  conv => arg 4; dsimp only
  go_wp2_with fail
  refine bpWho_any _ _ _ _ _ _ _ _ _ _ _ _ _ _ _ _ _ _ _ _ _ _ _ _ _ _ _ _ _ _ _ _ _ _ _ _ _ _ _ _ _ _ _ _ _ _ _ _ _ _ _ _ _ _ _ _ _ _ _ _ _ _ _ _ _ _ _ _ _ _ _ _ _ _ _ _ _ _ _ _ _ _ _ _ _ _ _ _ _ _ _ _ _ _ _ _ _ _ _ _ _ _ _ _ _ _ _ _ _ _ _ _ _ _ _ _ _ _ _ _ _ _ _ _ _ _ _ _ _ _ _ _ _ _ _ _ _ _ _ _ _ _ _ _ _ _ _ _ _ _ _ _ _ _ _ _ _ _ _ _ _ _ _ _ _ _ _ _ _ _ _ _ _ _ _ _ _ _ _ _ _ _ _ _ _ _ _ _ _ _ _ _ _ _ _ _ _ _ _ _ _ _ _ _ _ _ _ _ _ _ _ _ _ _ _ _ _ _ _ _ _ _ _ _ _ _ _ _ _ _ _ _ _ _ _ _ _ _ _ _ _ _ _ _ _ _ _ _ _ _ _ _ _ _ _ _ _ _ _ _ _ _ _ _ _ _ _ _ _ _ _ _ _ _ _ _ _ _ _ _ _ _ _ _ _ _ _ _ _ _ _ _ _ _ _ _ _ _ _ _ _ _ _ _ _ _ _ _ _ _ _ _ _ _ _ _ _ _ _ _ _ _ _ _ _ _ _ s A r.length cp w9.heap.size r w9 HIN9.out.jl.rd (Nat.le_refl _) (by omega) ?_
  intro u26 u198 u199 u200 u201 u202 u203 u204 u205 u206 u207 u208 u209 u210 u211 u212 u213 u214 u215 u216 u217 u218 u219 u220 u221 u222 u223 u224 u225 w10 hd10
  have hb10 : Below w9.heap.size w9 w10 := hd10.below
  rename_i K hK
  refine hK _ _ ?_
  refine bpAsk_any _ _ _ _ _ _ _ _ _ _ _ _ _ _ _ _ _ _ _ _ _ _ _ _ _ _ _ _ _ _ _ _ _ _ _ _ _ _ _ _ _ _ _ _ _ _ _ _ _ _ _ _ _ _ _ _ _ _ _ _ _ _ _ _ _ _ _ _ _ _ _ _ _ _ _ _ _ _ _ _ _ _ _ _ _ _ _ _ _ _ _ _ _ _ _ _ _ _ _ _ _ _ _ _ _ _ _ _ _ _ _ _ _ _ _ _ _ _ _ _ _ _ _ _ _ _ _ _ _ _ _ _ _ _ _ _ _ _ _ _ _ _ _ _ _ _ _ _ _ _ _ _ _ _ _ _ _ _ _ _ _ _ _ _ _ _ _ _ _ _ _ _ _ _ _ _ _ _ _ _ _ _ _ _ _ _ _ _ _ _ _ _ _ _ _ _ _ _ _ _ _ _ _ _ _ _ _ _ _ _ _ _ _ _ _ _ _ _ _ _ _ _ _ _ _ _ _ _ _ _ _ _ _ _ _ _ _ _ _ _ _ _ _ _ _ _ _ _ _ _ _ _ _ _ _ _ _ _ _ _ _ _ _ _ _ _ _ _ _ _ _ _ _ _ _ _ _ _ _ _ _ _ _ _ _ _ _ _ _ _ _ _ _ _ _ _ _ _ _ _ _ _ _ _ _ _ _ _ _ _ _ _ _ _ _ _ _ _ _ s b (m + 1) (m + 1) ob mb g cap w7.heap.size w8.heap.size o w w10 c v l A cp r A5 c5 l5 on jj Aj Ak cj ck (HIN9.out.below hb10) HMAP.out (HMID9.out.below hb10) HSRC.out hsz ((HALL9.out.kept hb10).rd fun a ha => ⟨(HSZ.out a ha).1, by have := (HSZ.out a ha).2; unfold maxLen; omega⟩) HL5.out ((hb10.block _ (lt_of_blk HJ1.out)).trans HJ1.out) ((hb10.block _ (lt_of_blk HJ2.out)).trans HJ2.out) (rd_of_own (own_kept HR1.out fun k hk _ => hb10.block k hk)) (rd_of_own (own_kept HR2.out fun k hk _ => hb10.block k hk)) (by unfold maxLen; omega) ?_
  intro u6 u226 u227 u228 u229 u230 u231 u232 u233 u234 u235 u236 u237 u238 u239 u240 u241 u242 u243 u244 u245 u246 u247 u248 u249 u250 u251 u252 u253 u254 u255 u256 u257 u258 u259 u260 u261 u262 u263 u264 u265 u266 u267 w11 hb11
  exact HQ.out _ _ _ _ _ _ _ _ _ _ _ _ _ _ _ _ _ _ _ _ _ _ _ _ _ _ _ _ _ _ _ _ _ _ _ _ _ _ _ _ _ _ _ _ _ _ _ _ _ _ _ _ _ _ _ _ _ _ _ _ _ _ _ _ _ _ _ _ _ _ _ _ _ _ _ _ _ _ _ _ _ _ _ _ _ _ _ _ _ _ _ _ _ _ _ _ _ _ _ _ _ _ _ ⟨c, v, l, A, cp, r, rfl, rfl, (HIN9.out.below hb10).below hb11, HMAP.out⟩
end Go.Proofs.YtpbdmohccebhhaaGreat
