/-
  ChartPlays: what is told and kept in a round.
-/
import Derived.Test.YtaliipcgekhepaaGreatChartPlaysLive
import Derived.Test.YtaliipcgekhepaaGreatChartPlaysGet
import Derived.Test.YtaliipcgekhepaaGreatChartPlaysWant
namespace Go.Proofs.YtaliipcgekhepaaGreat
open Go.RowKit

theorem ChartAt.only {w w' : World} {B c : Nat} {v : Value} {l : List Acc} {S : List TypeId} (h : ChartAt w B c v l) (ho : Only S w w') (h1 : ¬ 67 ∈ S) (h2 : ¬ 34 ∈ S) : ChartAt w' B c v l :=
  ⟨(ho c _ _ h.blk h1).trans h.blk, h.low, ho.own h.own h2, h.good⟩

set_option maxRecDepth 100000 in
set_option maxHeartbeats 4000000 in
theorem cpRest_any (s0 s1 s4 s5 s6 s7 s8 s9 s11 s13 s14 s16 s17 s18 s19 s20 s21 s22 s23 s24 s25 s26 s27 s28 s29 s30 s31 s32 s33 s34 s35 s36 s37 s38 s39 s40 s41 s42 s43 s44 s45 s46 s47 s48 s49 s50 s51 s52 s53 s54 s55 s56 s57 s58 s59 s60 s61 s62 s63 s64 s65 s66 s67 s68 s69 s70 s71 s72 s73 s74 s75 s76 s77 s78 s79 s80 s81 s82 s83 s84 s85 s86 s87 s88 s89 s90 s91 s92 s93 s94 s95 s96 s97 s98 s99 s100 s101 s102 s103 s104 s105 s106 s107 s108 s109 s110 s111 s112 s113 s114 s115 s116 s117 s118 s119 s120 s121 s122 s123 s124 s125 s126 s127 s128 s129 s130 s131 s132 s133 s134 s135 s136 s137 s138 s139 s140 s141 s142 s143 s144 s145 s146 s147 s148 s149 s150 s151 s152 s153 s154 s155 s156 s157 s158 s159 s160 s161 s162 s163 s164 s165 s166 s167 s168 s169 s170 s171 s172 s173 s174 s175 s176 s177 s178 s179 s180 s181 s182 s183 s184 s185 s186 s187 s188 s189 s190 s191 s192 s193 s194 s195 s196 s197 s198 s199 s200 s201 s202 s203 s204 s205 s206 s207 s208 s209 s210 s211 s212 s213 s214 s215 s216 s217 s218 s219 s220 s221 s222 s223 s224 s225 s226 s227 s228 s229 s230 s231 s232 s233 s234 s235 s236 s237 s238 s239 s240 s241 s242 s243 s244 s245 s246 s247 s248 s249 s250 s251 s252 s253 s254 s255 s256 s257 s258 s259 s260 s261 s262 s263 s264 s265 s266 s267 s268 s269 s270 s271 s272 s273 s274 s275 s276 s277 s278 s279 s280 s281 s282 s283 s284 s285 s286 s287 s288 s289 s290 s291 s292 s293 s294 s295 s296 s297 s298 s299 s300 s301 s302 s303 s304 s305 s306 s307 s308 s309 s310 s311 s312 s313 s314 s315 s316 s317 s318 s319 s320 s321 s322 s323 s324 s325 s326 s327 s328 s329 s330 s331 s332 s333 s334 s335 s336 s337 s338 s339 s340 s341 s342 s343 s344 s345 s346 s347 s348 s349 s350 s351 s352 s353 : Value) (Q0 : Exit → Act → World → Prop) (A2 A3 : Option Addr) (n2 n3 c2 c3 b m : Nat) (w wr : World) (cv rv : Value) (ask kinds : List Int) (h2 : Rd w w.heap.size 1 A2 n2 (ints .i64 ask)) (h3 : Rd w w.heap.size 1 A3 n3 (ints .i64 kinds)) (hn2 : n2 ≤ 12) (hn3 : n3 ≤ 12) (hm : m < 250) (hplay : Play w wr b cv rv m)
    (hQ : ∀ (u8 u23 u24 u25 u26 u27 u28 u29 u30 u31 u32 u33 u34 u35 u202 u203 u204 u205 u206 u207 u208 u209 u210 u211 u212 u213 u214 u215 u216 u217 u218 u219 u220 u221 u222 u223 u224 u225 u226 u227 u228 u229 u230 u231 u232 u233 u234 u235 u236 u237 u238 u239 u240 u241 u242 u243 u244 u245 u246 u247 u248 u249 u250 u251 u252 u253 u254 u255 u256 u257 u258 u259 u260 u261 u262 u263 u264 u265 u266 u267 u268 u269 u270 u271 u272 u273 u274 u275 u276 u277 u278 u279 u280 u281 u282 u283 u284 u285 u286 u287 u288 u289 u290 u291 u292 u293 u294 u295 u296 u297 u298 u299 u300 u301 u302 u303 u304 u305 u306 u307 u308 u309 u310 u311 : Value) (w' : World), Play w w' b cv rv (m + 1) → Q0 .normal ⟨#[s0, s1, .slice A2 n2 c2, .slice A3 n3 c3, s4, s5, s6, s7, u8, s9, cv, s11, rv, s13, s14, .pointer (some ⟨b, 0, none⟩), s16, s17, s18, s19, s20, s21, s22, u23, u24, u25, u26, u27, u28, u29, u30, u31, u32, u33, u34, u35, s36, s37, s38, s39, s40, s41, s42, s43, s44, s45, s46, s47, s48, s49, s50, s51, s52, s53, s54, s55, s56, s57, s58, s59, s60, s61, s62, s63, s64, s65, s66, s67, s68, s69, s70, s71, s72, s73, s74, s75, s76, s77, s78, s79, s80, s81, s82, s83, s84, s85, s86, s87, s88, s89, s90, s91, s92, s93, s94, s95, s96, s97, s98, s99, s100, s101, s102, s103, s104, s105, s106, s107, s108, s109, s110, s111, s112, s113, s114, s115, s116, s117, s118, s119, s120, s121, s122, s123, s124, s125, s126, s127, s128, s129, s130, s131, s132, s133, s134, s135, s136, s137, s138, s139, s140, s141, s142, s143, s144, s145, s146, s147, s148, s149, s150, s151, s152, s153, s154, s155, s156, s157, s158, s159, s160, s161, s162, s163, s164, s165, s166, s167, s168, s169, s170, s171, s172, s173, s174, s175, s176, s177, s178, s179, s180, s181, s182, s183, s184, s185, s186, s187, s188, s189, s190, s191, s192, s193, s194, s195, s196, s197, s198, s199, s200, s201, u202, u203, u204, u205, u206, u207, u208, u209, u210, u211, u212, u213, u214, u215, u216, u217, u218, u219, u220, u221, u222, u223, u224, u225, u226, u227, u228, u229, u230, u231, u232, u233, u234, u235, u236, u237, u238, u239, u240, u241, u242, u243, u244, u245, u246, u247, u248, u249, u250, u251, u252, u253, u254, u255, u256, u257, u258, u259, u260, u261, u262, u263, u264, u265, u266, u267, u268, u269, u270, u271, u272, u273, u274, u275, u276, u277, u278, u279, u280, u281, u282, u283, u284, u285, u286, u287, u288, u289, u290, u291, u292, u293, u294, u295, u296, u297, u298, u299, u300, u301, u302, u303, u304, u305, u306, u307, u308, u309, u310, u311, s312, s313, s314, s315, s316, s317, s318, s319, s320, s321, s322, s323, s324, s325, s326, s327, s328, s329, s330, s331, s332, s333, s334, s335, s336, s337, s338, s339, s340, s341, s342, s343, s344, s345, s346, s347, s348, s349, s350, s351, s352, s353], []⟩ w') :
    Code.wp Tryz.prog cpRest Q0 ⟨#[s0, s1, .slice A2 n2 c2, .slice A3 n3 c3, s4, s5, s6, s7, s8, s9, cv, s11, rv, s13, s14, .pointer (some ⟨b, 0, none⟩), s16, s17, s18, s19, s20, s21, s22, s23, s24, s25, s26, s27, s28, s29, s30, s31, s32, s33, s34, s35, s36, s37, s38, s39, s40, s41, s42, s43, s44, s45, s46, s47, s48, s49, s50, s51, s52, s53, s54, s55, s56, s57, s58, s59, s60, s61, s62, s63, s64, s65, s66, s67, s68, s69, s70, s71, s72, s73, s74, s75, s76, s77, s78, s79, s80, s81, s82, s83, s84, s85, s86, s87, s88, s89, s90, s91, s92, s93, s94, s95, s96, s97, s98, s99, s100, s101, s102, s103, s104, s105, s106, s107, s108, s109, s110, s111, s112, s113, s114, s115, s116, s117, s118, s119, s120, s121, s122, s123, s124, s125, s126, s127, s128, s129, s130, s131, s132, s133, s134, s135, s136, s137, s138, s139, s140, s141, s142, s143, s144, s145, s146, s147, s148, s149, s150, s151, s152, s153, s154, s155, s156, s157, s158, s159, s160, s161, s162, s163, s164, s165, s166, s167, s168, s169, s170, s171, s172, s173, s174, s175, s176, s177, s178, s179, s180, s181, s182, s183, s184, s185, s186, s187, s188, s189, s190, s191, s192, s193, s194, s195, s196, s197, s198, s199, s200, s201, s202, s203, s204, s205, s206, s207, s208, s209, s210, s211, s212, s213, s214, s215, s216, s217, s218, s219, s220, s221, s222, s223, s224, s225, s226, s227, s228, s229, s230, s231, s232, s233, s234, s235, s236, s237, s238, s239, s240, s241, s242, s243, s244, s245, s246, s247, s248, s249, s250, s251, s252, s253, s254, s255, s256, s257, s258, s259, s260, s261, s262, s263, s264, s265, s266, s267, s268, s269, s270, s271, s272, s273, s274, s275, s276, s277, s278, s279, s280, s281, s282, s283, s284, s285, s286, s287, s288, s289, s290, s291, s292, s293, s294, s295, s296, s297, s298, s299, s300, s301, s302, s303, s304, s305, s306, s307, s308, s309, s310, s311, s312, s313, s314, s315, s316, s317, s318, s319, s320, s321, s322, s323, s324, s325, s326, s327, s328, s329, s330, s331, s332, s333, s334, s335, s336, s337, s338, s339, s340, s341, s342, s343, s344, s345, s346, s347, s348, s349, s350, s351, s352, s353], []⟩ wr := by
  obtain ⟨hbel, ci, v, l, A, cp, rfl, rfl, hch, hown, hsep, hk⟩ := hplay
  have hzx := hbel.size
  have hlen := hch.good.len
  have hkl := kindL_len l kinds
  have HQ := Lib.hid hQ; have H2 := Lib.hid h2; have H3 := Lib.hid h3
  have HCH := Lib.hid hch; have HOWN := Lib.hid hown; have HSEP := Lib.hid hsep; have HK := Lib.hid hk; have HBEL := Lib.hid hbel
  clear hQ h2 h3 hch hown hsep hk hbel
  have ka := Lib.hid (all_any w.heap.size ci v l wr HCH.out)
  have kk := Lib.hid fun (W : World) (hb : Below wr.heap.size wr W) => kind_any w.heap.size ci v l kinds A3 n3 c3 w.heap.size W (HCH.out.below hb) ((H3.out.below HBEL.out).far hb hzx) (Nat.le_trans hzx hb.size) (by omega)
  conv => arg 2; whnf
  conv => arg 4; dsimp only
  go_wp2_with fail
  refine ka.out.mono ?_
  rintro e w5 ⟨A5, c5, rfl, ho5, hb5⟩
  have hz5 := hb5.size
  have HO5 := Lib.hid ho5
  have HB5 := Lib.hid hb5
  clear ho5 hb5 ka
  go_wp2_with fail
  refine (kk.out w5 HB5.out).mono ?_
  rintro e w6 ⟨A6, c6, rfl, ho6, hb6⟩
  have hz6 := hb6.size
  have HO6 := Lib.hid ho6
  have HB6 : Hid (Below wr.heap.size wr w6) := HB5.out.trans (hb6.mono hz5)
  have HO56 : Hid (w6.ownsRow wr.heap.size 34 3 (.slice A5 l.length c5) l.length (accs l)) := own_kept HO5.out fun q hq _ => hb6.block q hq
  have HA5L : Hid (∀ k, (Value.slice A5 l.length c5).ownBlock = some k → k < w5.heap.size) := fun k hk => own_lt HO5.out k hk
  have KP := Lib.hid (keepAccounts_any b w.heap.size m m l.length c5 wr.heap.size (fun k => v.ownBlock = some k ∨ (Value.slice A6 (kindL l kinds).length c6).ownBlock = some k) A5 l w6
    (((HK.out.more (S' := fun k => v.ownBlock = some k ∨ wr.heap.size ≤ k) fun k hk => hk).below HB6.out).more fun k hk => .inl (by
      rcases hk with (h | h) | h
      · exact .inl h
      · exact .inr (Nat.le_trans hz5 (own_ge ho6 k h))
      · exact .inr (own_ge HO5.out k h))) hm HO56.out (by omega) hzx (fun k hk => by
      rcases hk with h | h
      · have h1 := own_lt HCH.out.own k h
        exact ⟨by omega, fun e => by have := own_ge HO5.out k e; omega⟩
      · have h1 := own_lt ho6 k h
        have h2 := own_ge ho6 k h
        exact ⟨h1, fun e => by have := HA5L.out k e; omega⟩))
  clear ho6 hb6 kk
  go_wp2_with fail
  refine KP.out.mono ?_
  rintro e w7 ⟨rfl, hk7, hb7, hon7⟩
  have hz7 := hb7.size
  have ho67 := hon7.own HO6.out (by decide)
  have KI := Lib.hid (keepInts_any b w.heap.size (m + 1) m (kindL l kinds).length c6 w5.heap.size (fun k => v.ownBlock = some k) A6 (kindL l kinds) w7 hk7 hm ho67 (by omega) (by omega) (fun k hk => by
      have h1 := own_lt HCH.out.own k hk
      exact ⟨by omega, fun e => by have := own_ge HO6.out k e; omega⟩))
  have HC7 := Lib.hid ((HCH.out.below HB6.out).only hon7 (by decide) (by decide))
  have HR7 := Lib.hid (hon7.own (own_kept HOWN.out fun q hq _ => HB6.out.block q hq) (by decide))
  have HA7 := Lib.hid (hon7.own HO56.out (by decide))
  have HF7 := Lib.hid ho67
  have HB7 : Hid (Below w.heap.size w w7) := (HBEL.out.trans (HB6.out.mono hzx)).trans hb7
  clear hk7 hb7 hon7 ho67 KP
  go_wp2_with fail
  refine KI.out.mono ?_
  rintro e w8 ⟨rfl, hk8, hb8, hon8⟩
  have hz8 := hb8.size
  have HK8 := Lib.hid hk8
  have HC8 := Lib.hid (HC7.out.only hon8 (by decide) (by decide))
  have HR8 := Lib.hid (hon8.own HR7.out (by decide))
  have HA8 := Lib.hid (hon8.own HA7.out (by decide))
  have HF8 := Lib.hid (hon8.own HF7.out (by decide))
  have HB8 : Hid (Below w.heap.size w w8) := HB7.out.trans hb8
  have hzw := HB8.out.size
  clear hk8 hb8 hon8 KI HC7 HR7 HA7 HF7
  have H28 : Hid (Rd w8 w.heap.size 1 A2 n2 (ints .i64 ask)) := H2.out.below HB8.out
  have H38 : Hid (Rd w8 w.heap.size 1 A3 n3 (ints .i64 kinds)) := H3.out.below HB8.out
  generalize hN : l.length = N at *
  have HN := Lib.hid hN
  clear hN
  go_wp2_with fail
  refine cpWant_any _ _ _ _ _ _ _ _ _ _ _ _ _ _ _ _ _ _ _ _ _ _ _ _ _ _ _ _ _ _ _ _ _ _ _ _ _ _ _ _ _ _ _ _ _ _ _ _ _ _ _ _ _ _ _ _ _ _ _ _ _ _ _ _ _ _ _ _ _ _ _ _ _ _ _ _ _ _ _ _ _ _ _ _ _ _ _ _ _ _ _ _ _ _ _ _ _ _ _ _ _ _ _ _ _ _ _ _ _ _ _ _ _ _ _ _ _ _ _ _ _ _ _ _ _ _ _ _ _ _ _ _ _ _ _ _ _ _ _ _ _ _ _ _ _ _ _ _ _ _ _ _ _ _ _ _ _ _ _ _ _ _ _ _ _ _ _ _ _ _ _ _ _ _ _ _ _ _ _ _ _ _ _ _ _ _ _ _ _ _ _ _ _ _ _ _ _ _ _ _ _ _ _ _ _ _ _ _ _ _ _ _ _ _ _ _ _ _ _ _ _ _ _ _ _ _ _ _ _ _ _ _ _ _ _ _ _ _ _ _ _ _ _ _ _ _ _ _ _ _ _ _ _ _ _ _ _ _ _ _ _ _ _ _ _ _ _ _ _ _ _ _ _ _ _ _ _ _ _ _ _ _ _ _ _ _ _ _ _ _ _ _ _ _ _ _ _ _ _ _ _ _ _ _ _ _ _ _ _ _ _ _ _ _ _ _ _ _ _ _ _ _ _ _ _ _ _ _ _ _ _ _ _ _ _ _ _ _ _ _ _ _ _ _ _ _ _ _ _ _ _ A A3 N cp n3 c3 w.heap.size l kinds w8 H38.out hzw hn3 (rd_of_own HR8.out) hlen ?_
  intro u26 u27 u28 u213 u214 u215 u216 u217 u218 u219 u220 u221 u222 u223 u224 u225 u226 u227 u228 u229 u230 u231 u232 u233 u234 u235 u236 u237 u238 u239 u240 u241 u242 u243 u244 u245 u246 A9 c9 w9 ho9 hb9
  have hz9 := hb9.size
  have HO9 := Lib.hid ho9
  have HB9 := Lib.hid hb9
  clear ho9 hb9
  generalize hM : (kindL l kinds).length = M at *
  have HM := Lib.hid hM
  clear hM
  go_wp2_with fail
  refine cpLive_any _ _ _ _ _ _ _ _ _ _ _ _ _ _ _ _ _ _ _ _ _ _ _ _ _ _ _ _ _ _ _ _ _ _ _ _ _ _ _ _ _ _ _ _ _ _ _ _ _ _ _ _ _ _ _ _ _ _ _ _ _ _ _ _ _ _ _ _ _ _ _ _ _ _ _ _ _ _ _ _ _ _ _ _ _ _ _ _ _ _ _ _ _ _ _ _ _ _ _ _ _ _ _ _ _ _ _ _ _ _ _ _ _ _ _ _ _ _ _ _ _ _ _ _ _ _ _ _ _ _ _ _ _ _ _ _ _ _ _ _ _ _ _ _ _ _ _ _ _ _ _ _ _ _ _ _ _ _ _ _ _ _ _ _ _ _ _ _ _ _ _ _ _ _ _ _ _ _ _ _ _ _ _ _ _ _ _ _ _ _ _ _ _ _ _ _ _ _ _ _ _ _ _ _ _ _ _ _ _ _ _ _ _ _ _ _ _ _ _ _ _ _ _ _ _ _ _ _ _ _ _ _ _ _ _ _ _ _ _ _ _ _ _ _ _ _ _ _ _ _ _ _ _ _ _ _ _ _ _ _ _ _ _ _ _ _ _ _ _ _ _ _ _ _ _ _ _ _ _ _ _ _ _ _ _ _ _ _ _ _ _ _ _ _ _ _ _ _ _ _ _ _ _ _ _ _ _ _ _ _ _ _ _ _ _ _ _ _ _ _ _ _ _ _ _ _ _ _ _ _ _ _ _ _ _ _ _ _ _ _ _ _ _ _ _ _ _ _ _ _ _ A A2 N cp n2 c2 w.heap.size l ask w9 (H28.out.far HB9.out hzw) (by omega) hn2 ((rd_of_own HR8.out).far HB9.out (Nat.le_refl _) |>.wide hz9) hlen ?_
  intro u30 u247 u248 u249 u250 u251 u252 u253 u254 u255 u256 u257 u258 u259 u260 u261 u262 w10 hb10
  have hz10 := hb10.size
  have HB10 : Hid (Below w8.heap.size w8 w10) := HB9.out.trans (hb10.mono hz9)
  have HO10 : Hid (w10.ownsRow w8.heap.size 3 1 (.slice A9 M c9) M (ints .i64 (kindL l kinds))) := own_kept HO9.out fun q hq _ => hb10.block q hq
  clear hb10
  have ks := Lib.hid (sameAccounts_any l l A5 A N N c5 cp _ _ w10 ((rd_of_own HA8.out).below HB10.out) ((rd_of_own HR8.out).below HB10.out) (by omega) (by omega))
  have ki := Lib.hid fun (W : World) (hd : Drew w10 W) => sameInts_any (kindL l kinds) (kindL l kinds) A6 A9 M M c6 c9 _ _ W (((rd_of_own HF8.out).below HB10.out).same fun p _ => hd.below.cell (B := p.block + 1) (by omega)) ((rd_of_own HO10.out).same fun p _ => hd.below.cell (B := p.block + 1) (by omega)) (by unfold maxLen; omega) (by unfold maxLen; omega)
  have kl := Lib.hid fun (W : World) (hb : Below w8.heap.size w8 W) => live_any w.heap.size ci v l ask A2 n2 c2 w.heap.size W (HC8.out.below hb) (H28.out.far hb hzw) (Nat.le_trans hzw hb.size) (by omega)
  generalize hE : liveE l ask = E at *
  have t1 : (E != E) = false := by simp
  clear hE
  go_wp2_with fail
  refine ks.out.mono ?_
  rintro e w11 ⟨rfl, hd11⟩
  rw [show (l == l) = true by simp]
  have HD11 := Lib.hid hd11
  clear hd11
  go_wp2_with fail
  refine (ki.out w11 HD11.out).mono ?_
  rintro e w12 ⟨rfl, hd12⟩
  rw [show (kindL l kinds == kindL l kinds) = true by simp]
  have HB12 : Hid (Below w8.heap.size w8 w12) := (HB10.out.trans HD11.out.below).trans hd12.below
  clear hd12
  go_wp2_with fail
  refine (kl.out w12 HB12.out).mono ?_
  rintro e w13 ⟨rfl, hb13⟩
  have HB13 : Hid (Below w8.heap.size w8 w13) := HB12.out.trans (hb13.mono HB12.out.size)
  have hz13 := HB13.out.size
  clear hb13
  go_wp2_with fail
  refine cpGet_any _ _ _ _ _ _ _ _ _ _ _ _ _ _ _ _ _ _ _ _ _ _ _ _ _ _ _ _ _ _ _ _ _ _ _ _ _ _ _ _ _ _ _ _ _ _ _ _ _ _ _ _ _ _ _ _ _ _ _ _ _ _ _ _ _ _ _ _ _ _ _ _ _ _ _ _ _ _ _ _ _ _ _ _ _ _ _ _ _ _ _ _ _ _ _ _ _ _ _ _ _ _ _ _ _ _ _ _ _ _ _ _ _ _ _ _ _ _ _ _ _ _ _ _ _ _ _ _ _ _ _ _ _ _ _ _ _ _ _ _ _ _ _ _ _ _ _ _ _ _ _ _ _ _ _ _ _ _ _ _ _ _ _ _ _ _ _ _ _ _ _ _ _ _ _ _ _ _ _ _ _ _ _ _ _ _ _ _ _ _ _ _ _ _ _ _ _ _ _ _ _ _ _ _ _ _ _ _ _ _ _ _ _ _ _ _ _ _ _ _ _ _ _ _ _ _ _ _ _ _ _ _ _ _ _ _ _ _ _ _ _ _ _ _ _ _ _ _ _ _ _ _ _ _ _ _ _ _ _ _ _ _ _ _ _ _ _ _ _ _ _ _ _ _ _ _ _ _ _ _ _ _ _ _ _ _ _ _ _ _ _ _ _ _ _ _ _ _ _ _ _ _ _ _ _ _ _ _ _ _ _ _ _ _ _ _ _ _ _ _ _ _ _ _ _ _ _ _ _ _ _ _ _ _ _ _ _ _ _ _ _ _ _ _ _ _ _ _ _ _ _ A A2 N cp n2 c2 w.heap.size w.heap.size ci v l ask w13 (H28.out.far HB13.out hzw) (by omega) hn2 ((rd_of_own HR8.out).below HB13.out |>.wide hz13) hlen (HC8.out.below HB13.out) ?_
  intro u8 u31 u32 u33 u34 u35 u280 u281 u282 u283 u284 u285 u286 u287 u288 u289 u290 u291 u292 u293 u294 u295 u296 u297 u298 u299 u300 u301 u302 u303 u304 u305 u306 u307 u308 u309 u310 u311 w14 hb14
  have HB14 : Hid (Below w8.heap.size w8 w14) := HB13.out.trans (hb14.mono hz13)
  clear hb14
  go_wp2
  have hn := HN.out
  subst hn
  exact HQ.out _ _ _ _ _ _ _ _ _ _ _ _ _ _ _ _ _ _ _ _ _ _ _ _ _ _ _ _ _ _ _ _ _ _ _ _ _ _ _ _ _ _ _ _ _ _ _ _ _ _ _ _ _ _ _ _ _ _ _ _ _ _ _ _ _ _ _ _ _ _ _ _ _ _ _ _ _ _ _ _ _ _ _ _ _ _ _ _ _ _ _ _ _ _ _ _ _ _ _ _ _ _ _ _ _ _ _ _ _ _ _ _ _ _ _ _ _ _ _ _ _ _ _ _ _ ⟨HB8.out.trans (HB14.out.mono hzw), ci, v, l, A, cp, rfl, rfl, HC8.out.below HB14.out, own_kept HR8.out fun q hq _ => HB14.out.block q hq, HSEP.out, HK8.out.below HB14.out⟩
end Go.Proofs.YtaliipcgekhepaaGreat
