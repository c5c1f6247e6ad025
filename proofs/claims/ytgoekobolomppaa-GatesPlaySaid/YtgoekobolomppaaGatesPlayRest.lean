/-
  GatesPlay: a round, and all of them; its end.
-/
import Derived.Test.YtgoekobolomppaaGatesPlayAsk
import Derived.Test.YtgoekobolomppaaArgRd
namespace Go.Proofs.Ytgoekobolomppaa
open Go.RowKit

noncomputable def gpRest : Code := subCode [1, 1, 1, 1, 1, 0, 1, 0, 0, 1, 0, 0, 1, 1] (Try.f3.body.getD .skip)
noncomputable def gpR9 : Code := subCode [1, 1, 1, 1, 1, 0, 1, 0, 0, 1, 0, 0, 0] (Try.f3.body.getD .skip)
noncomputable def gpX : Code := subCode [1, 1, 1, 1, 1, 0, 1, 0, 0, 1, 0, 0] (Try.f3.body.getD .skip)
noncomputable def gpR8 : Code := subCode [1, 1, 1, 1, 1, 0, 1, 0, 0, 1, 1] (Try.f3.body.getD .skip)
noncomputable def gpTest : Code := subCode [1, 1, 1, 1, 1, 0, 1, 0, 0, 0] (Try.f3.body.getD .skip)
noncomputable def gpEnd : Code := subCode [1, 1, 1, 1, 1, 1] (Try.f3.body.getD .skip)
noncomputable def gpR21 : Code := subCode [1, 1, 1, 1, 1, 0, 1, 0, 0, 1, 0, 0, 1, 1, 0] (Try.f3.body.getD .skip)
noncomputable def gpR22 : Code := subCode [1, 1, 1, 1, 1, 0, 1, 0, 0, 1, 0, 0, 1, 1, 1, 0] (Try.f3.body.getD .skip)
noncomputable def gpR23 : Code := subCode [1, 1, 1, 1, 1, 0, 1, 0, 0, 1, 0, 0, 1, 1, 1, 1, 0] (Try.f3.body.getD .skip)
noncomputable def gpR25 : Code := subCode [1, 1, 1, 1, 1, 0, 1, 0, 0, 1, 0, 0, 1, 1, 1, 1, 1, 0, 0] (Try.f3.body.getD .skip)

theorem GatesAt.only {w w' : World} {B c : Nat} {v : Value} {l : List Trio} {S : List TypeId} (h : GatesAt w B c v l) (ho : Only S w w') (h1 : ¬ 27 ∈ S) (h2 : ¬ 53 ∈ S) : GatesAt w' B c v l :=
  ⟨(ho c _ _ h.blk h1).trans h.blk, h.low, ho.own h.own h2, h.good⟩

set_option maxRecDepth 100000 in
set_option maxHeartbeats 4000000 in
theorem gpRest_any (s0 s3 s4 s5 s6 s10 s12 s13 s14 s15 s16 s17 s18 s19 s20 s21 s22 s23 s24 s25 s26 s27 s28 s29 s30 s31 s32 s33 s34 s35 s36 s37 s38 s39 s40 s41 s42 s43 s44 s45 s46 s47 s48 s49 s50 s51 s52 s53 s54 s55 s56 s57 s58 s59 s60 s61 s62 s63 s64 s65 s66 s67 s68 s69 s70 s71 s72 s73 s74 s75 s76 s77 s78 s79 s80 s81 s82 s83 s84 s85 s86 s87 s88 s89 s90 s91 s92 s93 s94 s95 s96 s97 s98 s99 s100 s101 s102 s103 s104 s105 s106 s107 s108 s109 s110 s111 s112 s113 s114 s115 s116 s117 s118 s119 s120 s121 s122 s123 s124 s125 s126 s127 s128 s129 s130 s131 s132 s133 s134 s135 s136 s137 s138 s139 s140 s141 s142 s143 s144 s145 s146 s147 s148 s149 s150 s151 s152 s153 s154 s155 s156 s157 s158 s159 s160 s161 s162 s163 s164 s165 s166 s167 s168 s169 s170 s171 s172 s173 s174 s175 s176 s177 s178 s179 : Value) (Q0 : Exit → Act → World → Prop) (en pe : Int) (b m ob : Nat) (o : GOp) (w wr : World) (gv rv : Value) (hm : m < 250) (hplay : Play w wr b gv rv m) (hop : OpAt wr ob o)
    (hQ : ∀ (u6 u15 u16 u80 u81 u82 u83 u84 u85 u86 u87 u88 u89 u90 u91 u92 u93 u94 u95 u96 u97 u98 u99 u100 u101 u102 u103 u104 u105 u106 u107 u108 u109 u110 u111 u112 u113 u114 u115 u116 u117 u118 u119 u120 u121 u122 u123 u124 u125 u126 u127 u128 u129 u130 u131 u132 u133 u134 u135 u136 u137 u138 u139 u140 u141 u142 u143 u144 u145 u146 u147 u148 u149 u150 u151 : Value) (w' : World), Play w w' b gv rv (m + 1) → Q0 .normal ⟨#[s0, .int .i64 en, .int .i64 pe, s3, s4, s5, u6, gv, rv, .pointer (some ⟨b, 0, none⟩), s10, .pointer (some ⟨ob, 0, none⟩), s12, s13, s14, u15, u16, s17, s18, s19, s20, s21, s22, s23, s24, s25, s26, s27, s28, s29, s30, s31, s32, s33, s34, s35, s36, s37, s38, s39, s40, s41, s42, s43, s44, s45, s46, s47, s48, s49, s50, s51, s52, s53, s54, s55, s56, s57, s58, s59, s60, s61, s62, s63, s64, s65, s66, s67, s68, s69, s70, s71, s72, s73, s74, s75, s76, s77, s78, s79, u80, u81, u82, u83, u84, u85, u86, u87, u88, u89, u90, u91, u92, u93, u94, u95, u96, u97, u98, u99, u100, u101, u102, u103, u104, u105, u106, u107, u108, u109, u110, u111, u112, u113, u114, u115, u116, u117, u118, u119, u120, u121, u122, u123, u124, u125, u126, u127, u128, u129, u130, u131, u132, u133, u134, u135, u136, u137, u138, u139, u140, u141, u142, u143, u144, u145, u146, u147, u148, u149, u150, u151, s152, s153, s154, s155, s156, s157, s158, s159, s160, s161, s162, s163, s164, s165, s166, s167, s168, s169, s170, s171, s172, s173, s174, s175, s176, s177, s178, s179], []⟩ w') :
    Code.wp Try.prog gpRest Q0 ⟨#[s0, .int .i64 en, .int .i64 pe, s3, s4, s5, s6, gv, rv, .pointer (some ⟨b, 0, none⟩), s10, .pointer (some ⟨ob, 0, none⟩), s12, s13, s14, s15, s16, s17, s18, s19, s20, s21, s22, s23, s24, s25, s26, s27, s28, s29, s30, s31, s32, s33, s34, s35, s36, s37, s38, s39, s40, s41, s42, s43, s44, s45, s46, s47, s48, s49, s50, s51, s52, s53, s54, s55, s56, s57, s58, s59, s60, s61, s62, s63, s64, s65, s66, s67, s68, s69, s70, s71, s72, s73, s74, s75, s76, s77, s78, s79, s80, s81, s82, s83, s84, s85, s86, s87, s88, s89, s90, s91, s92, s93, s94, s95, s96, s97, s98, s99, s100, s101, s102, s103, s104, s105, s106, s107, s108, s109, s110, s111, s112, s113, s114, s115, s116, s117, s118, s119, s120, s121, s122, s123, s124, s125, s126, s127, s128, s129, s130, s131, s132, s133, s134, s135, s136, s137, s138, s139, s140, s141, s142, s143, s144, s145, s146, s147, s148, s149, s150, s151, s152, s153, s154, s155, s156, s157, s158, s159, s160, s161, s162, s163, s164, s165, s166, s167, s168, s169, s170, s171, s172, s173, s174, s175, s176, s177, s178, s179], []⟩ wr := by
  obtain ⟨hbel, c, v, l, A, cp, rfl, rfl, hga, hown, hk⟩ := hplay
  have hzx := hbel.size
  have hlen := hga.good.len
  have HQ := Lib.hid hQ; have HG := Lib.hid hga; have HO := Lib.hid hown; have HK := Lib.hid hk; have HB := Lib.hid hbel; have HOP := Lib.hid hop
  clear hQ hga hown hk hbel hop
  have ka := Lib.hid (all_any w.heap.size c v l wr HG.out)
  show Code.wp Try.prog (Code.seq gpR21 (Code.seq gpR22 (Code.seq gpR23 (Code.seq (Code.seq gpR25 (Code.block 2 gpCmp)) gpAsk)))) _ _ _
  refine wp_seq ?_
  conv => arg 2; whnf
  conv => arg 4; dsimp only
  go_wp2_with fail
  refine ka.out.mono ?_
  rintro e w5 ⟨A5, c5, rfl, ho5, hb5⟩
  have hz5 := hb5.size
  have KP := Lib.hid (keepTrios_any b w.heap.size m l.length c5 wr.heap.size (fun k => v.ownBlock = some k) A5 l w5
    (((HK.out.more (S' := fun k => v.ownBlock = some k ∨ wr.heap.size ≤ k) fun k hk => hk).below hb5).more fun k hk => .inl (by
      rcases hk with h | h
      · exact .inl h
      · exact .inr (own_ge ho5 k h))) hm ho5 (by omega) hzx (fun k hk => by
      have h1 := own_lt HG.out.own k hk
      exact ⟨by omega, fun e => by have := own_ge ho5 k e; omega⟩))
  have HB5 := Lib.hid hb5
  have HO5 := Lib.hid ho5
  clear hb5 ho5 ka
  go_wp2_with fail
  conv => arg 2; whnf
  conv => arg 4; dsimp only
  go_wp2_with fail
  refine KP.out.mono ?_
  rintro e w7 ⟨rfl, hk7, hb7, hon7⟩
  have hz7 := hb7.size
  have HK7 := Lib.hid hk7
  have HG7 := Lib.hid ((HG.out.below HB5.out).only hon7 (by decide) (by decide))
  have HR7 := Lib.hid (hon7.own (own_kept HO.out fun q hq _ => HB5.out.block q hq) (by decide))
  have HA7 := Lib.hid (hon7.own HO5.out (by decide))
  have HOP7 := Lib.hid ((HOP.out.below HB5.out).only hon7 (by decide))
  have HB7 : Hid (Below w.heap.size w w7) := (HB.out.trans (HB5.out.mono hzx)).trans hb7
  clear hk7 hb7 hon7 KP
  have tN : ((l.length : Int) != (l.length : Int)) = false := by simp
  go_wp2_with fail
  conv => arg 2; whnf
  conv => arg 4; dsimp only
  go_wp2_with fail
  conv => arg 2; whnf
  conv => arg 4; dsimp only
  go_wp2_with fail
  refine gpCmp_any _ _ _ _ _ _ _ _ _ _ _ _ _ _ _ _ _ _ _ _ _ _ _ _ _ _ _ _ _ _ _ _ _ _ _ _ _ _ _ _ _ _ _ _ _ _ _ _ _ _ _ _ _ _ _ _ _ _ _ _ _ _ _ _ _ _ _ _ _ _ _ _ _ _ _ _ _ _ _ _ _ _ _ _ _ _ _ _ _ _ _ _ _ _ _ _ _ _ _ _ _ _ _ _ _ _ _ _ _ _ _ _ _ _ _ _ _ _ _ _ _ _ _ _ _ _ _ _ _ _ _ _ _ _ _ _ _ _ _ _ _ _ _ _ _ _ _ _ _ _ _ _ _ _ _ _ _ _ _ _ _ _ _ _ _ _ _ _ _ _ _ _ _ _ _ _ _ _ A A5 l.length cp c5 _ _ l w7 (rd_of_own HR7.out) (rd_of_own HA7.out) (by omega) ?_
  intro u6 u16 u90 u91 u92 u93 u94 u95 u96 u97 u98 u99 u100 u101 u102 u103 u104 u105 u106 u107 u108 u109 u110 u111 u112 u113 u114 u115 u116 w8 hd8
  have HB8 : Hid (Below w7.heap.size w7 w8) := hd8.below
  clear hd8
  rename_i K hK
  refine hK _ _ ?_
  refine gpAsk_any _ _ _ _ _ _ _ _ _ _ _ _ _ _ _ _ _ _ _ _ _ _ _ _ _ _ _ _ _ _ _ _ _ _ _ _ _ _ _ _ _ _ _ _ _ _ _ _ _ _ _ _ _ _ _ _ _ _ _ _ _ _ _ _ _ _ _ _ _ _ _ _ _ _ _ _ _ _ _ _ _ _ _ _ _ _ _ _ _ _ _ _ _ _ _ _ _ _ _ _ _ _ _ _ _ _ _ _ _ _ _ _ _ _ _ _ _ _ _ _ _ _ _ _ _ _ _ _ _ _ _ _ _ _ _ _ _ _ _ _ _ _ _ _ _ _ _ _ _ _ _ _ _ _ _ _ _ _ _ _ _ _ _ _ _ _ _ _ _ _ _ _ _ _ _ _ en pe ob c w.heap.size l.length cp _ v l A o w8 (HG7.out.below HB8.out) (((rd_of_own HR7.out).below HB8.out)) HB8.out.size (by omega) (HOP7.out.below HB8.out) ?_
  intro u117 u118 u119 u120 u121 u122 u123 u124 u125 u126 u127 u128 u129 u130 u131 u132 u133 u134 u135 u136 u137 u138 u139 u140 u141 u142 u143 u144 u145 u146 u147 u148 u149 u150 u151 w9 hb9
  have HB9 : Hid (Below w7.heap.size w7 w9) := HB8.out.trans (hb9.mono HB8.out.size)
  have hz7w := HB7.out.size
  exact HQ.out _ _ _ _ _ _ _ _ _ _ _ _ _ _ _ _ _ _ _ _ _ _ _ _ _ _ _ _ _ _ _ _ _ _ _ _ _ _ _ _ _ _ _ _ _ _ _ _ _ _ _ _ _ _ _ _ _ _ _ _ _ _ _ _ _ _ _ _ _ _ _ _ _ _ _ _ ⟨HB7.out.trans (HB9.out.mono hz7w), c, v, l, A, cp, rfl, rfl, HG7.out.below HB9.out, own_kept HR7.out fun q hq _ => HB9.out.block q hq, HK7.out.below HB9.out⟩

set_option maxRecDepth 100000 in
set_option maxHeartbeats 4000000 in
theorem gpX_any (s3 s4 s5 s6 s11 s12 s13 s14 s15 s16 s17 s18 s19 s20 s21 s22 s23 s24 s25 s26 s27 s28 s29 s30 s31 s32 s33 s34 s35 s36 s37 s38 s39 s40 s41 s42 s43 s44 s45 s46 s47 s48 s49 s50 s51 s52 s53 s54 s55 s56 s57 s58 s59 s60 s61 s62 s63 s64 s65 s66 s67 s68 s69 s70 s71 s72 s73 s74 s75 s76 s77 s78 s79 s80 s81 s82 s83 s84 s85 s86 s87 s88 s89 s90 s91 s92 s93 s94 s95 s96 s97 s98 s99 s100 s101 s102 s103 s104 s105 s106 s107 s108 s109 s110 s111 s112 s113 s114 s115 s116 s117 s118 s119 s120 s121 s122 s123 s124 s125 s126 s127 s128 s129 s130 s131 s132 s133 s134 s135 s136 s137 s138 s139 s140 s141 s142 s143 s144 s145 s146 s147 s148 s149 s150 s151 s152 s153 s154 s155 s156 s157 s158 s159 s160 s161 s162 s163 s164 s165 s166 s167 s168 s169 s170 s171 s172 s173 s174 s175 s176 s177 s178 s179 : Value) (Q0 : Exit → Act → World → Prop) (ops : List GOp) (en pe : Int) (A0 : Option Addr) (n0 c0 b m : Nat) (w wr : World) (gv rv : Value) (h0 : Rd w w.heap.size 4 A0 n0 (ops.flatMap GOp.cells)) (hn0 : n0 ≤ 50) (hmn : m < n0) (hplay : Play w wr b gv rv m)
    (hQ : ∀ (u6 u7 u8 u11 u12 u13 u14 u15 u16 u36 u37 u38 u39 u40 u41 u42 u43 u44 u45 u46 u47 u48 u49 u50 u51 u52 u53 u54 u55 u56 u57 u58 u59 u60 u61 u62 u63 u64 u65 u66 u67 u68 u69 u70 u71 u72 u73 u74 u75 u76 u77 u78 u79 u80 u81 u82 u83 u84 u85 u86 u87 u88 u89 u90 u91 u92 u93 u94 u95 u96 u97 u98 u99 u100 u101 u102 u103 u104 u105 u106 u107 u108 u109 u110 u111 u112 u113 u114 u115 u116 u117 u118 u119 u120 u121 u122 u123 u124 u125 u126 u127 u128 u129 u130 u131 u132 u133 u134 u135 u136 u137 u138 u139 u140 u141 u142 u143 u144 u145 u146 u147 u148 u149 u150 u151 : Value) (w' : World), Play w w' b u7 u8 (m + 1) → Q0 .normal ⟨#[.slice A0 n0 c0, .int .i64 en, .int .i64 pe, s3, s4, s5, u6, u7, u8, .pointer (some ⟨b, 0, none⟩), .int .i64 (m : Nat), u11, u12, u13, u14, u15, u16, s17, s18, s19, s20, s21, s22, s23, s24, s25, s26, s27, s28, s29, s30, s31, s32, s33, s34, s35, u36, u37, u38, u39, u40, u41, u42, u43, u44, u45, u46, u47, u48, u49, u50, u51, u52, u53, u54, u55, u56, u57, u58, u59, u60, u61, u62, u63, u64, u65, u66, u67, u68, u69, u70, u71, u72, u73, u74, u75, u76, u77, u78, u79, u80, u81, u82, u83, u84, u85, u86, u87, u88, u89, u90, u91, u92, u93, u94, u95, u96, u97, u98, u99, u100, u101, u102, u103, u104, u105, u106, u107, u108, u109, u110, u111, u112, u113, u114, u115, u116, u117, u118, u119, u120, u121, u122, u123, u124, u125, u126, u127, u128, u129, u130, u131, u132, u133, u134, u135, u136, u137, u138, u139, u140, u141, u142, u143, u144, u145, u146, u147, u148, u149, u150, u151, s152, s153, s154, s155, s156, s157, s158, s159, s160, s161, s162, s163, s164, s165, s166, s167, s168, s169, s170, s171, s172, s173, s174, s175, s176, s177, s178, s179], []⟩ w') :
    Code.wp Try.prog gpX Q0 ⟨#[.slice A0 n0 c0, .int .i64 en, .int .i64 pe, s3, s4, s5, s6, gv, rv, .pointer (some ⟨b, 0, none⟩), .int .i64 (m : Nat), s11, s12, s13, s14, s15, s16, s17, s18, s19, s20, s21, s22, s23, s24, s25, s26, s27, s28, s29, s30, s31, s32, s33, s34, s35, s36, s37, s38, s39, s40, s41, s42, s43, s44, s45, s46, s47, s48, s49, s50, s51, s52, s53, s54, s55, s56, s57, s58, s59, s60, s61, s62, s63, s64, s65, s66, s67, s68, s69, s70, s71, s72, s73, s74, s75, s76, s77, s78, s79, s80, s81, s82, s83, s84, s85, s86, s87, s88, s89, s90, s91, s92, s93, s94, s95, s96, s97, s98, s99, s100, s101, s102, s103, s104, s105, s106, s107, s108, s109, s110, s111, s112, s113, s114, s115, s116, s117, s118, s119, s120, s121, s122, s123, s124, s125, s126, s127, s128, s129, s130, s131, s132, s133, s134, s135, s136, s137, s138, s139, s140, s141, s142, s143, s144, s145, s146, s147, s148, s149, s150, s151, s152, s153, s154, s155, s156, s157, s158, s159, s160, s161, s162, s163, s164, s165, s166, s167, s168, s169, s170, s171, s172, s173, s174, s175, s176, s177, s178, s179], []⟩ wr := by
  have HP := Lib.hid hplay
  have hbel := hplay.1
  have hzx := hbel.size
  have hl : ops.length = n0 := by
    have := h0.1
    rw [flat_len (cells := GOp.cells) (size := 4) (fun _ => rfl)] at this
    omega
  obtain ⟨ad, o, rfl, hbo, ho, hcells⟩ := (h0.below hbel).flat (cells := GOp.cells) (fun _ => rfl) (by omega) (i := m) hmn
  have p1 : wr.cell? (ad.add (m * 4)) = some (.int .i64 o.e) := hcells 0 _ rfl
  have p2 := cell_behind (hcells 1 _ rfl) (by omega)
  have p3 := cell_behind (hcells 2 _ rfl) (by omega)
  have p4 := cell_behind (hcells 3 _ rfl) (by omega)
  have hmI : (m : Int) < (n0 : Int) := by omega
  have HQ := Lib.hid hQ
  clear hQ hplay hcells hbel h0
  obtain ⟨W, hW⟩ : ∃ W, wr.alloc (.cells #[.int .i64 o.e, .int .i64 o.p, .int .i64 o.s, .bool o.cp] 43) = W := ⟨_, rfl⟩
  have hb : Below wr.heap.size wr W := by rw [← hW]; exact (Below.refl _ _).alloc (Nat.le_refl _) _
  have HOP : Hid (OpAt W wr.heap.size o) := by rw [← hW]; exact heap_new _ _
  have HP2 : Hid (Play w W b gv rv m) := by
    obtain ⟨hbel, c, v, l, A, cp, rfl, rfl, hga, hown, hk⟩ := HP.out
    exact ⟨hbel.trans (hb.mono hzx), c, v, l, A, cp, rfl, rfl, hga.below hb, own_kept hown fun q hq _ => hb.block q hq, hk.below hb⟩
  have HW := Lib.hid hW
  clear hW hb ho
  show Code.wp Try.prog (Code.seq gpR9 (Code.seq gpIf gpRest)) _ _ _
  refine wp_seq ?_
  conv => arg 2; whnf
  conv => arg 4; dsimp only
  go_wp2_with fail
  rw [HW.out]
  cases hcp : o.cp
  · refine gpIf_set _ _ _ _ _ _ _ _ _ _ _ _ _ _ _ _ _ _ _ _ _ _ _ _ _ _ _ _ _ _ _ _ _ _ _ _ _ _ _ _ _ _ _ _ _ _ _ _ _ _ _ _ _ _ _ _ _ _ _ _ _ _ _ _ _ _ _ _ _ _ _ _ _ _ _ _ _ _ _ _ _ _ _ _ _ _ _ _ _ _ _ _ _ _ _ _ _ _ _ _ _ _ _ _ _ _ _ _ _ _ _ _ _ _ _ _ _ _ _ _ _ _ _ _ _ _ _ _ _ _ _ _ _ _ _ _ _ _ _ _ _ _ _ _ _ _ _ _ _ _ _ _ _ _ _ _ _ _ _ _ _ _ _ _ _ _ _ _ _ _ _ _ _ _ _ _ _ b m wr.heap.size o w W _ _ HP2.out HOP.out hcp ?_
    intro u8 u12 u13 u14 u40 u41 u42 u43 u44 u45 u46 u47 u48 u49 u50 u51 u52 u53 u54 u55 u56 u57 u58 u59 u60 u61 u62 u63 u64 u65 u66 u67 u68 u69 u70 u71 u72 u73 u74 u75 u76 u77 u78 u79 w5 hp5 hop5
    rename_i K hK
    refine hK _ _ ?_
    refine gpRest_any _ _ _ _ _ _ _ _ _ _ _ _ _ _ _ _ _ _ _ _ _ _ _ _ _ _ _ _ _ _ _ _ _ _ _ _ _ _ _ _ _ _ _ _ _ _ _ _ _ _ _ _ _ _ _ _ _ _ _ _ _ _ _ _ _ _ _ _ _ _ _ _ _ _ _ _ _ _ _ _ _ _ _ _ _ _ _ _ _ _ _ _ _ _ _ _ _ _ _ _ _ _ _ _ _ _ _ _ _ _ _ _ _ _ _ _ _ _ _ _ _ _ _ _ _ _ _ _ _ _ _ _ _ _ _ _ _ _ _ _ _ _ _ _ _ _ _ _ _ _ _ _ _ _ _ _ _ _ _ _ _ _ _ _ _ _ _ _ _ _ _ _ _ _ _ en pe b m wr.heap.size o w w5 _ _ (by omega) hp5 hop5 ?_
    intro u6 u15 u16 u80 u81 u82 u83 u84 u85 u86 u87 u88 u89 u90 u91 u92 u93 u94 u95 u96 u97 u98 u99 u100 u101 u102 u103 u104 u105 u106 u107 u108 u109 u110 u111 u112 u113 u114 u115 u116 u117 u118 u119 u120 u121 u122 u123 u124 u125 u126 u127 u128 u129 u130 u131 u132 u133 u134 u135 u136 u137 u138 u139 u140 u141 u142 u143 u144 u145 u146 u147 u148 u149 u150 u151 w6 hp6
    exact HQ.out _ _ _ _ _ _ _ _ _ _ _ _ _ _ _ _ _ _ _ _ _ _ _ _ _ _ _ _ _ _ _ _ _ _ _ _ _ _ _ _ _ _ _ _ _ _ _ _ _ _ _ _ _ _ _ _ _ _ _ _ _ _ _ _ _ _ _ _ _ _ _ _ _ _ _ _ _ _ _ _ _ _ _ _ _ _ _ _ _ _ _ _ _ _ _ _ _ _ _ _ _ _ _ _ _ _ _ _ _ _ _ _ _ _ _ _ _ _ _ _ _ _ _ _ _ _ hp6
  · refine gpIf_copy _ _ _ _ _ _ _ _ _ _ _ _ _ _ _ _ _ _ _ _ _ _ _ _ _ _ _ _ _ _ _ _ _ _ _ _ _ _ _ _ _ _ _ _ _ _ _ _ _ _ _ _ _ _ _ _ _ _ _ _ _ _ _ _ _ _ _ _ _ _ _ _ _ _ _ _ _ _ _ _ _ _ _ _ _ _ _ _ _ _ _ _ _ _ _ _ _ _ _ _ _ _ _ _ _ _ _ _ _ _ _ _ _ _ _ _ _ _ _ _ _ _ _ _ _ _ _ _ _ _ _ _ _ _ _ _ _ _ _ _ _ _ _ _ _ _ _ _ _ _ _ _ _ _ _ _ _ _ _ _ _ _ _ _ _ _ _ _ _ _ _ _ _ _ _ _ _ b m wr.heap.size o w W _ _ HP2.out HOP.out hcp ?_
    intro u7 u12 u13 u14 u40 u41 u42 u43 u44 u45 u46 u47 u48 u49 u50 u51 u52 u53 u54 u55 u56 u57 u58 u59 u60 u61 u62 u63 u64 u65 u66 u67 u68 u69 u70 u71 u72 u73 u74 u75 u76 u77 u78 u79 w5 hp5 hop5
    rename_i K hK
    refine hK _ _ ?_
    refine gpRest_any _ _ _ _ _ _ _ _ _ _ _ _ _ _ _ _ _ _ _ _ _ _ _ _ _ _ _ _ _ _ _ _ _ _ _ _ _ _ _ _ _ _ _ _ _ _ _ _ _ _ _ _ _ _ _ _ _ _ _ _ _ _ _ _ _ _ _ _ _ _ _ _ _ _ _ _ _ _ _ _ _ _ _ _ _ _ _ _ _ _ _ _ _ _ _ _ _ _ _ _ _ _ _ _ _ _ _ _ _ _ _ _ _ _ _ _ _ _ _ _ _ _ _ _ _ _ _ _ _ _ _ _ _ _ _ _ _ _ _ _ _ _ _ _ _ _ _ _ _ _ _ _ _ _ _ _ _ _ _ _ _ _ _ _ _ _ _ _ _ _ _ _ _ _ _ en pe b m wr.heap.size o w w5 _ _ (by omega) hp5 hop5 ?_
    intro u6 u15 u16 u80 u81 u82 u83 u84 u85 u86 u87 u88 u89 u90 u91 u92 u93 u94 u95 u96 u97 u98 u99 u100 u101 u102 u103 u104 u105 u106 u107 u108 u109 u110 u111 u112 u113 u114 u115 u116 u117 u118 u119 u120 u121 u122 u123 u124 u125 u126 u127 u128 u129 u130 u131 u132 u133 u134 u135 u136 u137 u138 u139 u140 u141 u142 u143 u144 u145 u146 u147 u148 u149 u150 u151 w6 hp6
    exact HQ.out _ _ _ _ _ _ _ _ _ _ _ _ _ _ _ _ _ _ _ _ _ _ _ _ _ _ _ _ _ _ _ _ _ _ _ _ _ _ _ _ _ _ _ _ _ _ _ _ _ _ _ _ _ _ _ _ _ _ _ _ _ _ _ _ _ _ _ _ _ _ _ _ _ _ _ _ _ _ _ _ _ _ _ _ _ _ _ _ _ _ _ _ _ _ _ _ _ _ _ _ _ _ _ _ _ _ _ _ _ _ _ _ _ _ _ _ _ _ _ _ _ _ _ _ _ _ hp6
end Go.Proofs.Ytgoekobolomppaa
