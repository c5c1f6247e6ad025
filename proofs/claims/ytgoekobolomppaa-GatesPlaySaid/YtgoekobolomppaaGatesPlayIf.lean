/-
  GatesPlay: the beginning; something that is set, or a copy that takes the gates' place.
-/
import Derived.Test.YtgoekobolomppaaKeptT
import Derived.Test.YtgoekobolomppaaRefSetAll
import Derived.Test.YtgoekobolomppaaCodeSub
namespace Go.Proofs.Ytgoekobolomppaa
open Go.RowKit

/-- Something that is done. -/
structure GOp where
  e : Int
  p : Int
  s : Int
  cp : Bool
def GOp.cells (o : GOp) : List Value := [.int .i64 o.e, .int .i64 o.p, .int .i64 o.s, .bool o.cp]

/-- The head of the statement's loop: the gates, the reference's list, what is kept. -/
def Play (w0 wr : World) (b : Nat) (gv rv : Value) (m : Nat) : Prop :=
  Below w0.heap.size w0 wr ∧ ∃ (c : Nat) (v : Value) (l : List Trio) (A : Option Addr) (cp : Nat), gv = .pointer (some ⟨c, 0, none⟩) ∧ rv = .slice A l.length cp ∧ GatesAt wr w0.heap.size c v l ∧
    wr.ownsRow w0.heap.size 50 3 (.slice A l.length cp) l.length (trios l) ∧ KeptT wr w0.heap.size b (fun k => v.ownBlock = some k) m
/-- An op's block. -/
def OpAt (w : World) (ob : Nat) (o : GOp) : Prop := w.heap[ob]? = some (.cells #[.int .i64 o.e, .int .i64 o.p, .int .i64 o.s, .bool o.cp] 43 (0, 0))
theorem OpAt.only {w w' : World} {ob : Nat} {o : GOp} {S : List TypeId} (h : OpAt w ob o) (ho : Only S w w') (hs : ¬ 43 ∈ S) : OpAt w' ob o := (ho ob _ _ h hs).trans h
theorem OpAt.below {w w' : World} {ob : Nat} {o : GOp} (h : OpAt w ob o) (hb : Below w.heap.size w w') : OpAt w' ob o := (hb.block ob (lt_of_blk h)).trans h
theorem OpAt.e {w : World} {ob : Nat} {o : GOp} (h : OpAt w ob o) : w.cell? ⟨ob, 0, none⟩ = some (.int .i64 o.e) := by rw [cell_of h]; rfl
theorem OpAt.p {w : World} {ob : Nat} {o : GOp} (h : OpAt w ob o) : w.cell? ⟨ob, 1, none⟩ = some (.int .i64 o.p) := by rw [cell_of h]; rfl
theorem OpAt.s {w : World} {ob : Nat} {o : GOp} (h : OpAt w ob o) : w.cell? ⟨ob, 2, none⟩ = some (.int .i64 o.s) := by rw [cell_of h]; rfl
theorem OpAt.cp {w : World} {ob : Nat} {o : GOp} (h : OpAt w ob o) : w.cell? ⟨ob, 3, none⟩ = some (.bool o.cp) := by rw [cell_of h]; rfl
theorem GatesAt.base {w : World} {B B' c : Nat} {v : Value} {l : List Trio} (h : GatesAt w B c v l) (hB : B' ≤ B) : GatesAt w B' c v l := ⟨h.blk, Nat.le_trans hB h.low, own_base h.own hB, h.good⟩
/-- A change of gates, seen from beside. -/
theorem gstep {w5 w6 : World} {B B0 b c n m : Nat} {v rv : Value} {l l' : List Trio} {xs : List Value} {S : Nat → Prop} (hK : KeptT w5 B b S m) (hC : GatesAt w5 B0 c v l) (hT : GatesTo w5 B0 c v l' w6) (hr : w5.ownsRow B 50 3 rv n xs)
    (hS : ∀ k, v.ownBlock = some k → S k) :
    ∃ v', GatesAt w6 B0 c v' l' ∧ w6.ownsRow B 50 3 rv n xs ∧ KeptT w6 B b S m ∧ (∀ k, v'.ownBlock = some k → v.ownBlock = some k ∨ w5.heap.size ≤ k) ∧ But (InGates c v) w5 w6 ∧ Only [27, 53] w5 w6 := by
  obtain ⟨v', h1, h2, h3⟩ := hT
  have ho := Only.gates hC h2
  exact ⟨v', h1, ho.own hr (by decide), hK.gates hC h2 hS, h3, h2, ho⟩

noncomputable def gpIf : Code := subCode [1, 1, 1, 1, 1, 0, 1, 0, 0, 1, 0, 0, 1, 0] (Try.f3.body.getD .skip)

set_option maxRecDepth 100000 in
set_option maxHeartbeats 4000000 in
theorem gpIf_set (s0 s1 s2 s3 s4 s5 s6 s10 s12 s13 s14 s15 s16 s17 s18 s19 s20 s21 s22 s23 s24 s25 s26 s27 s28 s29 s30 s31 s32 s33 s34 s35 s36 s37 s38 s39 s40 s41 s42 s43 s44 s45 s46 s47 s48 s49 s50 s51 s52 s53 s54 s55 s56 s57 s58 s59 s60 s61 s62 s63 s64 s65 s66 s67 s68 s69 s70 s71 s72 s73 s74 s75 s76 s77 s78 s79 s80 s81 s82 s83 s84 s85 s86 s87 s88 s89 s90 s91 s92 s93 s94 s95 s96 s97 s98 s99 s100 s101 s102 s103 s104 s105 s106 s107 s108 s109 s110 s111 s112 s113 s114 s115 s116 s117 s118 s119 s120 s121 s122 s123 s124 s125 s126 s127 s128 s129 s130 s131 s132 s133 s134 s135 s136 s137 s138 s139 s140 s141 s142 s143 s144 s145 s146 s147 s148 s149 s150 s151 s152 s153 s154 s155 s156 s157 s158 s159 s160 s161 s162 s163 s164 s165 s166 s167 s168 s169 s170 s171 s172 s173 s174 s175 s176 s177 s178 s179 : Value) (Q0 : Exit → Act → World → Prop) (b m ob : Nat) (o : GOp) (w wr : World) (gv rv : Value) (hplay : Play w wr b gv rv m) (hop : OpAt wr ob o) (hcp : o.cp = false)
    (hQ : ∀ (u8 u12 u13 u14 u40 u41 u42 u43 u44 u45 u46 u47 u48 u49 u50 u51 u52 u53 u54 u55 u56 u57 u58 u59 u60 u61 u62 u63 u64 u65 u66 u67 u68 u69 u70 u71 u72 u73 u74 u75 u76 u77 u78 u79 : Value) (w' : World), Play w w' b gv u8 m → OpAt w' ob o → Q0 .normal ⟨#[s0, s1, s2, s3, s4, s5, s6, gv, u8, .pointer (some ⟨b, 0, none⟩), s10, .pointer (some ⟨ob, 0, none⟩), u12, u13, u14, s15, s16, s17, s18, s19, s20, s21, s22, s23, s24, s25, s26, s27, s28, s29, s30, s31, s32, s33, s34, s35, s36, s37, s38, s39, u40, u41, u42, u43, u44, u45, u46, u47, u48, u49, u50, u51, u52, u53, u54, u55, u56, u57, u58, u59, u60, u61, u62, u63, u64, u65, u66, u67, u68, u69, u70, u71, u72, u73, u74, u75, u76, u77, u78, u79, s80, s81, s82, s83, s84, s85, s86, s87, s88, s89, s90, s91, s92, s93, s94, s95, s96, s97, s98, s99, s100, s101, s102, s103, s104, s105, s106, s107, s108, s109, s110, s111, s112, s113, s114, s115, s116, s117, s118, s119, s120, s121, s122, s123, s124, s125, s126, s127, s128, s129, s130, s131, s132, s133, s134, s135, s136, s137, s138, s139, s140, s141, s142, s143, s144, s145, s146, s147, s148, s149, s150, s151, s152, s153, s154, s155, s156, s157, s158, s159, s160, s161, s162, s163, s164, s165, s166, s167, s168, s169, s170, s171, s172, s173, s174, s175, s176, s177, s178, s179], []⟩ w') :
    Code.wp Try.prog gpIf Q0 ⟨#[s0, s1, s2, s3, s4, s5, s6, gv, rv, .pointer (some ⟨b, 0, none⟩), s10, .pointer (some ⟨ob, 0, none⟩), s12, s13, s14, s15, s16, s17, s18, s19, s20, s21, s22, s23, s24, s25, s26, s27, s28, s29, s30, s31, s32, s33, s34, s35, s36, s37, s38, s39, s40, s41, s42, s43, s44, s45, s46, s47, s48, s49, s50, s51, s52, s53, s54, s55, s56, s57, s58, s59, s60, s61, s62, s63, s64, s65, s66, s67, s68, s69, s70, s71, s72, s73, s74, s75, s76, s77, s78, s79, s80, s81, s82, s83, s84, s85, s86, s87, s88, s89, s90, s91, s92, s93, s94, s95, s96, s97, s98, s99, s100, s101, s102, s103, s104, s105, s106, s107, s108, s109, s110, s111, s112, s113, s114, s115, s116, s117, s118, s119, s120, s121, s122, s123, s124, s125, s126, s127, s128, s129, s130, s131, s132, s133, s134, s135, s136, s137, s138, s139, s140, s141, s142, s143, s144, s145, s146, s147, s148, s149, s150, s151, s152, s153, s154, s155, s156, s157, s158, s159, s160, s161, s162, s163, s164, s165, s166, s167, s168, s169, s170, s171, s172, s173, s174, s175, s176, s177, s178, s179], []⟩ wr := by
  obtain ⟨hbel, c, v, l, A, cp, rfl, rfl, hga, hown, hk⟩ := hplay
  have hzx := hbel.size
  have c0 := hop.e
  have c1 := hop.p
  have c2 := hop.s
  have c3 := hop.cp
  rw [hcp] at c3
  have kr := Lib.hid (refSet_any l o.e o.p o.s A l.length cp w.heap.size wr hown hga.good hzx)
  have HQ := Lib.hid hQ; have HG := Lib.hid hga; have HO := Lib.hid hown; have HK := Lib.hid hk; have HB := Lib.hid hbel; have HOP := Lib.hid hop
  clear hQ hga hown hk hbel hop hcp
  generalize hE : setE l o.e o.p o.s = E at *
  have HE := Lib.hid hE
  have tE : (E != E) = false := by simp
  clear hE
  conv => arg 2; whnf
  conv => arg 4; dsimp only
  go_wp2_with fail
  refine kr.out.mono ?_
  rintro e w5 ⟨A5, c5, rfl, ho5, hb5⟩
  have hz5 := hb5.size
  have hop5 := HOP.out.below hb5
  have d0 := hop5.e
  have d1 := hop5.p
  have d2 := hop5.s
  have ks := Lib.hid (set_any w.heap.size c v l o.e o.p o.s w5 (HG.out.below hb5))
  rw [HE.out] at ks
  have HB5 := Lib.hid hb5
  have HO5 := Lib.hid ho5
  have HOP5 := Lib.hid hop5
  clear hb5 ho5 hop5 kr c0 c1 c2 c3
  go_wp2_with fail
  refine ks.out.mono ?_
  rintro e w6 ⟨rfl, hto⟩
  obtain ⟨v', q1, q2, q3, q4, q5, q6⟩ := gstep (S := fun k => v.ownBlock = some k ∨ wr.heap.size ≤ k) ((HK.out.more fun k hk => hk).below HB5.out) (HG.out.below HB5.out) hto HO5.out (fun k hk => .inl hk)
  have HP : Hid (Play w w6 b (.pointer (some ⟨c, 0, none⟩)) (.slice A5 (setT l o.e o.p o.s).length c5) m) := by
    refine ⟨(HB.out.trans (HB5.out.mono hzx)).trans (q5.below (fun k _ hk => HG.out.ge k hk) (by omega)), c, v', _, A5, c5, rfl, rfl, q1, q2, q3.more fun k hk => .inl ?_⟩
    rcases q4 k hk with h | h
    · exact .inl h
    · exact .inr (by omega)
  have HOP6 := Lib.hid (HOP5.out.only q6 (by decide))
  clear q1 q2 q3 q4 q5 q6 hto ks d0 d1 d2
  go_wp2_with fail
  exact HQ.out _ _ _ _ _ _ _ _ _ _ _ _ _ _ _ _ _ _ _ _ _ _ _ _ _ _ _ _ _ _ _ _ _ _ _ _ _ _ _ _ _ _ _ _ _ HP.out HOP6.out

set_option maxRecDepth 100000 in
set_option maxHeartbeats 4000000 in
theorem gpIf_copy (s0 s1 s2 s3 s4 s5 s6 s10 s12 s13 s14 s15 s16 s17 s18 s19 s20 s21 s22 s23 s24 s25 s26 s27 s28 s29 s30 s31 s32 s33 s34 s35 s36 s37 s38 s39 s40 s41 s42 s43 s44 s45 s46 s47 s48 s49 s50 s51 s52 s53 s54 s55 s56 s57 s58 s59 s60 s61 s62 s63 s64 s65 s66 s67 s68 s69 s70 s71 s72 s73 s74 s75 s76 s77 s78 s79 s80 s81 s82 s83 s84 s85 s86 s87 s88 s89 s90 s91 s92 s93 s94 s95 s96 s97 s98 s99 s100 s101 s102 s103 s104 s105 s106 s107 s108 s109 s110 s111 s112 s113 s114 s115 s116 s117 s118 s119 s120 s121 s122 s123 s124 s125 s126 s127 s128 s129 s130 s131 s132 s133 s134 s135 s136 s137 s138 s139 s140 s141 s142 s143 s144 s145 s146 s147 s148 s149 s150 s151 s152 s153 s154 s155 s156 s157 s158 s159 s160 s161 s162 s163 s164 s165 s166 s167 s168 s169 s170 s171 s172 s173 s174 s175 s176 s177 s178 s179 : Value) (Q0 : Exit → Act → World → Prop) (b m ob : Nat) (o : GOp) (w wr : World) (gv rv : Value) (hplay : Play w wr b gv rv m) (hop : OpAt wr ob o) (hcp : o.cp = true)
    (hQ : ∀ (u7 u12 u13 u14 u40 u41 u42 u43 u44 u45 u46 u47 u48 u49 u50 u51 u52 u53 u54 u55 u56 u57 u58 u59 u60 u61 u62 u63 u64 u65 u66 u67 u68 u69 u70 u71 u72 u73 u74 u75 u76 u77 u78 u79 : Value) (w' : World), Play w w' b u7 rv m → OpAt w' ob o → Q0 .normal ⟨#[s0, s1, s2, s3, s4, s5, s6, u7, rv, .pointer (some ⟨b, 0, none⟩), s10, .pointer (some ⟨ob, 0, none⟩), u12, u13, u14, s15, s16, s17, s18, s19, s20, s21, s22, s23, s24, s25, s26, s27, s28, s29, s30, s31, s32, s33, s34, s35, s36, s37, s38, s39, u40, u41, u42, u43, u44, u45, u46, u47, u48, u49, u50, u51, u52, u53, u54, u55, u56, u57, u58, u59, u60, u61, u62, u63, u64, u65, u66, u67, u68, u69, u70, u71, u72, u73, u74, u75, u76, u77, u78, u79, s80, s81, s82, s83, s84, s85, s86, s87, s88, s89, s90, s91, s92, s93, s94, s95, s96, s97, s98, s99, s100, s101, s102, s103, s104, s105, s106, s107, s108, s109, s110, s111, s112, s113, s114, s115, s116, s117, s118, s119, s120, s121, s122, s123, s124, s125, s126, s127, s128, s129, s130, s131, s132, s133, s134, s135, s136, s137, s138, s139, s140, s141, s142, s143, s144, s145, s146, s147, s148, s149, s150, s151, s152, s153, s154, s155, s156, s157, s158, s159, s160, s161, s162, s163, s164, s165, s166, s167, s168, s169, s170, s171, s172, s173, s174, s175, s176, s177, s178, s179], []⟩ w') :
    Code.wp Try.prog gpIf Q0 ⟨#[s0, s1, s2, s3, s4, s5, s6, gv, rv, .pointer (some ⟨b, 0, none⟩), s10, .pointer (some ⟨ob, 0, none⟩), s12, s13, s14, s15, s16, s17, s18, s19, s20, s21, s22, s23, s24, s25, s26, s27, s28, s29, s30, s31, s32, s33, s34, s35, s36, s37, s38, s39, s40, s41, s42, s43, s44, s45, s46, s47, s48, s49, s50, s51, s52, s53, s54, s55, s56, s57, s58, s59, s60, s61, s62, s63, s64, s65, s66, s67, s68, s69, s70, s71, s72, s73, s74, s75, s76, s77, s78, s79, s80, s81, s82, s83, s84, s85, s86, s87, s88, s89, s90, s91, s92, s93, s94, s95, s96, s97, s98, s99, s100, s101, s102, s103, s104, s105, s106, s107, s108, s109, s110, s111, s112, s113, s114, s115, s116, s117, s118, s119, s120, s121, s122, s123, s124, s125, s126, s127, s128, s129, s130, s131, s132, s133, s134, s135, s136, s137, s138, s139, s140, s141, s142, s143, s144, s145, s146, s147, s148, s149, s150, s151, s152, s153, s154, s155, s156, s157, s158, s159, s160, s161, s162, s163, s164, s165, s166, s167, s168, s169, s170, s171, s172, s173, s174, s175, s176, s177, s178, s179], []⟩ wr := by
  obtain ⟨hbel, c, v, l, A, cp, rfl, rfl, hga, hown, hk⟩ := hplay
  have hzx := hbel.size
  have c3 := hop.cp
  rw [hcp] at c3
  have kc := Lib.hid (copy_any w.heap.size c v l wr hga)
  have HQ := Lib.hid hQ; have HG := Lib.hid hga; have HO := Lib.hid hown; have HK := Lib.hid hk; have HB := Lib.hid hbel; have HOP := Lib.hid hop
  clear hQ hga hown hk hbel hop hcp
  conv => arg 2; whnf
  conv => arg 4; dsimp only
  go_wp2_with fail
  refine kc.out.mono ?_
  rintro e w5 ⟨d, vd, rfl, hd5, hb5⟩
  have hz5 := hb5.size
  have ka := Lib.hid (set_any w.heap.size c v l 2 7 1 w5 (HG.out.below hb5))
  have HB5 := Lib.hid hb5
  have HD5 := Lib.hid hd5
  have HOP5 := Lib.hid (HOP.out.below hb5)
  clear hb5 hd5 kc c3
  go_wp2_with fail
  refine ka.out.mono ?_
  rintro e w6 ⟨rfl, hto⟩
  obtain ⟨v6, q1, q2, q3, q4, q5, q6⟩ := gstep (S := fun k => v.ownBlock = some k ∨ wr.heap.size ≤ k) ((HK.out.more fun k hk => hk).below HB5.out) (HG.out.below HB5.out) hto (own_kept HO.out fun q hq _ => HB5.out.block q hq) (fun k hk => .inl hk)
  have hz6 := q5.size
  have hop6 := HOP5.out.only q6 (by decide)
  have d0 := hop6.e
  have d1 := hop6.p
  have d2 := hop6.s
  have HD6 : Hid (GatesAt w6 wr.heap.size d vd l) := HD5.out.but q5 fun k hk hin => by
    have h1 := HD5.out.ge k hk
    have h2 := HG.out.ltB _ hin
    omega
  have HD5L : Hid (∀ k, InGates d vd k → k < w5.heap.size) := HD5.out.ltB
  have kr := Lib.hid (set_any w.heap.size c v6 _ o.e o.p o.s w6 q1)
  have Q1 := Lib.hid q1; have Q2 := Lib.hid q2; have Q3 := Lib.hid q3; have Q4 := Lib.hid q4; have Q5 := Lib.hid q5; have HOP6 := Lib.hid hop6
  clear q1 q2 q3 q4 q5 q6 hto ka hop6
  generalize setE l 2 7 1 = E6 at *
  generalize setT l 2 7 1 = l6 at *
  go_wp2_with fail
  refine kr.out.mono ?_
  rintro e w7 ⟨rfl, hto⟩
  obtain ⟨v7, p1, p2, p3, p4, p5, p6⟩ := gstep (S := fun k => v.ownBlock = some k ∨ wr.heap.size ≤ k) Q3.out Q1.out hto Q2.out (fun k hk => by
    rcases Q4.out k hk with h | h
    · exact .inl h
    · exact .inr (by omega))
  have HD7 : Hid (GatesAt w7 wr.heap.size d vd l) := HD6.out.but p5 fun k hk hin => by
    have h1 := HD5.out.ge k hk
    have h2 := HD5L.out k hk
    have h3 := HG.out.lt
    rcases hin with h | h
    · subst h; omega
    · rcases Q4.out k h with h | h
      · have := own_lt HG.out.own k h; omega
      · omega
  have HOP7 := Lib.hid (HOP6.out.only p6 (by decide))
  have P2 := Lib.hid p2; have P3 := Lib.hid p3; have P5 := Lib.hid p5
  clear p1 p2 p3 p4 p5 p6 hto kr d0 d1 d2
  generalize setE l6 o.e o.p o.s = E7 at *
  go_wp2_with fail
  refine HQ.out _ _ _ _ _ _ _ _ _ _ _ _ _ _ _ _ _ _ _ _ _ _ _ _ _ _ _ _ _ _ _ _ _ _ _ _ _ _ _ _ _ _ _ _ _ ⟨?_, d, vd, l, A, cp, rfl, rfl, HD7.out.base hzx, P2.out, P3.out.more fun k hk => .inl (.inr (own_ge HD7.out.own k hk))⟩ HOP7.out
  exact ((HB.out.trans (HB5.out.mono hzx)).trans (Q5.out.below (fun k _ hk => HG.out.ge k hk) (by omega))).trans (P5.out.below (fun k _ hk => Q1.out.ge k hk) (by omega))
end Go.Proofs.Ytgoekobolomppaa
