/-
  Several texts, one behind the other: what each holds stands ahead of it.
-/
import Derived.Test.YtpbdmohccebhhaaGreatBookPlaysWho

/-
  BookPlays: what a round asks, the great condition.
-/
namespace Go.Proofs.YtpbdmohccebhhaaGreat
open Go.RowKit

noncomputable def bpAsk : Code := subCode [1, 1, 1, 1, 1, 0, 1, 0, 0, 1, 0, 0, 1, 1, 1, 1, 1, 1, 1, 1, 1, 1, 1, 1, 1, 1] (Tryz.f3.body.getD .skip)
set_option maxRecDepth 100000 in
set_option maxHeartbeats 8000000 in
theorem bpAsk_any (s0 s1 s3 s4 s5 s6 s9 s10 s13 s15 s16 s17 s18 s19 s26 s27 s28 s29 s30 s31 s32 s33 s34 s35 s36 s37 s38 s39 s40 s41 s42 s43 s44 s45 s46 s47 s48 s49 s50 s51 s52 s53 s54 s55 s56 s57 s58 s59 s60 s61 s62 s63 s64 s65 s66 s67 s68 s69 s70 s71 s72 s73 s74 s75 s76 s77 s78 s79 s80 s81 s82 s83 s84 s85 s86 s87 s88 s89 s90 s91 s92 s93 s94 s95 s96 s97 s98 s99 s100 s101 s102 s103 s104 s105 s106 s107 s108 s109 s110 s111 s112 s113 s114 s115 s116 s117 s118 s119 s120 s121 s122 s123 s124 s125 s126 s127 s128 s129 s130 s131 s132 s133 s134 s135 s136 s137 s138 s139 s140 s141 s142 s143 s144 s145 s146 s147 s148 s149 s150 s151 s152 s153 s154 s155 s156 s157 s158 s159 s160 s161 s162 s163 s164 s165 s166 s167 s168 s169 s170 s171 s172 s173 s174 s175 s176 s177 s178 s179 s180 s181 s182 s183 s184 s185 s186 s187 s188 s189 s190 s191 s192 s193 s194 s195 s196 s197 s198 s199 s200 s201 s202 s203 s204 s205 s206 s207 s208 s209 s210 s211 s212 s213 s214 s215 s216 s217 s218 s219 s220 s221 s222 s223 s224 s225 s226 s227 s228 s229 s230 s231 s232 s233 s234 s235 s236 s237 s238 s239 s240 s241 s242 s243 s244 s245 s246 s247 s248 s249 s250 s251 s252 s253 s254 s255 s256 s257 s258 s259 s260 s261 s262 s263 s264 s265 s266 s267 s268 s269 s270 s271 s272 s273 s274 s275 s276 s277 s278 s279 s280 s281 s282 s283 s284 s285 s286 s287 s288 s289 s290 s291 s292 s293 s294 s295 s296 s297 s298 s299 s300 s301 s302 s303 s304 s305 s306 s307 s308 s309 s310 s311 s312 s313 s314 s315 s316 s317 s318 s319 s320 s321 s322 s323 s324 s325 s326 s327 s328 s329 : Value) (Q0 : Exit → Act → World → Prop) (s : ByteArray) (b m1 m2 ob mb g cap j1 j2 : Nat) (o : BOp) (w wr : World) (c : Nat) (v : Value) (l : List JR) (A : Option Addr) (cp : Nat) (r : List JR) (A5 : Option Addr) (c5 : Nat) (l5 : List JR) (on : Bool) (jj : Jrn) (Aj Ak : Option Addr) (cj ck : Nat)
    (hin : BIn w wr b c v l A cp r m1 m2) (hmap : r.map JR.j = l.map JR.j) (hmid : BMid wr ob mb g cap o c v l) (hsrc : Rd w w.heap.size 3 o.A o.j.lines.length (lins o.j.lines)) (hsz : o.j.lines.length ≤ 20)
    (hall : JlRd wr wr.heap.size A5 r.length l5) (hl5 : l5.map JR.j = l.map JR.j) (hj1 : JAt wr j1 jj Aj jj.lines.length cj) (hj2 : JAt wr j2 jj Ak jj.lines.length ck) (hr1 : Rd wr wr.heap.size 3 Aj jj.lines.length (lins jj.lines)) (hr2 : Rd wr wr.heap.size 3 Ak jj.lines.length (lins jj.lines)) (hjl : jj.lines.length ≤ maxLen)
    (hQ : ∀ (u6 u226 u227 u228 u229 u230 u231 u232 u233 u234 u235 u236 u237 u238 u239 u240 u241 u242 u243 u244 u245 u246 u247 u248 u249 u250 u251 u252 u253 u254 u255 u256 u257 u258 u259 u260 u261 u262 u263 u264 u265 u266 u267 : Value) (w' : World), Below wr.heap.size wr w' → Q0 .normal ⟨#[s0, s1, .string s, s3, s4, s5, u6, .pointer (some ⟨c, 0, none⟩), .slice A r.length cp, s9, s10, .pointer (some ⟨ob, 0, none⟩), .pointer (some ⟨mb, 0, none⟩), s13, .bool true, s15, s16, s17, s18, s19, .slice A5 r.length c5, .pointer (some ⟨j1, 0, none⟩), .bool on, .pointer (some ⟨j2, 0, none⟩), .bool on, .int .i64 (refJ (r.map JR.j) s), s26, s27, s28, s29, s30, s31, s32, s33, s34, s35, s36, s37, s38, s39, s40, s41, s42, s43, s44, s45, s46, s47, s48, s49, s50, s51, s52, s53, s54, s55, s56, s57, s58, s59, s60, s61, s62, s63, s64, s65, s66, s67, s68, s69, s70, s71, s72, s73, s74, s75, s76, s77, s78, s79, s80, s81, s82, s83, s84, s85, s86, s87, s88, s89, s90, s91, s92, s93, s94, s95, s96, s97, s98, s99, s100, s101, s102, s103, s104, s105, s106, s107, s108, s109, s110, s111, s112, s113, s114, s115, s116, s117, s118, s119, s120, s121, s122, s123, s124, s125, s126, s127, s128, s129, s130, s131, s132, s133, s134, s135, s136, s137, s138, s139, s140, s141, s142, s143, s144, s145, s146, s147, s148, s149, s150, s151, s152, s153, s154, s155, s156, s157, s158, s159, s160, s161, s162, s163, s164, s165, s166, s167, s168, s169, s170, s171, s172, s173, s174, s175, s176, s177, s178, s179, s180, s181, s182, s183, s184, s185, s186, s187, s188, s189, s190, s191, s192, s193, s194, s195, s196, s197, s198, s199, s200, s201, s202, s203, s204, s205, s206, s207, s208, s209, s210, s211, s212, s213, s214, s215, s216, s217, s218, s219, s220, s221, s222, s223, s224, s225, u226, u227, u228, u229, u230, u231, u232, u233, u234, u235, u236, u237, u238, u239, u240, u241, u242, u243, u244, u245, u246, u247, u248, u249, u250, u251, u252, u253, u254, u255, u256, u257, u258, u259, u260, u261, u262, u263, u264, u265, u266, u267, s268, s269, s270, s271, s272, s273, s274, s275, s276, s277, s278, s279, s280, s281, s282, s283, s284, s285, s286, s287, s288, s289, s290, s291, s292, s293, s294, s295, s296, s297, s298, s299, s300, s301, s302, s303, s304, s305, s306, s307, s308, s309, s310, s311, s312, s313, s314, s315, s316, s317, s318, s319, s320, s321, s322, s323, s324, s325, s326, s327, s328, s329], []⟩ w') :
    Code.wp Tryz.prog bpAsk Q0 ⟨#[s0, s1, .string s, s3, s4, s5, s6, .pointer (some ⟨c, 0, none⟩), .slice A r.length cp, s9, s10, .pointer (some ⟨ob, 0, none⟩), .pointer (some ⟨mb, 0, none⟩), s13, .bool true, s15, s16, s17, s18, s19, .slice A5 r.length c5, .pointer (some ⟨j1, 0, none⟩), .bool on, .pointer (some ⟨j2, 0, none⟩), .bool on, .int .i64 (refJ (r.map JR.j) s), s26, s27, s28, s29, s30, s31, s32, s33, s34, s35, s36, s37, s38, s39, s40, s41, s42, s43, s44, s45, s46, s47, s48, s49, s50, s51, s52, s53, s54, s55, s56, s57, s58, s59, s60, s61, s62, s63, s64, s65, s66, s67, s68, s69, s70, s71, s72, s73, s74, s75, s76, s77, s78, s79, s80, s81, s82, s83, s84, s85, s86, s87, s88, s89, s90, s91, s92, s93, s94, s95, s96, s97, s98, s99, s100, s101, s102, s103, s104, s105, s106, s107, s108, s109, s110, s111, s112, s113, s114, s115, s116, s117, s118, s119, s120, s121, s122, s123, s124, s125, s126, s127, s128, s129, s130, s131, s132, s133, s134, s135, s136, s137, s138, s139, s140, s141, s142, s143, s144, s145, s146, s147, s148, s149, s150, s151, s152, s153, s154, s155, s156, s157, s158, s159, s160, s161, s162, s163, s164, s165, s166, s167, s168, s169, s170, s171, s172, s173, s174, s175, s176, s177, s178, s179, s180, s181, s182, s183, s184, s185, s186, s187, s188, s189, s190, s191, s192, s193, s194, s195, s196, s197, s198, s199, s200, s201, s202, s203, s204, s205, s206, s207, s208, s209, s210, s211, s212, s213, s214, s215, s216, s217, s218, s219, s220, s221, s222, s223, s224, s225, s226, s227, s228, s229, s230, s231, s232, s233, s234, s235, s236, s237, s238, s239, s240, s241, s242, s243, s244, s245, s246, s247, s248, s249, s250, s251, s252, s253, s254, s255, s256, s257, s258, s259, s260, s261, s262, s263, s264, s265, s266, s267, s268, s269, s270, s271, s272, s273, s274, s275, s276, s277, s278, s279, s280, s281, s282, s283, s284, s285, s286, s287, s288, s289, s290, s291, s292, s293, s294, s295, s296, s297, s298, s299, s300, s301, s302, s303, s304, s305, s306, s307, s308, s309, s310, s311, s312, s313, s314, s315, s316, s317, s318, s319, s320, s321, s322, s323, s324, s325, s326, s327, s328, s329], []⟩ wr := by
  obtain ⟨c0, c1, c2, c3, c4, c5', c6, c7⟩ := hmid.op.all
  obtain ⟨x0, x1, x2, x3, x4, x5⟩ := six_cells hmid.box
  have hlen : l.length = r.length := by rw [← List.length_map (f := JR.j), ← hmap, List.length_map]
  have hfew := hin.few
  have k1 := Lib.hid (staysLines_any o.j.lines o.j.lines o.A o.j.lines.length o.j.lines.length o.c 0 w.heap.size g cap wr hmid.lent rfl (hsrc.far hin.bel (Nat.le_refl _)) (by omega) (by omega))
  rw [show (o.j.lines == o.j.lines) = true by simp] at k1
  have HQ := Lib.hid hQ; have HIN := Lib.hid hin; have HMAP := Lib.hid hmap; have HALL := Lib.hid hall; have HL5 := Lib.hid hl5; have HJ1 := Lib.hid hj1; have HJ2 := Lib.hid hj2; have HR1 := Lib.hid hr1; have HR2 := Lib.hid hr2
  have t1 : ((r.length : Int) != (r.length : Int)) = false := by simp
  have t2 : (on != on) = false := by simp
  have HT3 : Hid (refJ (l.map JR.j) s = refJ (r.map JR.j) s) := by unfold Hid; rw [hmap]
  generalize refJ (r.map JR.j) s = E at *
  have t3 : (E != E) = false := by simp
  clear hQ hin hmap hall hl5 hj1 hj2 hr1 hr2 hmid hsrc
  conv => arg 2; whnf
  conv => arg 4; dsimp only
  go_wp2_with fail
  refine k1.out.mono ?_
  rintro e w1 ⟨rfl, hd1⟩
  have HB1 : Hid (Below wr.heap.size wr w1) := hd1.below
  have k2 := Lib.hid (sameJournals_any l5 r A5 A r.length c5 cp wr.heap.size wr.heap.size w1 (HALL.out.far HB1.out (Nat.le_refl _)) (HIN.out.jl.far HB1.out (Nat.le_refl _)) HB1.out.size HB1.out.size (by omega) (by rw [HL5.out, HMAP.out]))
  clear hd1 k1
  go_wp2_with fail
  refine k2.out.mono ?_
  rintro e w2 ⟨rfl, hb2⟩
  have HB2 : Hid (Below wr.heap.size wr w2) := HB1.out.trans (hb2.mono HB1.out.size)
  have k3 := Lib.hid (len_any w.heap.size c v l w2 (HIN.out.tome.below HB2.out))
  rw [hlen] at k3
  clear hb2 k2 HB1
  go_wp2_with fail
  refine k3.out.mono ?_
  rintro e w3 ⟨rfl, rfl⟩
  obtain ⟨y0, y1, y2, y3, y4, y5⟩ := six_cells ((HB2.out.block _ (lt_of_blk HJ1.out)).trans HJ1.out)
  obtain ⟨z0, z1, z2, z3, z4, z5⟩ := six_cells ((HB2.out.block _ (lt_of_blk HJ2.out)).trans HJ2.out)
  have k4 := Lib.hid (refSame_any jj jj Aj Ak jj.lines.length jj.lines.length cj ck wr.heap.size wr.heap.size w2 (HR1.out.far HB2.out (Nat.le_refl _)) (HR2.out.far HB2.out (Nat.le_refl _)) HB2.out.size HB2.out.size hjl hjl)
  rw [sameJ_self] at k4
  unfold Jrn.val at k4
  clear k3
  go_wp2_with fail
  refine k4.out.mono ?_
  rintro e w4 ⟨rfl, hb4⟩
  have HB4 : Hid (Below wr.heap.size wr w4) := HB2.out.trans (hb4.mono HB2.out.size)
  have k5 := Lib.hid (ref_any w.heap.size c v l s w4 (HIN.out.tome.below HB4.out))
  rw [HT3.out] at k5
  clear hb4 k4 HB2
  go_wp2_with fail
  refine k5.out.mono ?_
  rintro e w5 ⟨rfl, hb5⟩
  have HB5 : Hid (Below wr.heap.size wr w5) := HB4.out.trans (hb5.mono HB4.out.size)
  clear hb5
  go_wp2_with fail
  exact HQ.out _ _ _ _ _ _ _ _ _ _ _ _ _ _ _ _ _ _ _ _ _ _ _ _ _ _ _ _ _ _ _ _ _ _ _ _ _ _ _ _ _ _ _ _ HB5.out
end Go.Proofs.YtpbdmohccebhhaaGreat

/-
  BookPlays: what is read by a number, of the book and of the reference's list; what stays where the kept book is written.
-/
namespace Go.Proofs.YtpbdmohccebhhaaGreat
open Go.RowKit

/-- What Get tells, of both. -/
theorem get_both {w0 wr : World} {b c : Nat} {v : Value} {l : List JR} {A : Option Addr} {cp : Nat} {r : List JR} {m1 m2 : Nat} (h : BIn w0 wr b c v l A cp r m1 m2) (hmap : r.map JR.j = l.map JR.j) (x : Int) :
    ∃ (jj : Jrn) (on : Bool), jj.lines.length ≤ 1000 ∧
      (Calls Tryz.prog 26 #[.pointer (some ⟨c, 0, none⟩), .int .i64 x] wr fun e w' => ∃ A' c', e = .returned (.tuple #[.agg #[.int .i64 jj.id, .int .i64 jj.ent, .int .i64 jj.per, .string jj.ref, .slice A' jj.lines.length c', .bool jj.void], .bool on]) ∧ w'.ownsRow wr.heap.size 100 3 (.slice A' jj.lines.length c') jj.lines.length (lins jj.lines) ∧ Below wr.heap.size wr w') ∧
      ∃ (Ak : Option Addr) (ck : Nat), wr.ownsRow w0.heap.size 100 3 (.slice Ak jj.lines.length ck) jj.lines.length (lins jj.lines) ∧
        ∀ w1, Below wr.heap.size wr w1 → Calls Tryz.prog 18 #[.slice A r.length cp, .int .i64 x] w1 fun e w' => e = .returned (.tuple #[.agg #[.int .i64 jj.id, .int .i64 jj.ent, .int .i64 jj.per, .string jj.ref, .slice Ak jj.lines.length ck, .bool jj.void], .bool on]) ∧ Below w1.heap.size w1 w' := by
  have hfew := h.few
  have hf2 : (findK JR.id r x).map JR.j = (findK JR.id l x).map JR.j := by rw [← findK_jr, ← findK_jr, hmap]
  cases hf : findK JR.id l x with
  | none =>
    have hr : findK JR.id r x = none := by rw [hf] at hf2; simpa using hf2
    refine ⟨zeroJ, false, Nat.zero_le _, (get_none w0.heap.size c v l x wr h.tome hf).mono fun e w' hh => ⟨none, 0, hh.1, World.ownsRow_nil _ _ _ _, hh.2⟩, none, 0, World.ownsRow_nil _ _ _ _, fun w1 hb => ?_⟩
    exact refGet_none r x A r.length cp wr.heap.size w1 (h.jl.rd.far hb (Nat.le_refl _)) hb.size (by omega) hr
  | some a =>
    obtain ⟨a2, hr, he⟩ : ∃ a2, findK JR.id r x = some a2 ∧ a2.j = a.j := by
      rw [hf] at hf2
      obtain ⟨a2, h1, h2⟩ := Option.map_eq_some_iff.1 hf2
      exact ⟨a2, h1, h2⟩
    have hmem : a2 ∈ r := List.mem_of_find?_eq_some hr
    refine ⟨a.j, true, ?_, get_some w0.heap.size c v l x a wr h.tome hf, a2.A, a2.c, ?_, fun w1 hb => ?_⟩
    · rw [← he]; exact (h.size a2 hmem).2
    · have := h.ref.lines a2 hmem
      unfold JR.lv at this
      rw [he] at this
      exact this
    · have := refGet_some r x a2 A r.length cp wr.heap.size w1 (h.jl.rd.far hb (Nat.le_refl _)) hb.size (by omega) hr
      rw [he] at this
      exact this
section
variable {w0 wr w' : World} {b c : Nat} {v : Value} {l : List JR} {A : Option Addr} {cp : Nat} {r : List JR} {m1 m2 n1 n2 : Nat} {S : List TypeId}
/-- The kept book alone is written. -/
theorem BIn.keep (h : BIn w0 wr b c v l A cp r m1 m2) (hb : Below w0.heap.size wr w') (ho : Only S wr w') (h1 : ¬ 27 ∈ S) (h2 : ¬ 43 ∈ S) (h3 : ¬ 100 ∈ S) (hk : KeptLJ w' w0.heap.size b (InTome c v l) n1 n2) : BIn w0 w' b c v l A cp r n1 n2 :=
  ⟨h.bel.trans hb, ⟨(ho c _ _ h.tome.blk h1).trans h.tome.blk, h.tome.low, ho.own h.tome.own h2, fun a ha => ho.own (h.tome.lines a ha) h3, h.tome.rise, h.tome.len, h.tome.ok⟩, ⟨ho.own h.ref.own h2, fun a ha => ho.own (h.ref.lines a ha) h3⟩, h.out, hk, h.rise, h.size, h.few⟩
theorem BMid.keep {ob mb g cap : Nat} {o : BOp} (h : BMid wr ob mb g cap o c v l) (ho : Only S wr w') (h1 : ¬ 45 ∈ S) (h2 : ¬ 43 ∈ S) (h3 : ¬ 100 ∈ S) : BMid w' ob mb g cap o c v l :=
  ⟨h.op.only ho h1, (ho mb _ _ h.box h2).trans h.box, h.out, ho.own h.lent h3⟩
end
end Go.Proofs.YtpbdmohccebhhaaGreat
