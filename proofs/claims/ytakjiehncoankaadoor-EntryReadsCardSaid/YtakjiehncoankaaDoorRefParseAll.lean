/-
  Contract of the reference's Parse.
-/
import Derived.Test.YtakjiehncoankaaDoorRefParseMid
import Derived.Deep.RegionHeld3
namespace Go.Proofs.YtakjiehncoankaaDoor
open Go.RowKit Go.Sort

theorem jat_laid {w : World} {b : Nat} {a0 a1 a2 a3 a4 a5 : Value} (j : Jrn) (A : Option Addr) (n c : Nat) (h : w.heap[b]? = some (.cells #[a0, a1, a2, a3, a4, a5] 24 (0, 0))) :
    JAt ((((((w.setCell ⟨b, 0, none⟩ (.int .i64 j.id)).setCell ⟨b, 1, none⟩ (.int .i64 j.ent)).setCell ⟨b, 2, none⟩ (.int .i64 j.per)).setCell ⟨b, 3, none⟩ (.string j.ref)).setCell ⟨b, 4, none⟩ (.slice A n c)).setCell ⟨b, 5, none⟩ (.bool j.void)) b j A n c := by
  unfold JAt
  rw [set_here (set_here (set_here (set_here (set_here (set_here h)))))]
  rfl
theorem cell_six {w : World} {b q o : Nat} (hq : ¬ q = b) (v0 v1 v2 v3 v4 v5 : Value) : ((((((w.setCell ⟨b, 0, none⟩ v0).setCell ⟨b, 1, none⟩ v1).setCell ⟨b, 2, none⟩ v2).setCell ⟨b, 3, none⟩ v3).setCell ⟨b, 4, none⟩ v4).setCell ⟨b, 5, none⟩ v5).cell? ⟨q, o, none⟩ = w.cell? ⟨q, o, none⟩ := by
  have e : ∀ (u : World) (i : Nat) (v : Value), (u.setCell ⟨b, i, none⟩ v).heap[q]? = u.heap[q]? := fun u i v => Below.heap_setCell _ _ _ _ hq
  apply World.cell?_of_block
  show ((((((w.setCell ⟨b, 0, none⟩ v0).setCell ⟨b, 1, none⟩ v1).setCell ⟨b, 2, none⟩ v2).setCell ⟨b, 3, none⟩ v3).setCell ⟨b, 4, none⟩ v4).setCell ⟨b, 5, none⟩ v5).heap[q]? = w.heap[q]?
  rw [e, e, e, e, e, e]

set_option maxRecDepth 100000 in
set_option maxHeartbeats 8000000 in
theorem refParse_any (s : List UInt8) (w : World) (hs : s.length ≤ 1000) :
    Calls Tryd.prog 8 #[.string (bs s), .int .u8 32] w (RefParsed w s) := by
  obtain ⟨w0, hw0⟩ : ∃ w0, w.alloc (.cells #[.int .i64 0, .int .i64 0, .int .i64 0, .string ⟨#[]⟩, .slice none 0 0, .bool false] 24) = w0 := ⟨_, rfl⟩
  have HB0 : Hid (Below w.heap.size w w0) := by rw [← hw0]; exact (Below.refl _ _).alloc (Nat.le_refl _) _
  have HR0 : Hid (JAt w0 w.heap.size zeroJ none 0 0) := by rw [← hw0]; exact heap_new w _
  have HW0 := Lib.hid hw0
  have kc := Lib.hid (refCut_any s 32 w0 hs)
  have hz0 := HB0.out.size
  clear hw0
  go_enter Tryd.func8, Tryd.ntmps8
  go_wp2_with fail
  rw [HW0.out]
  refine kc.out.mono ?_
  rintro e w1 ⟨A1, cap, rfl, ho1, hb1⟩
  have HB1 : Hid (Below w.heap.size w w1) := HB0.out.trans (hb1.mono hz0)
  have HR1 : Hid (JAt w1 w.heap.size zeroJ none 0 0) := (hb1.block _ (lt_of_blk HR0.out)).trans HR0.out
  have hz1 := HB1.out.size
  by_cases hN : 7 ≤ (splitL 32 s).length ∧ (splitL 32 s).length ≤ 13
  rotate_left
  · have hno : parseJ s = none := by
      cases h : parseJ s with
      | none => rfl
      | some j' => exact absurd (star_len h) hN
    have HN := Lib.hid hno
    obtain ⟨r0, r1, r2, r3, r4, r5⟩ := six_cells HR1.out
    have rf := fun o => warm_of HR1.out o
    generalize (splitL 32 s).length = N at *
    clear hno ho1 hb1 kc
    by_cases h7 : N < 7
    · have h7I : (N : Int) < 7 := by omega
      go_wp2_with fail
      refine bodyPost_ret (v := .tuple #[.agg #[.int .i64 0, .int .i64 0, .int .i64 0, .string ⟨#[]⟩, .slice none 0 0, .bool false], .bool false]) (by simp [results, Tryd.results8, go_sem, r0, r1, r2, r3, r4, r5]) rfl ?_
      exact RefParsed.no HN.out (below_six HB1.out (Nat.le_refl _) _ _ _ _ _ _)
    · have h7I : ¬ (N : Int) < 7 := by omega
      have h13 : (13 : Int) < (N : Int) := by omega
      go_wp2_with fail
      refine bodyPost_ret (v := .tuple #[.agg #[.int .i64 0, .int .i64 0, .int .i64 0, .string ⟨#[]⟩, .slice none 0 0, .bool false], .bool false]) (by simp [results, Tryd.results8, go_sem, r0, r1, r2, r3, r4, r5]) rfl ?_
      exact RefParsed.no HN.out (below_six HB1.out (Nat.le_refl _) _ _ _ _ _ _)
  · obtain ⟨p0, p1, p2, p3, p4, rest, hps⟩ : ∃ p0 p1 p2 p3 p4 rest, splitL 32 s = p0 :: p1 :: p2 :: p3 :: p4 :: rest := by
      match hl : splitL 32 s, hN with
      | p0 :: p1 :: p2 :: p3 :: p4 :: rest, _ => exact ⟨p0, p1, p2, p3, p4, rest, rfl⟩
      | [], h => simp at h
      | [_], h => simp at h
      | [_, _], h => simp at h
      | [_, _, _], h => simp at h
      | [_, _, _, _], h => simp at h
    obtain ⟨g, cap', hv1, _⟩ := ho1.form (by omega)
    obtain rfl : A1 = some ⟨g, 0, none⟩ := by injection hv1
    have hlen : ∀ p ∈ splitL 32 s, p.length ≤ 1000 := fun p hp => Nat.le_trans (split_len 32 s p hp) hs
    have d0 : w1.cell? ⟨g, 0, none⟩ = some (.string (bs p0)) := own_cell ho1 (by rw [hps]; rfl)
    have d1 : w1.cell? ⟨g, 1, none⟩ = some (.string (bs p1)) := own_cell ho1 (by rw [hps]; rfl)
    have d2 : w1.cell? ⟨g, 2, none⟩ = some (.string (bs p2)) := own_cell ho1 (by rw [hps]; rfl)
    have d3 : w1.cell? ⟨g, 3, none⟩ = some (.string (bs p3)) := own_cell ho1 (by rw [hps]; rfl)
    have d4 : w1.cell? ⟨g, 4, none⟩ = some (.string (bs p4)) := own_cell ho1 (by rw [hps]; rfl)
    have hlt := own_lt ho1 g rfl
    have l0 := hlen p0 (by rw [hps]; simp)
    have l1 := hlen p1 (by rw [hps]; simp)
    have HO1 : Hid (w1.ownsRow w.heap.size 9 1 (.slice (some ⟨g, 0, none⟩) (splitL 32 s).length cap) (splitL 32 s).length (strs (splitL 32 s))) := own_base ho1 hz0
    have kn0 := Lib.hid (refNumber_any p0 w1 l0)
    have HPS := Lib.hid hps
    have HN := Lib.hid hN
    have h7I : ¬ ((splitL 32 s).length : Int) < 7 := by omega
    have h13 : ¬ (13 : Int) < ((splitL 32 s).length : Int) := by omega
    have hlI : ∀ m : Int, m < 7 → m < ((splitL 32 s).length : Int) := fun m hm => by omega
    have i0 := hlI 0 (by omega)
    have i1 := hlI 1 (by omega)
    have i2 := hlI 2 (by omega)
    have i3 := hlI 3 (by omega)
    have i4 := hlI 4 (by omega)
    obtain ⟨NN, hNN⟩ : ∃ NN, (splitL 32 s).length = NN := ⟨_, rfl⟩
    clear ho1 hb1 kc hv1 hps hN hlI hlen
    rw [hNN] at h7I h13 i0 i1 i2 i3 i4 ⊢
    go_wp2_with fail
    refine kn0.out.mono ?_
    rintro e w2 ⟨v0, b0, rfl, _, g0, hb2⟩
    have hz2 := hb2.size
    have d1' := (hb2.cell (p := ⟨g, 1, none⟩) hlt).trans d1
    have HB2 := Lib.hid hb2
    have kn1 := Lib.hid (refNumber_any p1 w2 l1)
    have G0 : Hid (Got p0 v0 b0) := g0
    clear g0 hb2 d0 d1
    go_wp2_with fail
    refine kn1.out.mono ?_
    rintro e w3 ⟨v1, b1, rfl, _, g1, hb3⟩
    have hb13 : Below w1.heap.size w1 w3 := HB2.out.trans (hb3.mono hz2)
    have hz3 := hb13.size
    have e2 := (hb13.cell (p := ⟨g, 2, none⟩) hlt).trans d2
    have e3 := (hb13.cell (p := ⟨g, 3, none⟩) hlt).trans d3
    have e4 := (hb13.cell (p := ⟨g, 4, none⟩) hlt).trans d4
    have HB3 : Hid (Below w.heap.size w w3) := HB1.out.trans (hb13.mono hz1)
    have HR3 : Hid (JAt w3 w.heap.size zeroJ none 0 0) := (hb13.block _ (lt_of_blk HR1.out)).trans HR1.out
    have HO3 : Hid (w3.ownsRow w.heap.size 9 1 (.slice (some ⟨g, 0, none⟩) (splitL 32 s).length cap) (splitL 32 s).length (strs (splitL 32 s))) := own_kept HO1.out fun q hq _ => hb13.block q hq
    have HST : Hid (Star s 0 (b0 && b1) (frontJ v0 v1 p2 p3 p4)) := star_front HPS.out G0.out g1
    have hgl : g < w3.heap.size := by omega
    have hw3 : w.heap.size < w3.heap.size := by have := lt_of_blk HR3.out; omega
    clear g1 hb3 hb13 kn0 kn1 d1' d2 d3 d4 HB2 G0 HR0 HW0 HB0
    go_wp2_with fail
    rename_i K hK
    have tv : ((bs p4).toList == [118, 111, 105, 100]) = voidOf p4 := by
      rw [ByteArray.toList_eq, bs_list]
      unfold voidOf
      rw [Bool.eq_iff_iff]
      simp
    have km := fun W => readMonth_any (bs p2) W
    rw [bs_list] at km
    have REST : ∀ (jb : Nat) (w6 : World), JAt w6 jb ⟨v0, v1, readV p2, bs p3, [], voidOf p4⟩ none 0 0 → Below w3.heap.size w3 w6 → w3.heap.size ≤ jb → ∀ (u2 u3 u5 u7 u9 u12 u13 u14 u15 u16 u17 u18 u19 u20 u21 u22 u23 u24 u25 u26 u27 u28 u29 u30 u31 u32 u33 u34 u35 u36 u37 u38 u39 u40 u41 u42 u43 u44 u45 u46 u47 u48 u49 u50 u51 u52 u53 u54 u55 u56 u57 u58 u59 u60 u61 u62 u63 u64 u65 u66 u67 u68 u69 u70 u71 u72 u73 u74 u75 u76 u77 u78 u79 u80 u81 u82 u83 u84 u85 u86 u87 u88 u89 u90 u91 u92 u93 u94 u95 u96 u97 u98 u99 u100 u101 u102 u103 u104 u105 u106 u107 u108 u109 u110 u111 u112 u113 u114 u115 u116 u117 u118 u119 u120 u121 u122 u123 u124 u125 u126 u127 u128 u129 u130 u131 u132 u133 u134 u135 u136 u137 u138 u139 u140 u141 : Value), K ⟨#[.string (bs s), .int .u8 32, u2, u3, .pointer (some ⟨w.heap.size, 0, none⟩), u5, .slice (some ⟨g, 0, none⟩) NN cap, u7, .bool b0, u9, .bool b1, .pointer (some ⟨jb, 0, none⟩), u12, u13, u14, u15, u16, u17, u18, u19, u20, u21, u22, u23, u24, u25, u26, u27, u28, u29, u30, u31, u32, u33, u34, u35, u36, u37, u38, u39, u40, u41, u42, u43, u44, u45, u46, u47, u48, u49, u50, u51, u52, u53, u54, u55, u56, u57, u58, u59, u60, u61, u62, u63, u64, u65, u66, u67, u68, u69, u70, u71, u72, u73, u74, u75, u76, u77, u78, u79, u80, u81, u82, u83, u84, u85, u86, u87, u88, u89, u90, u91, u92, u93, u94, u95, u96, u97, u98, u99, u100, u101, u102, u103, u104, u105, u106, u107, u108, u109, u110, u111, u112, u113, u114, u115, u116, u117, u118, u119, u120, u121, u122, u123, u124, u125, u126, u127, u128, u129, u130, u131, u132, u133, u134, u135, u136, u137, u138, u139, u140, u141], []⟩ w6 := by
      intro jb w6 hbox hb6 hjb u2 u3 u5 u7 u9 u12 u13 u14 u15 u16 u17 u18 u19 u20 u21 u22 u23 u24 u25 u26 u27 u28 u29 u30 u31 u32 u33 u34 u35 u36 u37 u38 u39 u40 u41 u42 u43 u44 u45 u46 u47 u48 u49 u50 u51 u52 u53 u54 u55 u56 u57 u58 u59 u60 u61 u62 u63 u64 u65 u66 u67 u68 u69 u70 u71 u72 u73 u74 u75 u76 u77 u78 u79 u80 u81 u82 u83 u84 u85 u86 u87 u88 u89 u90 u91 u92 u93 u94 u95 u96 u97 u98 u99 u100 u101 u102 u103 u104 u105 u106 u107 u108 u109 u110 u111 u112 u113 u114 u115 u116 u117 u118 u119 u120 u121 u122 u123 u124 u125 u126 u127 u128 u129 u130 u131 u132 u133 u134 u135 u136 u137 u138 u139 u140 u141
      refine hK _ _ ?_
      rw [← hNN]
      exact rpMid_any _ _ _ _ _ _ _ _ _ _ _ _ _ _ _ _ _ _ _ _ _ _ _ _ _ _ _ _ _ _ _ _ _ _ _ _ _ _ _ _ _ _ _ _ _ _ _ _ _ _ _ _ _ _ _ _ _ _ _ _ _ _ _ _ _ _ _ _ _ _ _ _ _ _ _ _ _ _ _ _ _ _ _ _ _ _ _ _ _ _ _ _ _ _ _ _ _ _ _ _ _ _ _ _ _ _ _ _ _ _ _ _ _ _ _ _ _ _ _ _ _ _ _ _ _ _ _ _ _ _ _ _ _ _ _ s p2 p3 p4 v0 v1 b0 b1 g cap jb w w6 hs HN.out.1 HN.out.2 (HB3.out.trans (hb6.mono (by omega))) ((hb6.block _ (lt_of_blk HR3.out)).trans HR3.out) (own_kept HO3.out fun q hq _ => hb6.block q hq) hbox (by omega) HST.out
    have HREST := Lib.hid REST
    have KM := Lib.hid km
    have e2d : w3.drew.cell? ⟨g, 2, none⟩ = some (.string (bs p2)) := e2
    have e3d : w3.drew.cell? ⟨g, 3, none⟩ = some (.string (bs p3)) := e3
    have e4d : w3.drew.cell? ⟨g, 4, none⟩ = some (.string (bs p4)) := e4
    have hg3 : ¬ g = w3.heap.size := by omega
    have hba : Below w3.heap.size w3 (w3.alloc (.cells #[.int .i64 0, .int .i64 0, .int .i64 0, .string ⟨#[]⟩, .slice none 0 0, .bool false] 24)).drew := ((Below.refl _ w3).alloc (Nat.le_refl _) _).drew
    have e2a := (hba.cell (p := ⟨g, 2, none⟩) hgl).trans e2
    have e3a := (hba.cell (p := ⟨g, 3, none⟩) hgl).trans e3
    have e4a := (hba.cell (p := ⟨g, 4, none⟩) hgl).trans e4
    clear hba
    have HE2 := Lib.hid e2; have HE3 := Lib.hid e3; have HE4 := Lib.hid e4
    generalize readV p2 = R2 at *
    generalize voidOf p4 = R4 at *
    clear REST hK km e2 e3 e4 HO1 HO3 HR1 HR3 HB1 HB3 HPS HN HST
    go_region_held3 (fun w' => w'.cell? ⟨g, 2, none⟩ = some (.string (bs p2)) ∧ w'.cell? ⟨g, 3, none⟩ = some (.string (bs p3)) ∧ w'.cell? ⟨g, 4, none⟩ = some (.string (bs p4))) (first | (go_keep; done) | (exact ⟨(cell_six hg3 _ _ _ _ _ _).trans y2, (cell_six hg3 _ _ _ _ _ _).trans y3, (cell_six hg3 _ _ _ _ _ _).trans y4⟩)) (first
      | (go_at_call 25; refine (KM.out _).mono ?_; rintro e w4 ⟨rfl, hb⟩; have hz4 := (hb.block w3.heap.size (by simp)).trans (heap_new w3 _); have hbw : Below w3.heap.size w3 w4 := ((Below.refl _ w3).alloc (Nat.le_refl _) _).drew.trans (hb.mono (by simp)); have y2 := (hbw.cell (p := ⟨g, 2, none⟩) hgl).trans HE2.out; have y3 := (hbw.cell (p := ⟨g, 3, none⟩) hgl).trans HE3.out; have y4 := (hbw.cell (p := ⟨g, 4, none⟩) hgl).trans HE4.out; obtain ⟨c0, c1, c2, c3, c4, c5⟩ := six_cells hz4; have cf := fun o => warm_of hz4 o; have HZ4 := Lib.hid hz4; have HB4 := Lib.hid hbw; clear hb hbw hz4)
      | (go_at_call 25; refine (KM.out _).mono ?_; rintro e w4 ⟨rfl, hb⟩; have hbw : Below w3.heap.size w3 w4 := (Below.refl _ w3).drew.trans hb; have y2 := (hbw.cell (p := ⟨g, 2, none⟩) hgl).trans HE2.out; have y3 := (hbw.cell (p := ⟨g, 3, none⟩) hgl).trans HE3.out; have y4 := (hbw.cell (p := ⟨g, 4, none⟩) hgl).trans HE4.out; have hg4 : g < w4.heap.size := (by have := hbw.size; omega); have hg5 : ¬ g = w4.heap.size := (by omega); have HB4 := Lib.hid hbw; clear hb hbw))
    · exact HREST.out w4.heap.size _ (heap_new w4 _) (HB4.out.alloc HB4.out.size _) HB4.out.size _ _ _ _ _ _ _ _ _ _ _ _ _ _ _ _ _ _ _ _ _ _ _ _ _ _ _ _ _ _ _ _ _ _ _ _ _ _ _ _ _ _ _ _ _ _ _ _ _ _ _ _ _ _ _ _ _ _ _ _ _ _ _ _ _ _ _ _ _ _ _ _ _ _ _ _ _ _ _ _ _ _ _ _ _ _ _ _ _ _ _ _ _ _ _ _ _ _ _ _ _ _ _ _ _ _ _ _ _ _ _ _ _ _ _ _ _ _ _ _ _ _ _ _ _ _ _ _ _ _ _ _ _ _ _
    · exact HREST.out w3.heap.size _ (jat_laid ⟨v0, v1, R2, bs p3, [], R4⟩ none 0 0 HZ4.out) (below_six HB4.out (Nat.le_refl _) _ _ _ _ _ _) (Nat.le_refl _) _ _ _ _ _ _ _ _ _ _ _ _ _ _ _ _ _ _ _ _ _ _ _ _ _ _ _ _ _ _ _ _ _ _ _ _ _ _ _ _ _ _ _ _ _ _ _ _ _ _ _ _ _ _ _ _ _ _ _ _ _ _ _ _ _ _ _ _ _ _ _ _ _ _ _ _ _ _ _ _ _ _ _ _ _ _ _ _ _ _ _ _ _ _ _ _ _ _ _ _ _ _ _ _ _ _ _ _ _ _ _ _ _ _ _ _ _ _ _ _ _ _ _ _ _ _ _ _ _ _ _ _ _ _ _
end Go.Proofs.YtakjiehncoankaaDoor
