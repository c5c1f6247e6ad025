/-
  The walk of the statement RulesTell.
-/
-- WIT0: .agg #[.slice none 0 0, .slice none 0 0, .slice none 0 0]
-- WIT1: .agg #[.int .i64 0, .int .i64 0, .int .i64 0, .string ByteArray.empty, .slice none 0 0, .bool false]
-- HOLE2: obtain ⟨fuel0, hf0⟩ := h0
-- obtain ⟨A0, A1, A2, n0, n1, n2, c0, c1, c2, l0, l1, l2, rfl, q0⟩ := argWorld hf0
-- obtain ⟨fuel1, hf1⟩ := h1
-- obtain ⟨jj, B1, m1, d1, rfl, q1, s1, t1⟩ := argJrn hf1
-- obtain rfl : jj.lines.length = m1 := q1.rd.lins_len
-- exact rulesTell_walk A0 A1 A2 n0 n1 n2 c0 c1 c2 l0 l1 l2 ⟨jj, B1, d1⟩ a2 a3 a4 a5 a6 W q0 q1.rd q1.nil q1.len t1 (of_wf64 w5) (of_wf64 w6)
import Derived.Test.YtmgncoialppmpaaGreatMany34
import Derived.Test.YtmgncoialppmpaaGreatMany35
import Derived.Test.YtmgncoialppmpaaGreatMany36
namespace Go.Proofs.YtmgncoialppmpaaGreat
open Go.RowKit Go.Sort

theorem rRevJ_len {C : List Acc} {G : List Trio} {M : List Jrn} {id nu pe : Int} : (rRevJ C G M id nu pe).lines.length ≤ 8 := by
  unfold rRevJ
  split
  · unfold revV
    split
    · rename_i h1
      exact (checkE_len (revE_two h1).2).1
    · exact Nat.zero_le _
  · exact Nat.zero_le _
theorem sameJ_refl (j : Jrn) : sameJ j j = true := by
  unfold sameJ
  simp
set_option maxRecDepth 100000 in
set_option maxHeartbeats 16000000 in
theorem rulesTell_walk (A0 A1 A2 : Option Addr) (n0 n1 n2 c0 c1 c2 : Nat) (l0 : List Acc) (l1 : List Trio) (l2 : List JR) (j : JR) (id nu pe acc ent : Int) (w : World) (h : WorldIn w A0 A1 A2 n0 n1 n2 l0 l1 l2) (hj : Rd w w.heap.size 3 j.A j.j.lines.length (lins j.j.lines)) (hnil : j.A = none → j.c = 0) (hlen : j.j.lines.length ≤ maxLen) (href : j.j.ref.size ≤ maxLen) (hac : in64 acc) (hen : in64 ent) :
    Calls Tryz.prog 3 #[.agg #[.slice A0 n0 c0, .slice A1 n1 c1, .slice A2 n2 c2], .agg #[.int .i64 j.j.id, .int .i64 j.j.ent, .int .i64 j.j.per, .string j.j.ref, .slice j.A j.j.lines.length j.c, .bool j.j.void], .int .i64 id, .int .i64 nu, .int .i64 pe, .int .i64 acc, .int .i64 ent] w fun e w' => e = .returned (.bool true) ∧ Below w.heap.size w w' := by
  obtain ⟨W1, hW1⟩ : ∃ W1, (w.alloc (.cells #[.slice A0 n0 c0, .slice A1 n1 c1, .slice A2 n2 c2] 26)).alloc (.cells #[.int .i64 j.j.id, .int .i64 j.j.ent, .int .i64 j.j.per, .string j.j.ref, .slice j.A j.j.lines.length j.c, .bool j.j.void] 29) = W1 := ⟨_, rfl⟩
  obtain ⟨e1, e2, hb1⟩ := one_of hW1
  have HW1 := Lib.hid hW1; have HB1 := Lib.hid hb1; have HE1 := Lib.hid e1
  have HJ1 : Hid (W1.heap[w.heap.size + 1]? = some (.cells #[.int .i64 j.j.id, .int .i64 j.j.ent, .int .i64 j.j.per, .string j.j.ref, .slice j.A j.j.lines.length j.c, .bool j.j.void] 29 (0, 0))) := e2
  have kl := Lib.hid (light_any (.slice A0 n0 c0) (.slice A1 n1 c1) l2 A2 n2 c2 w.heap.size W1 (h.m.far hb1 (Nat.le_refl _)) hb1.size h.l2)
  have ka := Lib.hid alive7_any
  have HH := Lib.hid h
  have HRD : Hid (Rd w w.heap.size 3 j.A j.j.lines.length (lins j.j.lines)) := hj
  have HAC := Lib.hid hac; have HEN := Lib.hid hen; have HNIL := Lib.hid hnil
  obtain ⟨x0, x1, x2⟩ := three_cells e1
  unfold maxLen at hlen href
  clear hW1 hb1 e1 e2 h hj hac hen hnil
  go_enter Tryz.func3, Tryz.ntmps3
  go_wp2_with fail
  rw [HW1.out]
  refine kl.out.mono ?_
  rintro e w2 ⟨⟨z, rfl⟩, hb2⟩
  have HB2 : Hid (Below w.heap.size w w2) := HB1.out.trans (hb2.mono HB1.out.size)
  have HE2 := Lib.hid ((hb2.block _ (lt_of_blk HE1.out)).trans HE1.out)
  have HJ2 := Lib.hid ((hb2.block _ (lt_of_blk HJ1.out)).trans HJ1.out)
  clear hb2 kl x0 x1 x2 HE1 HJ1
  cases z
  · clear hlen href
    go_wp2_with fail
    refine (ka.out _).mono ?_
    rintro e w3 ⟨rfl, hb3⟩
    have HB3 := Lib.hid (HB2.out.trans (hb3.mono HB2.out.size))
    clear hb3
    go_wp2_with fail
    go_ret
    exact ⟨rfl, HB3.out⟩
  obtain ⟨b0, b1, b2, b3, b4, b5⟩ := six_cells HJ2.out
  by_cases h30 : j.j.lines.length ≤ 30
  rotate_left
  · have h30I : (j.j.lines.length : Int) > 30 := by omega
    clear h30 hlen href
    go_wp2_with fail
    refine (ka.out _).mono ?_
    rintro e w3 ⟨rfl, hb3⟩
    have HB3 := Lib.hid (HB2.out.trans (hb3.mono HB2.out.size))
    clear hb3
    go_wp2_with fail
    go_ret
    exact ⟨rfl, HB3.out⟩
  have h30I : ¬ (j.j.lines.length : Int) > 30 := by omega
  by_cases h60 : j.j.ref.size ≤ 60
  rotate_left
  · have h60I : (j.j.ref.size : Int) > 60 := by omega
    clear h60 hlen href
    go_wp2_with fail
    refine (ka.out _).mono ?_
    rintro e w3 ⟨rfl, hb3⟩
    have HB3 := Lib.hid (HB2.out.trans (hb3.mono HB2.out.size))
    clear hb3
    go_wp2_with fail
    go_ret
    exact ⟨rfl, HB3.out⟩
  have h60I : ¬ (j.j.ref.size : Int) > 60 := by omega
  have HREF : Hid (j.j.ref.size ≤ 60) := h60
  have HLEN : Hid (j.j.lines.length ≤ 30) := h30
  clear hlen href h30 h60
  go_wp2_with fail
  refine (ka.out _).mono ?_
  rintro e w3 ⟨rfl, hb3⟩
  have HB3 : Hid (Below w.heap.size w w3) := HB2.out.trans (hb3.mono HB2.out.size)
  have he3 := (hb3.block _ (lt_of_blk HE2.out)).trans HE2.out
  have HJ3 := Lib.hid ((hb3.block _ (lt_of_blk HJ2.out)).trans HJ2.out)
  obtain ⟨x0, x1, x2⟩ := three_cells he3
  have km := Lib.hid (make_any l0 l1 l2 A0 A1 A2 n0 n1 n2 c0 c1 c2 w3 ((HH.out.c.far HB3.out (Nat.le_refl _)).wide HB3.out.size) ((HH.out.g.far HB3.out (Nat.le_refl _)).wide HB3.out.size) ((HH.out.m.far HB3.out (Nat.le_refl _)).wide HB3.out.size) HH.out.l0 HH.out.l1 HH.out.l2)
  clear hb3 he3 HE2 HJ2 HH ka HB2 b0 b1 b2 b3 b4 b5
  go_wp2_with fail
  refine km.out.mono fun e w4 he => ?_
  obtain ⟨c, g, b, C, G, l, r, Ac, cc, Ag, cg, Ab, cb, rfl, hM⟩ := he
  have hq4 := made_q hM
  have hP4 := hM.parts
  have HB4 : Hid (Below w.heap.size w w4) := HB3.out.trans (hM.bel.mono HB3.out.size)
  have HSAME := Lib.hid hM.same
  have HGM := Lib.hid hM.goodM
  have hlenM := hM.lenM
  have HJ4 := Lib.hid ((hM.bel.block _ (lt_of_blk HJ3.out)).trans HJ3.out)
  obtain ⟨W5, hW5⟩ : ∃ W5, (w4.alloc (.cells #[.pointer (some ⟨c, 0, none⟩), .pointer (some ⟨g, 0, none⟩), .pointer (some ⟨b, 0, none⟩)] 35)).alloc (.cells #[.slice Ac C.length cc, .slice Ag G.length cg, .slice Ab r.length cb] 38) = W5 := ⟨_, rfl⟩
  obtain ⟨e5, e6, hb5⟩ := one_of hW5
  have HW5 := Lib.hid hW5; have HR5 := Lib.hid e5; have HF5 := Lib.hid e6
  have HB5 : Hid (Below w.heap.size w W5) := HB4.out.trans (hb5.mono HB4.out.size)
  have HP5 := Lib.hid (hP4.below hb5)
  have HQ5 : Hid (QRd W5 w4.heap.size C G r Ac Ag Ab) := hq4.far hb5 (Nat.le_refl _)
  have HZ5 : Hid (w4.heap.size ≤ W5.heap.size) := hb5.size
  have HJ5 := Lib.hid ((hb5.block _ (lt_of_blk HJ4.out)).trans HJ4.out)
  have HI5 : Hid (JrIn W5 j) := ⟨(HRD.out.far HB5.out (Nat.le_refl _)).wide HB5.out.size, HNIL.out, by have := HLEN.out; omega, by have := HREF.out; unfold maxLen; omega⟩
  have kr := Lib.hid (rulesReverse_any c g b C G l id nu pe W5 HP5.out)
  clear hW5 hb5 hP4 hq4 hM km x0 x1 x2 HB3 HB4 HJ3 HJ4 HRD HNIL
  obtain ⟨J, hJ⟩ : ∃ J, rRevJ C G (l.map JR.j) id nu pe = J := ⟨_, rfl⟩
  obtain ⟨V, hV⟩ : ∃ V, rRevE C G (l.map JR.j) id nu pe = V := ⟨_, rfl⟩
  have HJL : Hid (J.lines.length ≤ 8) := by rw [← hJ]; exact rRevJ_len
  rw [hJ, hV] at kr
  have HRJ := Lib.hid hJ; have HRV := Lib.hid hV
  clear hJ hV
  obtain ⟨y0, y1, y2⟩ := three_cells e5
  clear e5 e6
  go_wp2_with fail
  rw [HW5.out]
  clear y0 y1 y2
  refine kr.out.mono ?_
  rintro e w6 ⟨A3, n3, c3, rfl, hown3, hb6⟩
  obtain rfl : n3 = J.lines.length := by have := hown3.1; rw [lins_len] at this; omega
  obtain ⟨W7, hW7⟩ : ∃ W7, w6.alloc (.cells #[.int .i64 J.id, .int .i64 J.ent, .int .i64 J.per, .string J.ref, .slice A3 J.lines.length c3, .bool J.void] 29) = W7 := ⟨_, rfl⟩
  have hb67 : Below w6.heap.size w6 W7 := by rw [← hW7]; exact (Below.refl _ _).alloc (Nat.le_refl _) _
  have hb7 : Below W5.heap.size W5 W7 := hb6.trans (hb67.mono hb6.size)
  have HB7 : Hid (Below w.heap.size w W7) := HB5.out.trans (hb7.mono HB5.out.size)
  have HP7 := Lib.hid (HP5.out.below hb7)
  have HQ7 : Hid (QRd W7 w4.heap.size C G r Ac Ag Ab) := HQ5.out.far hb7 HZ5.out
  have HZ7 : Hid (w4.heap.size ≤ W7.heap.size) := Nat.le_trans HZ5.out hb7.size
  have HR7 := Lib.hid ((hb7.block _ (lt_of_blk HR5.out)).trans HR5.out)
  have HF7 := Lib.hid ((hb7.block _ (lt_of_blk HF5.out)).trans HF5.out)
  have HJ7 := Lib.hid ((hb7.block _ (lt_of_blk HJ5.out)).trans HJ5.out)
  have HI7 := Lib.hid (HI5.out.below hb7)
  have HX7 : Hid (W7.heap[w6.heap.size]? = some (.cells #[.int .i64 J.id, .int .i64 J.ent, .int .i64 J.per, .string J.ref, .slice A3 J.lines.length c3, .bool J.void] 29 (0, 0))) := by rw [← hW7]; exact heap_new w6 _
  have HL7 := Lib.hid (own_kept hown3 fun k hk _ => hb67.block k hk)
  have HW7 := Lib.hid hW7
  have HF6 := Lib.hid ((hb6.block _ (lt_of_blk HF5.out)).trans HF5.out)
  have HAL : Hid (∀ a v, w6.cell? a = some v → ∀ o, (w6.alloc o).cell? a = some v) := fun a v hv o => (((Below.refl w6.heap.size w6).alloc (Nat.le_refl _) o).cell (block_of_cell hv)).trans hv
  have kq := refRReverse_any C G r Ac Ag Ab cc cg cb w4.heap.size id nu pe W7 HQ7.out HZ7.out
  rw [← HSAME.out, HRJ.out, HRV.out] at kq
  have KQ := Lib.hid kq
  obtain ⟨z0, z1, z2⟩ := three_cells HF6.out
  replace z0 := HAL.out _ _ z0; replace z1 := HAL.out _ _ z1; replace z2 := HAL.out _ _ z2
  clear HB5 HP5 HQ5 HZ5 HR5 HF5 HJ5 HI5 hW7 hb67 hb7 hb6 hown3 HF6 HAL kq kr HW5
  go_wp2_with fail
  rw [HW7.out]
  clear z0 z1 z2
  refine KQ.out.mono ?_
  rintro e w8 ⟨A4, n4, c4, rfl, hown4, hb8⟩
  obtain rfl : n4 = J.lines.length := by have := hown4.1; rw [lins_len] at this; omega
  obtain ⟨W9, hW9⟩ : ∃ W9, w8.alloc (.cells #[.int .i64 J.id, .int .i64 J.ent, .int .i64 J.per, .string J.ref, .slice A4 J.lines.length c4, .bool J.void] 29) = W9 := ⟨_, rfl⟩
  have hb89 : Below w8.heap.size w8 W9 := by rw [← hW9]; exact (Below.refl _ _).alloc (Nat.le_refl _) _
  have hb9 : Below W7.heap.size W7 W9 := hb8.trans (hb89.mono hb8.size)
  have HB9 : Hid (Below w.heap.size w W9) := HB7.out.trans (hb9.mono HB7.out.size)
  have HP9 := Lib.hid (HP7.out.below hb9)
  have HQ9 : Hid (QRd W9 w4.heap.size C G r Ac Ag Ab) := HQ7.out.far hb9 HZ7.out
  have HZ9 : Hid (w4.heap.size ≤ W9.heap.size) := Nat.le_trans HZ7.out hb9.size
  have HR9 := Lib.hid ((hb9.block _ (lt_of_blk HR7.out)).trans HR7.out)
  have HF9 := Lib.hid ((hb9.block _ (lt_of_blk HF7.out)).trans HF7.out)
  have HJ9 := Lib.hid ((hb9.block _ (lt_of_blk HJ7.out)).trans HJ7.out)
  have HI9 := Lib.hid (HI7.out.below hb9)
  have HX9 := Lib.hid ((hb9.block _ (lt_of_blk HX7.out)).trans HX7.out)
  have HL9 := Lib.hid (own_kept HL7.out fun k hk _ => hb9.block k hk)
  have HY9 : Hid (W9.heap[w8.heap.size]? = some (.cells #[.int .i64 J.id, .int .i64 J.ent, .int .i64 J.per, .string J.ref, .slice A4 J.lines.length c4, .bool J.void] 29 (0, 0))) := by rw [← hW9]; exact heap_new w8 _
  have HM9 := Lib.hid (own_kept hown4 fun k hk _ => hb89.block k hk)
  have HW9 := Lib.hid hW9
  have HF8 := Lib.hid ((hb8.block _ (lt_of_blk HF7.out)).trans HF7.out)
  have HAL : Hid (∀ a v, w8.cell? a = some v → ∀ o, (w8.alloc o).cell? a = some v) := fun a v hv o => (((Below.refl w8.heap.size w8).alloc (Nat.le_refl _) o).cell (block_of_cell hv)).trans hv
  have ko := Lib.hid (law6Of_any r Ab r.length cb w4.heap.size W9 HQ9.out.m HZ9.out (by unfold maxLen; omega) HGM.out)
  obtain ⟨z0, z1, z2⟩ := three_cells HF8.out
  replace z2 := HAL.out _ _ z2
  clear HB7 HP7 HQ7 HZ7 HR7 HF7 HJ7 HI7 HX7 HL7 hW9 hb89 hb9 hb8 hown4 HF8 HAL KQ HW7 z0 z1
  go_wp2_with fail
  rw [HW9.out]
  clear z2
  refine ko.out.mono ?_
  rintro e w10 ⟨vb, lb, rfl, hT, hbm, hb10⟩
  have HB10 : Hid (Below w.heap.size w w10) := HB9.out.trans (hb10.mono HB9.out.size)
  have HP10 := Lib.hid (HP9.out.below hb10)
  have HQ10 : Hid (QRd w10 w4.heap.size C G r Ac Ag Ab) := HQ9.out.far hb10 HZ9.out
  have HZ10 : Hid (w4.heap.size ≤ w10.heap.size) := Nat.le_trans HZ9.out hb10.size
  have HR10 := Lib.hid ((hb10.block _ (lt_of_blk HR9.out)).trans HR9.out)
  have HF10 := Lib.hid ((hb10.block _ (lt_of_blk HF9.out)).trans HF9.out)
  have HJ10 := Lib.hid ((hb10.block _ (lt_of_blk HJ9.out)).trans HJ9.out)
  have HI10 := Lib.hid (HI9.out.below hb10)
  have HX10 := Lib.hid ((hb10.block _ (lt_of_blk HX9.out)).trans HX9.out)
  have HL10 := Lib.hid (own_kept HL9.out fun k hk _ => hb10.block k hk)
  have HY10 := Lib.hid ((hb10.block _ (lt_of_blk HY9.out)).trans HY9.out)
  have HM10 := Lib.hid (own_kept HM9.out fun k hk _ => hb10.block k hk)
  have HT := Lib.hid hT
  have HBM : Hid (l.map JR.j = lb.map JR.j) := HSAME.out.trans hbm.symm
  obtain ⟨Bt, vt, hT2⟩ := HP10.out.book
  have HT2 := Lib.hid hT2
  clear HB9 HP9 HQ9 HZ9 HR9 HF9 HJ9 HI9 HX9 HL9 HY9 HM9 hb10 hT hbm ko HW9 hT2
  have Q1 := Lib.hid (regrown_calls (w := w10) fun w1 hb => rulesPost_any c g b C G l j w1 (HP10.out.below hb) (HI10.out.below hb))
  have Q2 := regrown_calls (w := w10) fun w1 hb => refRPost_any C G r Ac Ag Ab cc cg cb w4.heap.size j.j j.A j.c w10.heap.size w1 (HQ10.out.far hb HZ10.out) (Nat.le_trans HZ10.out hb.size) (HI10.out.rd.below hb) hb.size (by have := HLEN.out; omega)
  have Q3 := Lib.hid (regrown_calls (w := w10) fun w1 hb => rulesAmend_any c g b C G l j w1 (HP10.out.below hb) (HI10.out.below hb))
  have Q4 := regrown_calls (w := w10) fun w1 hb => refRAmend_any C G r Ac Ag Ab cc cg cb w4.heap.size j.j j.A j.c w10.heap.size w1 (HQ10.out.far hb HZ10.out) (Nat.le_trans HZ10.out hb.size) (HI10.out.rd.below hb) hb.size (by have := HLEN.out; omega)
  have Q5 := Lib.hid (regrown_calls (w := w10) fun w1 hb => rulesVoid_any c g b C G l id w1 (HP10.out.below hb))
  have Q6 := regrown_calls (w := w10) fun w1 hb => refRVoid_any C G r Ac Ag Ab cc cg cb w4.heap.size id w1 (HQ10.out.far hb HZ10.out) (Nat.le_trans HZ10.out hb.size)
  have Q7 := regrown_calls (w := w10) fun w1 hb => refSame_any J J A3 A4 J.lines.length J.lines.length c3 c4 w10.heap.size w10.heap.size w1 ((rd_of_own HL10.out).below hb) ((rd_of_own HM10.out).below hb) hb.size hb.size (by have := HJL.out; unfold maxLen; omega) (by have := HJL.out; unfold maxLen; omega)
  have Q8 := Lib.hid (regrown_calls (w := w10) fun w1 hb => sum_any (.pointer (some ⟨c, 0, none⟩)) (.pointer (some ⟨g, 0, none⟩)) Bt b vt l acc ent w1 (HT2.out.below hb) HAC.out HEN.out)
  have Q9 := regrown_calls (w := w10) fun w1 hb => (refSum_any r acc ent Ab r.length cb w4.heap.size w1 (HQ10.out.far hb HZ10.out).m HQ10.out.oks (by omega)).mono fun e w' ⟨he, hw⟩ => ⟨he, hw ▸ Below.refl _ _⟩
  have Q10 := Lib.hid (regrown_calls (w := w10) fun w1 hb => same_yes Bt _ b _ vt vb l lb w1 (HT2.out.below hb) (HT.out.below hb) HBM.out)
  rw [← HSAME.out] at Q2 Q4 Q6 Q9
  rw [sameJ_refl] at Q7
  unfold Jrn.val at Q2 Q4 Q7
  have Q2 := Lib.hid Q2; have Q4 := Lib.hid Q4; have Q6 := Lib.hid Q6; have Q7 := Lib.hid Q7; have Q9 := Lib.hid Q9
  generalize rPostE C G (l.map JR.j) j.j = V1 at *
  generalize rAmendE C G (l.map JR.j) j.j = V2 at *
  generalize rVoidE G (l.map JR.j) id = V3 at *
  generalize sumM acc ent (l.map JR.j) = V4 at *
  have t1 : (V1 == V1) = true := by simp
  have t2 : (V2 == V2) = true := by simp
  have t3 : (V3 == V3) = true := by simp
  have t4 : (V4 == V4) = true := by simp
  have t5 : (V == V) = true := by simp
  obtain ⟨r0, r1, r2⟩ := three_cells HR10.out
  obtain ⟨z0, z1, z2⟩ := three_cells HF10.out
  obtain ⟨b0, b1, b2, b3, b4, b5⟩ := six_cells HJ10.out
  obtain ⟨x0, x1, x2, x3, x4, x5⟩ := six_cells HX10.out
  obtain ⟨y0, y1, y2, y3, y4, y5⟩ := six_cells HY10.out
  replace r0 := cell_regrown r0; replace r1 := cell_regrown r1; replace r2 := cell_regrown r2
  replace z0 := cell_regrown z0; replace z1 := cell_regrown z1; replace z2 := cell_regrown z2
  replace b0 := cell_regrown b0; replace b1 := cell_regrown b1; replace b2 := cell_regrown b2; replace b3 := cell_regrown b3; replace b4 := cell_regrown b4; replace b5 := cell_regrown b5
  replace x0 := cell_regrown x0; replace x1 := cell_regrown x1; replace x2 := cell_regrown x2; replace x3 := cell_regrown x3; replace x4 := cell_regrown x4; replace x5 := cell_regrown x5
  replace y0 := cell_regrown y0; replace y1 := cell_regrown y1; replace y2 := cell_regrown y2; replace y3 := cell_regrown y3; replace y4 := cell_regrown y4; replace y5 := cell_regrown y5
  go_wp2_with fail
  refine wp_region_quiet_below (by kernel_rfl) (by kernel_rfl) ?_
  repeat (go_big_quiet_step (fail))
  go_big_quiet_want
  go_big_quiet_op
  go_big_quiet_call (exact Q1.out _ _)
  repeat (go_big_quiet_step (fail))
  go_big_quiet_want
  go_big_quiet_op
  go_big_quiet_call (exact Q2.out _ _)
  repeat (go_big_quiet_step (fail))
  go_big_quiet_want
  go_big_quiet_op
  go_big_quiet_call (exact Q3.out _ _)
  repeat (go_big_quiet_step (fail))
  go_big_quiet_want
  go_big_quiet_op
  go_big_quiet_call (exact Q4.out _ _)
  repeat (go_big_quiet_step (fail))
  go_big_quiet_want
  go_big_quiet_op
  go_big_quiet_call (exact Q5.out _ _)
  repeat (go_big_quiet_step (fail))
  go_big_quiet_want
  go_big_quiet_op
  go_big_quiet_call (exact Q6.out _ _)
  repeat (go_big_quiet_step (fail))
  go_big_quiet_want
  go_big_quiet_op
  go_big_quiet_call (exact Q7.out _ _)
  repeat (go_big_quiet_step (fail))
  go_big_quiet_want
  go_big_quiet_op
  go_big_quiet_call (exact Q8.out _ _)
  repeat (go_big_quiet_step (fail))
  go_big_quiet_want
  go_big_quiet_op
  go_big_quiet_call (exact Q9.out _ _)
  repeat (go_big_quiet_step (fail))
  go_big_quiet_want
  go_big_quiet_op
  go_big_quiet_call (exact Q10.out _ _)
  repeat (go_big_quiet_step (fail))
  refine wpQuiet_nil ?_
  intro _ hw'
  obtain ⟨⟨dq, osq⟩, hw''⟩ := hw'
  subst hw''
  have HBE := Lib.hid (HB10.out.trans ((below_regrown w10 dq osq).mono HB10.out.size))
  clear r0 r1 r2 z0 z1 z2 b0 b1 b2 b3 b4 b5 x0 x1 x2 x3 x4 x5 y0 y1 y2 y3 y4 y5 Q1 Q2 Q3 Q4 Q5 Q6 Q7 Q8 Q9 Q10
  go_wp2_with fail
  go_ret
  exact ⟨rfl, HBE.out⟩
end Go.Proofs.YtmgncoialppmpaaGreat

