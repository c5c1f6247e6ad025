/-
  The walk of the statement RulesGone.
-/
-- WIT0: .agg #[.slice none 0 0, .slice none 0 0, .slice none 0 0]
-- HOLE2: obtain ⟨fuel0, hf0⟩ := h0
-- obtain ⟨A0, A1, A2, n0, n1, n2, c0, c1, c2, l0, l1, l2, rfl, q0⟩ := argWorld hf0
-- exact rulesGone_walk A0 A1 A2 n0 n1 n2 c0 c1 c2 l0 l1 l2 a1 W q0
import Derived.Test.YtmgncoialppmpaaGreatMany34
import Derived.Test.YtmgncoialppmpaaGreatMany35
import Derived.Test.YtmgncoialppmpaaGreatMany36
namespace Go.Proofs.YtmgncoialppmpaaGreat
open Go.RowKit Go.Sort

theorem jrx (en pe : Int) {w : World} {m n c : Nat} {A : Option Addr} {L : List Lin} (h : w.ownsRow m 64 3 (.slice A n c) n (lins L)) (hl : L.length ≤ 8) : JrIn w ⟨⟨999999, en, pe, ⟨#[]⟩, L, false⟩, A, c⟩ := by
  have hn : L.length = n := by have := h.1; rw [lins_len] at this; omega
  refine ⟨?_, own_nil h, by show L.length ≤ 1000; omega, by show 0 ≤ maxLen; unfold maxLen; omega⟩
  show Rd w w.heap.size 3 A L.length (lins L)
  rw [hn]
  exact rd_of_own h
set_option maxRecDepth 100000 in
set_option maxHeartbeats 8000000 in
theorem rulesGone_walk (A0 A1 A2 : Option Addr) (n0 n1 n2 c0 c1 c2 : Nat) (l0 : List Acc) (l1 : List Trio) (l2 : List JR) (k : Int) (w : World) (h : WorldIn w A0 A1 A2 n0 n1 n2 l0 l1 l2) :
    Calls Tryz.prog 6 #[.agg #[.slice A0 n0 c0, .slice A1 n1 c1, .slice A2 n2 c2], .int .i64 k] w fun e w' => e = .returned (.bool true) ∧ Below w.heap.size w w' := by
  obtain ⟨W1, hW1⟩ : ∃ W1, w.alloc (.cells #[.slice A0 n0 c0, .slice A1 n1 c1, .slice A2 n2 c2] 26) = W1 := ⟨_, rfl⟩
  have hb1 : Below w.heap.size w W1 := by rw [← hW1]; exact (Below.refl _ _).alloc (Nat.le_refl _) _
  have e1 : W1.heap[w.heap.size]? = some (.cells #[.slice A0 n0 c0, .slice A1 n1 c1, .slice A2 n2 c2] 26 (0, 0)) := by rw [← hW1]; exact heap_new w _
  have HW1 := Lib.hid hW1; have HB1 := Lib.hid hb1; have HE1 := Lib.hid e1
  have kl := Lib.hid (light_any (.slice A0 n0 c0) (.slice A1 n1 c1) l2 A2 n2 c2 w.heap.size W1 (h.m.far hb1 (Nat.le_refl _)) hb1.size h.l2)
  have ka := Lib.hid alive7_any
  have HH := Lib.hid h
  obtain ⟨x0, x1, x2⟩ := three_cells e1
  clear hW1 hb1 e1 h
  go_enter Tryz.func6, Tryz.ntmps6
  go_wp2_with fail
  rw [HW1.out]
  refine kl.out.mono ?_
  rintro e w2 ⟨⟨z, rfl⟩, hb2⟩
  have HB2 : Hid (Below w.heap.size w w2) := HB1.out.trans (hb2.mono HB1.out.size)
  have HE2 := Lib.hid ((hb2.block _ (lt_of_blk HE1.out)).trans HE1.out)
  clear hb2 kl x0 x1 x2
  cases z
  · go_wp2_with fail
    refine (ka.out _).mono ?_
    rintro e w3 ⟨rfl, hb3⟩
    have HB3 := Lib.hid (HB2.out.trans (hb3.mono HB2.out.size))
    clear hb3
    go_wp2_with fail
    go_ret
    exact ⟨rfl, HB3.out⟩
  go_wp2_with fail
  refine (ka.out _).mono ?_
  rintro e w3 ⟨rfl, hb3⟩
  have HB3 : Hid (Below w.heap.size w w3) := HB2.out.trans (hb3.mono HB2.out.size)
  have he3 := (hb3.block _ (lt_of_blk HE2.out)).trans HE2.out
  obtain ⟨x0, x1, x2⟩ := three_cells he3
  have km := Lib.hid (make_any l0 l1 l2 A0 A1 A2 n0 n1 n2 c0 c1 c2 w3 ((HH.out.c.far HB3.out (Nat.le_refl _)).wide HB3.out.size) ((HH.out.g.far HB3.out (Nat.le_refl _)).wide HB3.out.size) ((HH.out.m.far HB3.out (Nat.le_refl _)).wide HB3.out.size) HH.out.l0 HH.out.l1 HH.out.l2)
  clear hb3 he3 HE2 HE1 HH ka HB2
  go_wp2_with fail
  refine km.out.mono fun e w4 he => ?_
  obtain ⟨c, g, b, C, G, l, r, Ac, cc, Ag, cg, Ab, cb, rfl, hM⟩ := he
  obtain ⟨Bc, vc, hG4, hBg⟩ := hM.newC
  have hq4 := made_q hM
  have hP4 := hM.parts
  have HB4 : Hid (Below w.heap.size w w4) := HB3.out.trans (hM.bel.mono HB3.out.size)
  have HBG : Hid (w.heap.size ≤ Bc) := Nat.le_trans HB3.out.size hBg
  have HSAME := Lib.hid hM.same
  have HGM := Lib.hid hM.goodM
  have hlenM := hM.lenM
  obtain ⟨W5, hW5⟩ : ∃ W5, (w4.alloc (.cells #[.pointer (some ⟨c, 0, none⟩), .pointer (some ⟨g, 0, none⟩), .pointer (some ⟨b, 0, none⟩)] 35)).alloc (.cells #[.slice Ac C.length cc, .slice Ag G.length cg, .slice Ab r.length cb] 38) = W5 := ⟨_, rfl⟩
  obtain ⟨e5, e6, hb5⟩ := one_of hW5
  have HW5 := Lib.hid hW5; have HE5 := Lib.hid e5; have HE6 := Lib.hid e6
  have HB5 : Hid (Below w.heap.size w W5) := HB4.out.trans (hb5.mono HB4.out.size)
  have HP5 := Lib.hid (hP4.below hb5)
  have HG5 := Lib.hid (hG4.below hb5)
  have HQ5 : Hid (QRd W5 w4.heap.size C G r Ac Ag Ab) := hq4.far hb5 (Nat.le_refl _)
  have HZ5 : Hid (w4.heap.size ≤ W5.heap.size) := hb5.size
  clear hW5 hb5 hP4 hG4 hq4 hM hBg km x0 x1 x2 HB3 HB4
  obtain ⟨y0, y1, y2⟩ := three_cells e5
  obtain ⟨z0, z1, z2⟩ := three_cells e6
  clear e5 e6
  by_cases hr0 : r.length = 0
  · have hl0 : l.length = 0 := by have := congrArg List.length HSAME.out; simpa [hr0] using this
    obtain ⟨Bb, vb, hT⟩ := HP5.out.book
    have kn := Lib.hid (len_any Bb b vb l W5 hT)
    rw [hl0] at kn
    have hz0 : ((r.length : Int) == 0) = true := by rw [hr0]; rfl
    clear hT hl0 z0 z1 y0 y1 hr0
    go_wp2_with fail
    rw [HW5.out]
    refine kn.out.mono ?_
    rintro e w6 ⟨rfl, rfl⟩
    go_wp2_with fail
    go_ret
    exact ⟨rfl, HB5.out⟩
  obtain ⟨i, hi, hidx⟩ := idxW_any k (n := r.length) (by omega) (by omega)
  obtain ⟨ad, o, hA, hadb, hx, p1, p2, p3, p4, p5, p6⟩ := HQ5.out.m.rd.jr hi
  subst hA
  have hne0 : ((r.length : Int) == 0) = false := by rw [beq_eq_false_iff_ne]; omega
  have hiI : (i : Int) < (r.length : Int) := by omega
  have HMEM := Lib.hid (List.mem_of_getElem? hx)
  clear hx y0 y1 y2 hr0
  go_wp2_with fail
  rw [HW5.out]
  have HAL : Hid (∀ a v, W5.cell? a = some v → ∀ o, (W5.alloc o).cell? a = some v) := fun a v hv o => (((Below.refl W5.heap.size W5).alloc (Nat.le_refl _) o).cell (block_of_cell hv)).trans hv
  obtain ⟨W6, hW6⟩ : ∃ W6, (W5.alloc (.cells #[.int .i64 o.j.id, .int .i64 o.j.ent, .int .i64 o.j.per, .string o.j.ref, .slice o.A o.j.lines.length o.c, .bool o.j.void] 29)).drew = W6 := ⟨_, rfl⟩
  have hb56 : Below W5.heap.size W5 W6 := by rw [← hW6]; exact ((Below.refl _ _).alloc (Nat.le_refl _) _).drew
  have HB6 : Hid (Below w.heap.size w W6) := HB5.out.trans (hb56.mono HB5.out.size)
  have HP6 := Lib.hid (HP5.out.below hb56)
  have HG6 := Lib.hid (HG5.out.below hb56)
  have HQ6 : Hid (QRd W6 w4.heap.size C G r Ac Ag (some ad)) := HQ5.out.far hb56 HZ5.out
  have HZ6 : Hid (w4.heap.size ≤ W6.heap.size) := Nat.le_trans HZ5.out hb56.size
  have HR6 := Lib.hid ((hb56.block _ (lt_of_blk HE5.out)).trans HE5.out)
  have HF6 := Lib.hid ((hb56.block _ (lt_of_blk HE6.out)).trans HE6.out)
  have HJ6 : Hid (JAt W6 W5.heap.size o.j o.A o.j.lines.length o.c) := by rw [← hW6]; exact heap_new W5 _
  have HW6 := Lib.hid hW6
  have HOLD := Lib.hid (oldJ_self (M := l.map JR.j) (j := o.j) (by rw [HSAME.out]; exact HGM.out.rise) (by rw [HSAME.out]; exact List.mem_map.2 ⟨o, HMEM.out, rfl⟩))
  have HCHK : Hid (checkE o.j = 0) := HGM.out.ok o.j (List.mem_map.2 ⟨o, HMEM.out, rfl⟩)
  have hlin := HQ6.out.m.lines o HMEM.out
  have hlen := (checkE_len HCHK.out).1
  have kc := Lib.hid (refCopy_any o.j o.A o.j.lines.length o.c w4.heap.size W6 hlin HZ6.out (by omega))
  unfold Jrn.val at kc
  have HLEN := Lib.hid hlen
  have zz2 := HAL.out _ _ z2
  have q1 := HAL.out _ _ p1; have q2 := HAL.out _ _ p2; have q3 := HAL.out _ _ p3; have q4 := HAL.out _ _ p4; have q5 := HAL.out _ _ p5; have q6 := HAL.out _ _ p6
  clear hW6 hb56 HP5 HG5 HQ5 HZ5 HE5 HE6 HB5 hadb HW5 hlin hlen
  go_region
  go_wp2_with fail
  rw [HW6.out]
  clear zz2 q1 q2 q3 q4 q5 q6 p1 p2 p3 p4 p5 p6 z0 z1 z2 hne0 hiI hidx
  refine kc.out.mono ?_
  rintro e w8 ⟨A', c', rfl, hown, hb8⟩
  obtain ⟨W9, hW9⟩ : ∃ W9, w8.alloc (.cells #[.int .i64 999999, .int .i64 o.j.ent, .int .i64 o.j.per, .string ⟨#[]⟩, .slice A' o.j.lines.length c', .bool false] 29) = W9 := ⟨_, rfl⟩
  have hb9 : Below w8.heap.size w8 W9 := by rw [← hW9]; exact (Below.refl _ _).alloc (Nat.le_refl _) _
  have hb79 : Below W6.heap.size W6 W9 := hb8.trans (hb9.mono hb8.size)
  have HX9 : Hid (JAt W9 w8.heap.size ⟨999999, o.j.ent, o.j.per, ⟨#[]⟩, o.j.lines, false⟩ A' o.j.lines.length c') := by rw [← hW9]; exact heap_new w8 _
  have HB9 : Hid (Below w.heap.size w W9) := HB6.out.trans (hb79.mono HB6.out.size)
  have HP9 := Lib.hid (HP6.out.below hb79)
  have HG9 := Lib.hid (HG6.out.below hb79)
  have HQ9 : Hid (QRd W9 w4.heap.size C G r Ac Ag (some ad)) := HQ6.out.far hb79 HZ6.out
  have HZ9 : Hid (w4.heap.size ≤ W9.heap.size) := Nat.le_trans HZ6.out hb79.size
  have HR9 := Lib.hid ((hb79.block _ (lt_of_blk HR6.out)).trans HR6.out)
  have HF9 := Lib.hid ((hb79.block _ (lt_of_blk HF6.out)).trans HF6.out)
  have HJ9 : Hid (JAt W9 W5.heap.size o.j o.A o.j.lines.length o.c) := (hb79.block _ (lt_of_blk HJ6.out)).trans HJ6.out
  have HO9 := Lib.hid (own_kept hown fun k hk _ => hb9.block k hk)
  have HF8 := Lib.hid ((hb8.block _ (lt_of_blk HF6.out)).trans HF6.out)
  have HAL : Hid (∀ a v, w8.cell? a = some v → ∀ o, (w8.alloc o).cell? a = some v) := fun a v hv o => (((Below.refl w8.heap.size w8).alloc (Nat.le_refl _) o).cell (block_of_cell hv)).trans hv
  have kg := Lib.hid (refGet_old r 999999 (some ad) r.length cb w4.heap.size W9 HQ9.out.m.rd HZ9.out (by omega))
  obtain ⟨z0, z1, z2⟩ := three_cells HF8.out
  replace z0 := HAL.out _ _ z0; replace z1 := HAL.out _ _ z1; replace z2 := HAL.out _ _ z2
  have HW9 := Lib.hid hW9
  clear kc hW9 hb9 hb79 hown hb8 HF8 HAL HP6 HG6 HQ6 HZ6 HR6 HF6 HJ6 HB6
  go_wp2_with fail
  rw [HW9.out]
  clear z0 z1 z2
  refine kg.out.mono ?_
  rintro e w10 ⟨rfl, hb10⟩
  obtain ⟨W11, hW11⟩ : ∃ W11, w10.alloc (.cells #[.int .i64 (oldR r 999999).j.id, .int .i64 (oldR r 999999).j.ent, .int .i64 (oldR r 999999).j.per, .string (oldR r 999999).j.ref, .slice (oldR r 999999).A (oldR r 999999).j.lines.length (oldR r 999999).c, .bool (oldR r 999999).j.void] 29) = W11 := ⟨_, rfl⟩
  have hb11 : Below W9.heap.size W9 W11 := by rw [← hW11]; exact hb10.alloc hb10.size _
  have HB11 : Hid (Below w.heap.size w W11) := HB9.out.trans (hb11.mono HB9.out.size)
  have HP11 := Lib.hid (HP9.out.below hb11)
  have HG11 := Lib.hid (HG9.out.below hb11)
  have HQ11 : Hid (QRd W11 w4.heap.size C G r Ac Ag (some ad)) := HQ9.out.far hb11 HZ9.out
  have HZ11 : Hid (w4.heap.size ≤ W11.heap.size) := Nat.le_trans HZ9.out hb11.size
  have HR11 := Lib.hid ((hb11.block _ (lt_of_blk HR9.out)).trans HR9.out)
  have HF11 := Lib.hid ((hb11.block _ (lt_of_blk HF9.out)).trans HF9.out)
  have HJ11 : Hid (JAt W11 W5.heap.size o.j o.A o.j.lines.length o.c) := (hb11.block _ (lt_of_blk HJ9.out)).trans HJ9.out
  have HX11 : Hid (JAt W11 w8.heap.size ⟨999999, o.j.ent, o.j.per, ⟨#[]⟩, o.j.lines, false⟩ A' o.j.lines.length c') := (hb11.block _ (lt_of_blk HX9.out)).trans HX9.out
  have HO11 := Lib.hid (own_kept HO9.out fun k hk _ => hb11.block k hk)
  have HW11 := Lib.hid hW11
  have HF10 := Lib.hid ((hb10.block _ (lt_of_blk HF9.out)).trans HF9.out)
  have HX10 : Hid (JAt w10 w8.heap.size ⟨999999, o.j.ent, o.j.per, ⟨#[]⟩, o.j.lines, false⟩ A' o.j.lines.length c') := (hb10.block _ (lt_of_blk HX9.out)).trans HX9.out
  have HAL : Hid (∀ a v, w10.cell? a = some v → ∀ o, (w10.alloc o).cell? a = some v) := fun a v hv o => (((Below.refl w10.heap.size w10).alloc (Nat.le_refl _) o).cell (block_of_cell hv)).trans hv
  clear HB9 HP9 HG9 HQ9 HZ9 HR9 HF9 HJ9 HX9 HO9 hb10 hb11 hW11 HW9 kg
  obtain ⟨E, hE⟩ : ∃ E, rPostE C G (l.map JR.j) ⟨999999, o.j.ent, o.j.per, ⟨#[]⟩, o.j.lines, false⟩ = E := ⟨_, rfl⟩
  have HEP := Lib.hid hE
  clear hE
  generalize oldR r 999999 = old at *
  cases hH : hasId (r.map JR.j) 999999
  rotate_left
  · go_wp2_with fail
    rw [HW11.out]
    have tz : (E == E) = true := by simp
    have JR2 := jrx o.j.ent o.j.per HO11.out HLEN.out
    have Q1 := regrown_calls (w := W11) fun w1 hb => rulesPost_any c g b C G l ⟨⟨999999, o.j.ent, o.j.per, ⟨#[]⟩, o.j.lines, false⟩, A', c'⟩ w1 (HP11.out.below hb) (JR2.below hb)
    have Q2 := regrown_calls (w := W11) fun w1 hb => refRPost_any C G r Ac Ag (some ad) cc cg cb w4.heap.size ⟨999999, o.j.ent, o.j.per, ⟨#[]⟩, o.j.lines, false⟩ A' c' W11.heap.size w1 (HQ11.out.far hb HZ11.out) (Nat.le_trans HZ11.out hb.size) (JR2.rd.below hb) hb.size (by have := HLEN.out; show o.j.lines.length ≤ 1000000; omega)
    rw [← HSAME.out] at Q2
    rw [HEP.out] at Q1 Q2
    unfold Jrn.val at Q2
    have Q1 := Lib.hid Q1
    have Q2 := Lib.hid Q2
    obtain ⟨r0, r1, r2⟩ := three_cells HR11.out
    obtain ⟨z0, z1, z2⟩ := three_cells HF11.out
    obtain ⟨x0, x1, x2, x3, x4, x5⟩ := six_cells HX11.out
    replace r0 := cell_regrown r0; replace r1 := cell_regrown r1; replace r2 := cell_regrown r2
    replace z0 := cell_regrown z0; replace z1 := cell_regrown z1; replace z2 := cell_regrown z2
    replace x0 := cell_regrown x0; replace x1 := cell_regrown x1; replace x2 := cell_regrown x2; replace x3 := cell_regrown x3; replace x4 := cell_regrown x4; replace x5 := cell_regrown x5
    clear JR2
    refine wp_region_quiet_below (by kernel_rfl) (by kernel_rfl) ?_
    repeat (go_big_quiet_step (fail))
    go_big_quiet_want
    go_big_quiet_op
    go_big_quiet_call (exact Q1.out _ _)
    repeat (go_big_quiet_step (fail))
    go_big_quiet_want
    go_big_quiet_op
    go_big_quiet_call (exact Q2.out _ _)
    repeat (go_big_quiet_step (fail))
    refine wpQuiet_nil ?_
    intro _ hw'
    obtain ⟨⟨dq, osq⟩, hw''⟩ := hw'
    subst hw''
    have HBE := Lib.hid (HB11.out.trans ((below_regrown W11 dq osq).mono HB11.out.size))
    clear r0 r1 r2 z0 z1 z2 x0 x1 x2 x3 x4 x5 Q1 Q2
    go_wp2_with fail
    go_ret
    exact ⟨rfl, HBE.out⟩
  obtain ⟨z0, z1, z2⟩ := three_cells HF10.out
  obtain ⟨x0, x1, x2, x3, x4, x5⟩ := six_cells HX10.out
  replace z0 := HAL.out _ _ z0; replace z1 := HAL.out _ _ z1; replace z2 := HAL.out _ _ z2
  replace x0 := HAL.out _ _ x0; replace x1 := HAL.out _ _ x1; replace x2 := HAL.out _ _ x2; replace x3 := HAL.out _ _ x3; replace x4 := HAL.out _ _ x4; replace x5 := HAL.out _ _ x5
  have kq := refRPost_any C G r Ac Ag (some ad) cc cg cb w4.heap.size ⟨999999, o.j.ent, o.j.per, ⟨#[]⟩, o.j.lines, false⟩ A' c' W11.heap.size W11 HQ11.out HZ11.out (jrx o.j.ent o.j.per HO11.out HLEN.out).rd (Nat.le_refl _) (by have := HLEN.out; show o.j.lines.length ≤ 1000000; omega)
  rw [← HSAME.out, HEP.out] at kq
  unfold Jrn.val at kq
  have KQ := Lib.hid kq
  clear kq HAL HF10 HX10 hH
  go_wp2_with fail
  rw [HW11.out]
  clear z0 z1 z2 x0 x1 x2 x3 x4 x5 HW11
  refine KQ.out.mono ?_
  rintro e w12 ⟨rfl, hb12⟩
  have HB12 : Hid (Below w.heap.size w w12) := HB11.out.trans (hb12.mono HB11.out.size)
  have HP12 := Lib.hid (HP11.out.below hb12)
  have HG12 := Lib.hid (HG11.out.below hb12)
  have HQ12 : Hid (QRd w12 w4.heap.size C G r Ac Ag (some ad)) := HQ11.out.far hb12 HZ11.out
  have HZ12 : Hid (w4.heap.size ≤ w12.heap.size) := Nat.le_trans HZ11.out hb12.size
  have HR12 := Lib.hid ((hb12.block _ (lt_of_blk HR11.out)).trans HR11.out)
  have HF12 := Lib.hid ((hb12.block _ (lt_of_blk HF11.out)).trans HF11.out)
  have HJ12 : Hid (JAt w12 W5.heap.size o.j o.A o.j.lines.length o.c) := (hb12.block _ (lt_of_blk HJ11.out)).trans HJ11.out
  have HX12 : Hid (JAt w12 w8.heap.size ⟨999999, o.j.ent, o.j.per, ⟨#[]⟩, o.j.lines, false⟩ A' o.j.lines.length c') := (hb12.block _ (lt_of_blk HX11.out)).trans HX11.out
  have HO12 := Lib.hid (own_kept HO11.out fun k hk _ => hb12.block k hk)
  clear HB11 HP11 HG11 HQ11 HZ11 HR11 HF11 HJ11 HX11 HO11 hb12 KQ
  by_cases hE : E = 0
  rotate_left
  · have tE : (E != 0) = true := by simpa using hE
    clear hE
    go_wp2_with fail
    have tz : (E == E) = true := by simp
    have JR2 := jrx o.j.ent o.j.per HO12.out HLEN.out
    have Q1 := regrown_calls (w := w12) fun w1 hb => rulesPost_any c g b C G l ⟨⟨999999, o.j.ent, o.j.per, ⟨#[]⟩, o.j.lines, false⟩, A', c'⟩ w1 (HP12.out.below hb) (JR2.below hb)
    have Q2 := regrown_calls (w := w12) fun w1 hb => refRPost_any C G r Ac Ag (some ad) cc cg cb w4.heap.size ⟨999999, o.j.ent, o.j.per, ⟨#[]⟩, o.j.lines, false⟩ A' c' w12.heap.size w1 (HQ12.out.far hb HZ12.out) (Nat.le_trans HZ12.out hb.size) (JR2.rd.below hb) hb.size (by have := HLEN.out; show o.j.lines.length ≤ 1000000; omega)
    rw [← HSAME.out] at Q2
    rw [HEP.out] at Q1 Q2
    unfold Jrn.val at Q2
    have Q1 := Lib.hid Q1
    have Q2 := Lib.hid Q2
    obtain ⟨r0, r1, r2⟩ := three_cells HR12.out
    obtain ⟨z0, z1, z2⟩ := three_cells HF12.out
    obtain ⟨x0, x1, x2, x3, x4, x5⟩ := six_cells HX12.out
    replace r0 := cell_regrown r0; replace r1 := cell_regrown r1; replace r2 := cell_regrown r2
    replace z0 := cell_regrown z0; replace z1 := cell_regrown z1; replace z2 := cell_regrown z2
    replace x0 := cell_regrown x0; replace x1 := cell_regrown x1; replace x2 := cell_regrown x2; replace x3 := cell_regrown x3; replace x4 := cell_regrown x4; replace x5 := cell_regrown x5
    clear JR2
    refine wp_region_quiet_below (by kernel_rfl) (by kernel_rfl) ?_
    repeat (go_big_quiet_step (fail))
    go_big_quiet_want
    go_big_quiet_op
    go_big_quiet_call (exact Q1.out _ _)
    repeat (go_big_quiet_step (fail))
    go_big_quiet_want
    go_big_quiet_op
    go_big_quiet_call (exact Q2.out _ _)
    repeat (go_big_quiet_step (fail))
    refine wpQuiet_nil ?_
    intro _ hw'
    obtain ⟨⟨dq, osq⟩, hw''⟩ := hw'
    subst hw''
    have HBE := Lib.hid (HB12.out.trans ((below_regrown w12 dq osq).mono HB12.out.size))
    clear r0 r1 r2 z0 z1 z2 x0 x1 x2 x3 x4 x5 Q1 Q2
    go_wp2_with fail
    go_ret
    exact ⟨rfl, HBE.out⟩
  have tE : (E != 0) = false := by simpa using hE
  have kv := Lib.hid (rulesVoid_any c g b C G l o.j.id w12 HP12.out)
  obtain ⟨r0, r1, r2⟩ := three_cells HR12.out
  obtain ⟨p0, p1, p2, p3, p4, p5⟩ := six_cells HJ12.out
  go_wp2_with fail
  clear r0 r1 r2 p0 p1 p2 p3 p4 p5
  refine kv.out.mono ?_
  rintro e w13 ⟨rfl, hb13⟩
  have HB13 : Hid (Below w.heap.size w w13) := HB12.out.trans (hb13.mono HB12.out.size)
  have HP13 := Lib.hid (HP12.out.below hb13)
  have HG13 := Lib.hid (HG12.out.below hb13)
  have HQ13 : Hid (QRd w13 w4.heap.size C G r Ac Ag (some ad)) := HQ12.out.far hb13 HZ12.out
  have HZ13 : Hid (w4.heap.size ≤ w13.heap.size) := Nat.le_trans HZ12.out hb13.size
  have HR13 := Lib.hid ((hb13.block _ (lt_of_blk HR12.out)).trans HR12.out)
  have HF13 := Lib.hid ((hb13.block _ (lt_of_blk HF12.out)).trans HF12.out)
  have HJ13 : Hid (JAt w13 W5.heap.size o.j o.A o.j.lines.length o.c) := (hb13.block _ (lt_of_blk HJ12.out)).trans HJ12.out
  have HX13 : Hid (JAt w13 w8.heap.size ⟨999999, o.j.ent, o.j.per, ⟨#[]⟩, o.j.lines, false⟩ A' o.j.lines.length c') := (hb13.block _ (lt_of_blk HX12.out)).trans HX12.out
  have HO13 := Lib.hid (own_kept HO12.out fun k hk _ => hb13.block k hk)
  clear HB12 HP12 HG12 HQ12 HZ12 HR12 HF12 HJ12 HX12 HO12 hb13 kv
  subst hE
  obtain ⟨x, hx⟩ : ∃ x, o.j.lines[0]? = some x := ⟨_, List.getElem?_eq_getElem (by have := checkE_two HCHK.out; omega)⟩
  obtain ⟨hret, hp5⟩ := rPost_ret HEP.out hx
  have hlin := HQ13.out.m.lines o HMEM.out
  obtain ⟨al, x', hAl, hal, hx', l0, _, _⟩ := hlin.lin (i := 0) (by have := checkE_two HCHK.out; omega)
  obtain rfl : x' = x := Option.some.inj (hx'.symm.trans hx)
  have HAL := Lib.hid hAl
  have HRET := Lib.hid hret
  have HP5 := Lib.hid hp5
  obtain ⟨V, hV⟩ : ∃ V, rVoidE G (l.map JR.j) o.j.id = V := ⟨_, rfl⟩
  rw [hV]
  have HV := Lib.hid hV
  clear hlin hx hx' hret hp5 hV hAl
  obtain ⟨r0, r1, r2⟩ := three_cells HR13.out
  obtain ⟨x0, x1, x2, x3, x4, x5⟩ := six_cells HX13.out
  obtain ⟨p0, p1, p2, p3, p4, p5⟩ := six_cells HJ13.out
  rw [HAL.out] at p4
  replace r0 := cell_regrown r0; replace r1 := cell_regrown r1; replace r2 := cell_regrown r2
  replace x0 := cell_regrown x0; replace x1 := cell_regrown x1; replace x2 := cell_regrown x2; replace x3 := cell_regrown x3; replace x4 := cell_regrown x4; replace x5 := cell_regrown x5
  have HAD0 : al.add 0 = al := by cases al; simp [Addr.add]
  rw [Nat.zero_mul, HAD0] at l0
  clear HAD0
  replace p4 := cell_regrown p4; replace l0 := cell_regrown l0
  have JR2 := jrx o.j.ent o.j.per HO13.out HLEN.out
  have hlI : (0 : Int) < (o.j.lines.length : Int) := by have := checkE_two HCHK.out; omega
  have Q1 := regrown_calls (w := w13) fun w1 hb => rulesPost_any c g b C G l ⟨⟨999999, o.j.ent, o.j.per, ⟨#[]⟩, o.j.lines, false⟩, A', c'⟩ w1 (HP13.out.below hb) (JR2.below hb)
  rw [HEP.out] at Q1
  have Q1 := Lib.hid Q1
  clear JR2 p0 p1 p2 p3 p5
  go_wp2_with fail
  refine wp_region_stages 12 (by kernel_rfl) (by kernel_rfl) ?_
  simp only [List.take_succ_cons, List.take_zero, List.drop_succ_cons, List.drop_zero]
  repeat (go_big_quiet_step (fail))
  go_big_quiet_want
  go_big_quiet_op
  go_big_quiet_call (exact Q1.out _ _)
  repeat (go_big_quiet_step (fail))
  refine wpQuiet_nil ?_
  intro w14 hw14
  have hb14 : Below w13.heap.size w13 w14 := by
    obtain ⟨p, rfl⟩ := hw14
    exact below_regrown _ _ _
  clear hw14 Q1 r0 r1 r2 x0 x1 x2 x3 x4 x5 p4 l0
  refine stage_run 12 13 (by kernel_rfl) ?_
  simp only [List.take_succ_cons, List.take_zero, List.drop_succ_cons, List.drop_zero]
  have HG14 := Lib.hid (HG13.out.below hb14)
  have HP14 := Lib.hid (HP13.out.below hb14)
  have HR14 := Lib.hid ((hb14.block _ (lt_of_blk HR13.out)).trans HR13.out)
  have HJ14 : Hid (JAt w14 W5.heap.size o.j o.A o.j.lines.length o.c) := (hb14.block _ (lt_of_blk HJ13.out)).trans HJ13.out
  have HX14 : Hid (JAt w14 w8.heap.size ⟨999999, o.j.ent, o.j.per, ⟨#[]⟩, o.j.lines, false⟩ A' o.j.lines.length c') := (hb14.block _ (lt_of_blk HX13.out)).trans HX13.out
  have HO14 := Lib.hid (own_kept HO13.out fun k hk _ => hb14.block k hk)
  have HB14 : Hid (Below w.heap.size w w14) := HB13.out.trans (hb14.mono HB13.out.size)
  have kr := retire_any Bc c vc C x'.acct w14 HG14.out
  rw [HRET.out] at kr
  have KR := Lib.hid kr
  clear kr hb14 HG13 HP13 HR13 HJ13 HX13 HO13 HB13 HQ13 HZ13 HF13
  go_wp2_with fail
  refine KR.out.mono ?_
  rintro e w15 ⟨rfl, hto⟩
  have HP15 := Lib.hid (parts_chart HP14.out HG14.out hto)
  have HR15 := Lib.hid (chart_box HG14.out hto HR14.out (by decide) (by decide))
  have HJ15 : Hid (JAt w15 W5.heap.size o.j o.A o.j.lines.length o.c) := chart_box HG14.out hto HJ14.out (by decide) (by decide)
  have HX15 : Hid (JAt w15 w8.heap.size ⟨999999, o.j.ent, o.j.per, ⟨#[]⟩, o.j.lines, false⟩ A' o.j.lines.length c') := chart_box HG14.out hto HX14.out (by decide) (by decide)
  have HO15 := Lib.hid (chart_lins HG14.out hto HO14.out)
  have HB15 := Lib.hid (chart_bel HG14.out hto HBG.out HB14.out)
  have Q1 := regrown_calls (w := w15) fun w1 hb => rulesPost_any c g b _ G l ⟨⟨999999, o.j.ent, o.j.per, ⟨#[]⟩, o.j.lines, false⟩, A', c'⟩ w1 (HP15.out.below hb) ((jrx o.j.ent o.j.per HO15.out HLEN.out).below hb)
  rw [HP5.out] at Q1
  have Q2 := regrown_calls (w := w15) fun w1 hb => rulesVoid_any c g b _ G l o.j.id w1 (HP15.out.below hb)
  rw [HV.out] at Q2
  have Q1 := Lib.hid Q1
  have Q2 := Lib.hid Q2
  obtain ⟨r0, r1, r2⟩ := three_cells HR15.out
  obtain ⟨x0, x1, x2, x3, x4, x5⟩ := six_cells HX15.out
  obtain ⟨p0, p1, p2, p3, p4, p5⟩ := six_cells HJ15.out
  replace r0 := cell_regrown r0; replace r1 := cell_regrown r1; replace r2 := cell_regrown r2
  replace x0 := cell_regrown x0; replace x1 := cell_regrown x1; replace x2 := cell_regrown x2; replace x3 := cell_regrown x3; replace x4 := cell_regrown x4; replace x5 := cell_regrown x5
  replace p0 := cell_regrown p0
  have tz : (V == V) = true := by simp
  clear hto KR HP14 HG14 HR14 HJ14 HX14 HO14 HB14 p1 p2 p3 p4 p5
  go_wp2_with fail
  show StageAt _ _ _ 13 _ _
  refine stage_below 13 29 (by kernel_rfl) ?_
  simp only [List.take_succ_cons, List.take_zero, List.drop_succ_cons, List.drop_zero]
  repeat (go_big_quiet_step (fail))
  go_big_quiet_want
  go_big_quiet_op
  go_big_quiet_call (exact Q1.out _ _)
  repeat (go_big_quiet_step (fail))
  go_big_quiet_want
  go_big_quiet_op
  go_big_quiet_call (exact Q2.out _ _)
  repeat (go_big_quiet_step (fail))
  refine wpQuiet_nil ?_
  intro w16 hw16
  have HB16 : Hid (Below w.heap.size w w16) := by
    obtain ⟨p, rfl⟩ := hw16
    exact HB15.out.trans ((below_regrown w15 _ _).mono HB15.out.size)
  clear hw16 Q1 Q2 r0 r1 r2 x0 x1 x2 x3 x4 x5 p0
  refine stage_end 29 (by kernel_rfl) ?_
  simp only [List.take_succ_cons, List.take_zero, List.drop_succ_cons, List.drop_zero]
  go_wp2_with fail
  go_ret
  exact ⟨rfl, HB16.out⟩
end Go.Proofs.YtmgncoialppmpaaGreat

