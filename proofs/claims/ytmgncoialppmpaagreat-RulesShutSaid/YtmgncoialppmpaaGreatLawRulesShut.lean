/-
  The walk of the statement RulesShut.
-/
-- WIT0: .agg #[.slice none 0 0, .slice none 0 0, .slice none 0 0]
-- HOLE2: obtain ⟨fuel0, hf0⟩ := h0
-- obtain ⟨A0, A1, A2, n0, n1, n2, c0, c1, c2, l0, l1, l2, rfl, q0⟩ := argWorld hf0
-- exact rulesShut_walk A0 A1 A2 n0 n1 n2 c0 c1 c2 l0 l1 l2 a1 W q0
import Derived.Test.YtmgncoialppmpaaGreatMany34
import Derived.Test.YtmgncoialppmpaaGreatMany35
import Derived.Test.YtmgncoialppmpaaGreatMany36
namespace Go.Proofs.YtmgncoialppmpaaGreat
open Go.RowKit Go.Sort

set_option maxRecDepth 100000 in
set_option maxHeartbeats 8000000 in
theorem rulesShut_walk (A0 A1 A2 : Option Addr) (n0 n1 n2 c0 c1 c2 : Nat) (l0 : List Acc) (l1 : List Trio) (l2 : List JR) (k : Int) (w : World) (h : WorldIn w A0 A1 A2 n0 n1 n2 l0 l1 l2) :
    Calls Tryz.prog 5 #[.agg #[.slice A0 n0 c0, .slice A1 n1 c1, .slice A2 n2 c2], .int .i64 k] w fun e w' => e = .returned (.bool true) ∧ Below w.heap.size w w' := by
  obtain ⟨W1, hW1⟩ : ∃ W1, w.alloc (.cells #[.slice A0 n0 c0, .slice A1 n1 c1, .slice A2 n2 c2] 26) = W1 := ⟨_, rfl⟩
  have hb1 : Below w.heap.size w W1 := by rw [← hW1]; exact (Below.refl _ _).alloc (Nat.le_refl _) _
  have e1 : W1.heap[w.heap.size]? = some (.cells #[.slice A0 n0 c0, .slice A1 n1 c1, .slice A2 n2 c2] 26 (0, 0)) := by rw [← hW1]; exact heap_new w _
  have HW1 := Lib.hid hW1; have HB1 := Lib.hid hb1; have HE1 := Lib.hid e1
  have kl := Lib.hid (light_any (.slice A0 n0 c0) (.slice A1 n1 c1) l2 A2 n2 c2 w.heap.size W1 (h.m.far hb1 (Nat.le_refl _)) hb1.size h.l2)
  have ka := Lib.hid alive7_any
  have HH := Lib.hid h
  obtain ⟨x0, x1, x2⟩ := three_cells e1
  clear hW1 hb1 e1 h
  go_enter Tryz.func5, Tryz.ntmps5
  go_wp2_with fail
  rw [HW1.out]
  refine kl.out.mono ?_
  rintro e w2 ⟨⟨z, rfl⟩, hb2⟩
  have HB2 : Hid (Below w.heap.size w w2) := HB1.out.trans (hb2.mono HB1.out.size)
  have HE2 := Lib.hid ((hb2.block _ (lt_of_blk HE1.out)).trans HE1.out)
  clear hb2 kl x0 x1 x2
  cases z
  · go_wp2_with fail
    refine (ka.out _).mono ?_
    rintro e w3 ⟨rfl, hb3⟩
    have HB3 := Lib.hid (HB2.out.trans (hb3.mono HB2.out.size))
    clear hb3
    go_wp2_with fail
    go_ret
    exact ⟨rfl, HB3.out⟩
  go_wp2_with fail
  refine (ka.out _).mono ?_
  rintro e w3 ⟨rfl, hb3⟩
  have HB3 : Hid (Below w.heap.size w w3) := HB2.out.trans (hb3.mono HB2.out.size)
  have he3 := (hb3.block _ (lt_of_blk HE2.out)).trans HE2.out
  obtain ⟨x0, x1, x2⟩ := three_cells he3
  have km := Lib.hid (make_any l0 l1 l2 A0 A1 A2 n0 n1 n2 c0 c1 c2 w3 ((HH.out.c.far HB3.out (Nat.le_refl _)).wide HB3.out.size) ((HH.out.g.far HB3.out (Nat.le_refl _)).wide HB3.out.size) ((HH.out.m.far HB3.out (Nat.le_refl _)).wide HB3.out.size) HH.out.l0 HH.out.l1 HH.out.l2)
  clear hb3 he3 HE2 HE1 HH ka HB2
  go_wp2_with fail
  refine km.out.mono fun e w4 he => ?_
  obtain ⟨c, g, b, C, G, l, r, Ac, cc, Ag, cg, Ab, cb, rfl, hM⟩ := he
  obtain ⟨Bg, vg, hG4, hBg⟩ := hM.newG
  have hq4 := made_q hM
  have hP4 := hM.parts
  have HB4 : Hid (Below w.heap.size w w4) := HB3.out.trans (hM.bel.mono HB3.out.size)
  have HBG : Hid (w.heap.size ≤ Bg) := Nat.le_trans HB3.out.size hBg
  have HSAME := Lib.hid hM.same
  have HGM := Lib.hid hM.goodM
  have hlenM := hM.lenM
  obtain ⟨W5, hW5⟩ : ∃ W5, (w4.alloc (.cells #[.pointer (some ⟨c, 0, none⟩), .pointer (some ⟨g, 0, none⟩), .pointer (some ⟨b, 0, none⟩)] 35)).alloc (.cells #[.slice Ac C.length cc, .slice Ag G.length cg, .slice Ab r.length cb] 38) = W5 := ⟨_, rfl⟩
  obtain ⟨e5, e6, hb5⟩ := one_of hW5
  have HW5 := Lib.hid hW5; have HE5 := Lib.hid e5; have HE6 := Lib.hid e6
  have HB5 : Hid (Below w.heap.size w W5) := HB4.out.trans (hb5.mono HB4.out.size)
  have HP5 := Lib.hid (hP4.below hb5)
  have HG5 := Lib.hid (hG4.below hb5)
  have HQ5 : Hid (QRd W5 w4.heap.size C G r Ac Ag Ab) := hq4.far hb5 (Nat.le_refl _)
  have HZ5 : Hid (w4.heap.size ≤ W5.heap.size) := hb5.size
  clear hW5 hb5 hP4 hG4 hq4 hM hBg km x0 x1 x2 HB3 HB4
  obtain ⟨y0, y1, y2⟩ := three_cells e5
  obtain ⟨z0, z1, z2⟩ := three_cells e6
  clear e5 e6
  by_cases hr0 : r.length = 0
  · have hl0 : l.length = 0 := by have := congrArg List.length HSAME.out; simpa [hr0] using this
    obtain ⟨Bb, vb, hT⟩ := HP5.out.book
    have kn := Lib.hid (len_any Bb b vb l W5 hT)
    rw [hl0] at kn
    have hz0 : ((r.length : Int) == 0) = true := by rw [hr0]; rfl
    clear hT hl0 z0 z1 y0 y1 hr0
    go_wp2_with fail
    rw [HW5.out]
    refine kn.out.mono ?_
    rintro e w6 ⟨rfl, rfl⟩
    go_wp2_with fail
    go_ret
    exact ⟨rfl, HB5.out⟩
  obtain ⟨i, hi, hidx⟩ := idxW_any k (n := r.length) (by omega) (by omega)
  obtain ⟨ad, o, hA, hadb, hx, p1, p2, p3, p4, p5, p6⟩ := HQ5.out.m.rd.jr hi
  subst hA
  have hne0 : ((r.length : Int) == 0) = false := by rw [beq_eq_false_iff_ne]; omega
  have hiI : (i : Int) < (r.length : Int) := by omega
  have HMEM := Lib.hid (List.mem_of_getElem? hx)
  clear hx y0 y1 y2 hr0
  go_wp2_with fail
  rw [HW5.out]
  have HAL : Hid (∀ a v, W5.cell? a = some v → ∀ o, (W5.alloc o).cell? a = some v) := fun a v hv o => (((Below.refl W5.heap.size W5).alloc (Nat.le_refl _) o).cell (block_of_cell hv)).trans hv
  obtain ⟨W6, hW6⟩ : ∃ W6, (W5.alloc (.cells #[.int .i64 o.j.id, .int .i64 o.j.ent, .int .i64 o.j.per, .string o.j.ref, .slice o.A o.j.lines.length o.c, .bool o.j.void] 29)).drew = W6 := ⟨_, rfl⟩
  have hb56 : Below W5.heap.size W5 W6 := by rw [← hW6]; exact ((Below.refl _ _).alloc (Nat.le_refl _) _).drew
  have HB6 : Hid (Below w.heap.size w W6) := HB5.out.trans (hb56.mono HB5.out.size)
  have HP6 := Lib.hid (HP5.out.below hb56)
  have HG6 := Lib.hid (HG5.out.below hb56)
  have HQ6 : Hid (QRd W6 w4.heap.size C G r Ac Ag (some ad)) := HQ5.out.far hb56 HZ5.out
  have HZ6 : Hid (w4.heap.size ≤ W6.heap.size) := Nat.le_trans HZ5.out hb56.size
  have HR6 := Lib.hid ((hb56.block _ (lt_of_blk HE5.out)).trans HE5.out)
  have HF6 := Lib.hid ((hb56.block _ (lt_of_blk HE6.out)).trans HE6.out)
  have HJ6 : Hid (JAt W6 W5.heap.size o.j o.A o.j.lines.length o.c) := by rw [← hW6]; exact heap_new W5 _
  have HW6 := Lib.hid hW6
  have HOLD := Lib.hid (oldJ_self (M := l.map JR.j) (j := o.j) (by rw [HSAME.out]; exact HGM.out.rise) (by rw [HSAME.out]; exact List.mem_map.2 ⟨o, HMEM.out, rfl⟩))
  have HCHK : Hid (checkE o.j = 0) := HGM.out.ok o.j (List.mem_map.2 ⟨o, HMEM.out, rfl⟩)
  have kv := refRVoid_any C G r Ac Ag (some ad) cc cg cb w4.heap.size o.j.id W6 HQ6.out HZ6.out
  rw [← HSAME.out] at kv
  have KV := Lib.hid kv
  have zz0 := HAL.out _ _ z0; have zz1 := HAL.out _ _ z1; have zz2 := HAL.out _ _ z2
  have q1 := HAL.out _ _ p1; have q2 := HAL.out _ _ p2; have q3 := HAL.out _ _ p3; have q4 := HAL.out _ _ p4; have q5 := HAL.out _ _ p5; have q6 := HAL.out _ _ p6
  clear hW6 hb56 HP5 HG5 HQ5 HZ5 HE5 HE6 HB5 hadb HW5 kv
  go_region
  go_wp2_with fail
  rw [HW6.out]
  clear zz0 zz1 zz2 q1 q2 q3 q4 q5 q6 p1 p2 p3 p4 p5 p6 z0 z1 z2 hne0 hiI hidx
  refine KV.out.mono ?_
  rintro e w7 ⟨rfl, hb7⟩
  have HB67 := Lib.hid hb7
  have HB7 : Hid (Below w.heap.size w w7) := HB6.out.trans (hb7.mono HB6.out.size)
  have HP7 := Lib.hid (HP6.out.below hb7)
  have HG7 := Lib.hid (HG6.out.below hb7)
  have HQ7 : Hid (QRd w7 w4.heap.size C G r Ac Ag (some ad)) := HQ6.out.far hb7 HZ6.out
  have HZ7 : Hid (w4.heap.size ≤ w7.heap.size) := Nat.le_trans HZ6.out hb7.size
  have HR7 := Lib.hid ((hb7.block _ (lt_of_blk HR6.out)).trans HR6.out)
  have HF7 := Lib.hid ((hb7.block _ (lt_of_blk HF6.out)).trans HF6.out)
  have HJ7 : Hid (JAt w7 W5.heap.size o.j o.A o.j.lines.length o.c) := (hb7.block _ (lt_of_blk HJ6.out)).trans HJ6.out
  clear hb7 HP6 HG6 HQ6 HZ6 HR6 HF6 HJ6 HB6 HB67 KV HW6 HAL
  obtain ⟨r0, r1, r2⟩ := three_cells HR7.out
  obtain ⟨z0, z1, z2⟩ := three_cells HF7.out
  obtain ⟨p0, p1, p2, p3, p4, p5⟩ := six_cells HJ7.out
  by_cases hV : rVoidE G (l.map JR.j) o.j.id = 0
  rotate_left
  · have ht : (rVoidE G (l.map JR.j) o.j.id != 0) = true := by simpa using hV
    have tz : (rVoidE G (l.map JR.j) o.j.id == rVoidE G (l.map JR.j) o.j.id) = true := by simp
    replace r0 := cell_regrown r0; replace r1 := cell_regrown r1; replace r2 := cell_regrown r2
    replace z0 := cell_regrown z0; replace z1 := cell_regrown z1; replace z2 := cell_regrown z2
    replace p0 := cell_regrown p0
    have Q1 := Lib.hid (regrown_calls (w := w7) fun w1 hb => rulesVoid_any c g b C G l o.j.id w1 (HP7.out.below hb))
    have Q2 := regrown_calls (w := w7) fun w1 hb => refRVoid_any C G r Ac Ag (some ad) cc cg cb w4.heap.size o.j.id w1 (HQ7.out.far hb HZ7.out) (Nat.le_trans HZ7.out hb.size)
    rw [← HSAME.out] at Q2
    have Q2 := Lib.hid Q2
    clear hV p1 p2 p3 p4 p5
    generalize rVoidE G (l.map JR.j) o.j.id = E at *
    go_wp2_with fail
    refine wp_region_quiet_below (by kernel_rfl) (by kernel_rfl) ?_
    repeat (go_big_quiet_step (fail))
    go_big_quiet_want
    go_big_quiet_op
    go_big_quiet_call (exact Q1.out _ _)
    repeat (go_big_quiet_step (fail))
    go_big_quiet_want
    go_big_quiet_op
    go_big_quiet_call (exact Q2.out _ _)
    repeat (go_big_quiet_step (fail))
    refine wpQuiet_nil ?_
    intro _ hw'
    obtain ⟨⟨dq, osq⟩, hw''⟩ := hw'
    subst hw''
    have HB8 := Lib.hid (HB7.out.trans ((below_regrown w7 dq osq).mono HB7.out.size))
    clear r0 r1 r2 z0 z1 z2 p0 Q1 Q2
    go_wp2_with fail
    go_ret
    exact ⟨rfl, HB8.out⟩
  have ht : (rVoidE G (l.map JR.j) o.j.id != 0) = false := by rw [hV]; rfl
  obtain ⟨hlv, hmay⟩ := rVoid_open hV
  rw [HOLD.out] at hmay
  have hlin := HQ7.out.m.lines o HMEM.out
  have hlen := (checkE_len HCHK.out).1
  have kc := Lib.hid (refCopy_any o.j o.A o.j.lines.length o.c w4.heap.size w7 hlin HZ7.out (by omega))
  unfold Jrn.val at kc
  have HV := Lib.hid hV; have HLV := Lib.hid hlv; have HMAY := Lib.hid hmay; have HLEN := Lib.hid hlen
  clear hlv hmay hlin hlen hV r0 r1 r2 z0 z1 z2
  go_wp2_with fail
  refine kc.out.mono ?_
  rintro e w8 ⟨A', c', rfl, hown, hb8⟩
  obtain ⟨W9, hW9⟩ : ∃ W9, w8.alloc (.cells #[.int .i64 999999, .int .i64 o.j.ent, .int .i64 o.j.per, .string ⟨#[]⟩, .slice A' o.j.lines.length c', .bool o.j.void] 29) = W9 := ⟨_, rfl⟩
  have hb9 : Below w8.heap.size w8 W9 := by rw [← hW9]; exact (Below.refl _ _).alloc (Nat.le_refl _) _
  have hb79 : Below w7.heap.size w7 W9 := hb8.trans (hb9.mono hb8.size)
  have HX9 : Hid (JAt W9 w8.heap.size ⟨999999, o.j.ent, o.j.per, ⟨#[]⟩, o.j.lines, o.j.void⟩ A' o.j.lines.length c') := by rw [← hW9]; exact heap_new w8 _
  have HB9 : Hid (Below w.heap.size w W9) := HB7.out.trans (hb79.mono HB7.out.size)
  have HP9 := Lib.hid (HP7.out.below hb79)
  have HG9 := Lib.hid (HG7.out.below hb79)
  have HR9 := Lib.hid ((hb79.block _ (lt_of_blk HR7.out)).trans HR7.out)
  have HJ9 : Hid (JAt W9 W5.heap.size o.j o.A o.j.lines.length o.c) := (hb79.block _ (lt_of_blk HJ7.out)).trans HJ7.out
  have HO9 := Lib.hid (own_kept hown fun k hk _ => hb9.block k hk)
  have kp := Lib.hid (rulesPost_any c g b C G l ⟨⟨999999, o.j.ent, o.j.per, ⟨#[]⟩, o.j.lines, o.j.void⟩, A', c'⟩ W9 HP9.out ⟨rd_of_own HO9.out, own_nil HO9.out, by have := HLEN.out; show o.j.lines.length ≤ 1000; omega, by show 0 ≤ maxLen; unfold maxLen; omega⟩)
  have HR8 := Lib.hid ((hb8.block _ (lt_of_blk HR7.out)).trans HR7.out)
  have HAL : Hid (∀ a v, w8.cell? a = some v → ∀ o, (w8.alloc o).cell? a = some v) := fun a v hv o => (((Below.refl w8.heap.size w8).alloc (Nat.le_refl _) o).cell (block_of_cell hv)).trans hv
  obtain ⟨r0, r1, r2⟩ := three_cells HR8.out
  replace r0 := HAL.out _ _ r0; replace r1 := HAL.out _ _ r1; replace r2 := HAL.out _ _ r2
  have HW9 := Lib.hid hW9
  clear kc p0 p1 p2 p3 p4 p5 hW9 hb9 hb79 hown hb8 HR8 HAL HP7 HG7 HQ7 HZ7 HR7 HF7 HJ7 HB7
  go_wp2_with fail
  rw [HW9.out]
  clear r0 r1 r2
  refine kp.out.mono ?_
  rintro e w10 ⟨rfl, hb10⟩
  dsimp only
  have HB10 : Hid (Below w.heap.size w w10) := HB9.out.trans (hb10.mono HB9.out.size)
  have HP10 := Lib.hid (HP9.out.below hb10)
  have HG10 := Lib.hid (HG9.out.below hb10)
  have HR10 := Lib.hid ((hb10.block _ (lt_of_blk HR9.out)).trans HR9.out)
  have HJ10 : Hid (JAt w10 W5.heap.size o.j o.A o.j.lines.length o.c) := (hb10.block _ (lt_of_blk HJ9.out)).trans HJ9.out
  have HX10 : Hid (JAt w10 w8.heap.size ⟨999999, o.j.ent, o.j.per, ⟨#[]⟩, o.j.lines, o.j.void⟩ A' o.j.lines.length c') := (hb10.block _ (lt_of_blk HX9.out)).trans HX9.out
  have HO10 := Lib.hid (own_kept HO9.out fun k hk _ => hb10.block k hk)
  clear hb10 kp HB9 HP9 HG9 HR9 HJ9 HX9 HO9 HW9
  obtain ⟨E1, hE1⟩ : ∃ E1, rPostE C G (l.map JR.j) ⟨999999, o.j.ent, o.j.per, ⟨#[]⟩, o.j.lines, o.j.void⟩ = E1 := ⟨_, rfl⟩
  rw [hE1]
  have HE1 := Lib.hid hE1
  clear hE1
  have hsh := shut_one HG10.out.good HMAY.out
  have kt := set_any Bg g vg G o.j.ent o.j.per 1 w10 HG10.out
  rw [hsh.1] at kt
  have KT := Lib.hid kt
  have HSH := Lib.hid hsh.2
  clear kt hsh
  obtain ⟨r0, r1, r2⟩ := three_cells HR10.out
  obtain ⟨p0, p1, p2, p3, p4, p5⟩ := six_cells HJ10.out
  go_wp2_with fail
  refine KT.out.mono ?_
  rintro e w11 ⟨rfl, hto⟩
  have HP11 := parts_gates HP10.out HG10.out hto
  have HR11 := Lib.hid (gates_box HG10.out hto HR10.out (by decide) (by decide))
  have HJ11 : Hid (JAt w11 W5.heap.size o.j o.A o.j.lines.length o.c) := gates_box HG10.out hto HJ10.out (by decide) (by decide)
  have HX11 : Hid (JAt w11 w8.heap.size ⟨999999, o.j.ent, o.j.per, ⟨#[]⟩, o.j.lines, o.j.void⟩ A' o.j.lines.length c') := gates_box HG10.out hto HX10.out (by decide) (by decide)
  have HO11 := Lib.hid (gates_lins HG10.out hto HO10.out)
  have HB11 := Lib.hid (gates_bel HG10.out hto HBG.out HB10.out)
  obtain ⟨v1, hk1, _, _⟩ := hto
  have HK1 := Lib.hid hk1
  have kv1 := rulesVoid_any c g b C _ l o.j.id w11 HP11
  rw [rVoid_closed HLV.out (by rw [HOLD.out]; exact HSH.out)] at kv1
  have KV1 := Lib.hid kv1
  have HP11 := Lib.hid HP11
  clear kv1 KT hk1 r0 r1 r2 p0 p1 p2 p3 p4 p5 HP10 HR10 HJ10 HX10 HO10 HB10
  obtain ⟨r0, r1, r2⟩ := three_cells HR11.out
  obtain ⟨p0, p1, p2, p3, p4, p5⟩ := six_cells HJ11.out
  by_cases hE : E1 = 0
  · have tE : (E1 == 0) = true := by simpa using hE
    go_wp2_with fail
    refine KV1.out.mono ?_
    rintro e w12 ⟨rfl, hb12⟩
    have HP12 := Lib.hid (HP11.out.below hb12)
    have HK12 := Lib.hid (HK1.out.below hb12)
    have HR12 := Lib.hid ((hb12.block _ (lt_of_blk HR11.out)).trans HR11.out)
    have HJ12 : Hid (JAt w12 W5.heap.size o.j o.A o.j.lines.length o.c) := (hb12.block _ (lt_of_blk HJ11.out)).trans HJ11.out
    have HX12 : Hid (JAt w12 w8.heap.size ⟨999999, o.j.ent, o.j.per, ⟨#[]⟩, o.j.lines, o.j.void⟩ A' o.j.lines.length c') := (hb12.block _ (lt_of_blk HX11.out)).trans HX11.out
    have HO12 := Lib.hid (own_kept HO11.out fun k hk _ => hb12.block k hk)
    have HB12 : Hid (Below w.heap.size w w12) := HB11.out.trans (hb12.mono HB11.out.size)
    have kp2 := rulesPost_any c g b C _ l ⟨⟨999999, o.j.ent, o.j.per, ⟨#[]⟩, o.j.lines, o.j.void⟩, A', c'⟩ w12 HP12.out ⟨rd_of_own HO12.out, own_nil HO12.out, by have := HLEN.out; show o.j.lines.length ≤ 1000; omega, by show 0 ≤ maxLen; unfold maxLen; omega⟩
    rw [rPost_closed (HE1.out.trans hE) HSH.out] at kp2
    have KP2 := Lib.hid kp2
    clear kp2 hb12 KV1 r0 r1 r2 p0 p1 p2 p3 p4 p5 hE
    obtain ⟨r0, r1, r2⟩ := three_cells HR12.out
    obtain ⟨x0, x1, x2, x3, x4, x5⟩ := six_cells HX12.out
    go_wp2_with fail
    refine KP2.out.mono ?_
    rintro e w13 ⟨rfl, hb13⟩
    have HPZ := Lib.hid (HP12.out.below hb13)
    have HKZ := Lib.hid (HK12.out.below hb13)
    have HRZ := Lib.hid ((hb13.block _ (lt_of_blk HR12.out)).trans HR12.out)
    have HJZ : Hid (JAt w13 W5.heap.size o.j o.A o.j.lines.length o.c) := (hb13.block _ (lt_of_blk HJ12.out)).trans HJ12.out
    have HXZ : Hid (JAt w13 w8.heap.size ⟨999999, o.j.ent, o.j.per, ⟨#[]⟩, o.j.lines, o.j.void⟩ A' o.j.lines.length c') := (hb13.block _ (lt_of_blk HX12.out)).trans HX12.out
    have HOZ := Lib.hid (own_kept HO12.out fun k hk _ => hb13.block k hk)
    have HBZ : Hid (Below w.heap.size w w13) := HB12.out.trans (hb13.mono HB12.out.size)
    clear hb13 KP2 r0 r1 r2 x0 x1 x2 x3 x4 x5 HP12 HK12 HR12 HJ12 HX12 HO12 HB12 HP11 HR11 HJ11 HX11 HO11 HB11
    obtain ⟨hse, hmg⟩ := open_again HG10.out.good HK1.out.good HMAY.out
    have kt := set_any Bg g v1 (setT G o.j.ent o.j.per 1) o.j.ent o.j.per 0 w13 HKZ.out
    rw [hse] at kt
    have KT := Lib.hid kt
    have HMG := Lib.hid hmg
    clear kt hse hmg
    obtain ⟨r0, r1, r2⟩ := three_cells HRZ.out
    obtain ⟨p0, p1, p2, p3, p4, p5⟩ := six_cells HJZ.out
    go_wp2_with fail
    refine KT.out.mono ?_
    rintro e w14 ⟨rfl, hto2⟩
    have HP14 := Lib.hid (parts_gates HPZ.out HKZ.out hto2)
    have HR14 := Lib.hid (gates_box HKZ.out hto2 HRZ.out (by decide) (by decide))
    have HJ14 : Hid (JAt w14 W5.heap.size o.j o.A o.j.lines.length o.c) := gates_box HKZ.out hto2 HJZ.out (by decide) (by decide)
    have HX14 : Hid (JAt w14 w8.heap.size ⟨999999, o.j.ent, o.j.per, ⟨#[]⟩, o.j.lines, o.j.void⟩ A' o.j.lines.length c') := gates_box HKZ.out hto2 HXZ.out (by decide) (by decide)
    have HO14 := Lib.hid (gates_lins HKZ.out hto2 HOZ.out)
    have HB14 := Lib.hid (gates_bel HKZ.out hto2 HBG.out HBZ.out)
    have kv2 := rulesVoid_any c g b C _ l o.j.id w14 HP14.out
    rw [rVoid_gates HMG.out, HV.out] at kv2
    have KV2 := Lib.hid kv2
    clear kv2 hto2 KT r0 r1 r2 p0 p1 p2 p3 p4 p5
    obtain ⟨r0, r1, r2⟩ := three_cells HR14.out
    obtain ⟨p0, p1, p2, p3, p4, p5⟩ := six_cells HJ14.out
    go_wp2_with fail
    refine KV2.out.mono ?_
    rintro e w15 ⟨rfl, hb15⟩
    have HP15 := Lib.hid (HP14.out.below hb15)
    have HR15 := Lib.hid ((hb15.block _ (lt_of_blk HR14.out)).trans HR14.out)
    have HX15 : Hid (JAt w15 w8.heap.size ⟨999999, o.j.ent, o.j.per, ⟨#[]⟩, o.j.lines, o.j.void⟩ A' o.j.lines.length c') := (hb15.block _ (lt_of_blk HX14.out)).trans HX14.out
    have HO15 := Lib.hid (own_kept HO14.out fun k hk _ => hb15.block k hk)
    have HB15 : Hid (Below w.heap.size w w15) := HB14.out.trans (hb15.mono HB14.out.size)
    have kp3 := rulesPost_any c g b C _ l ⟨⟨999999, o.j.ent, o.j.per, ⟨#[]⟩, o.j.lines, o.j.void⟩, A', c'⟩ w15 HP15.out ⟨rd_of_own HO15.out, own_nil HO15.out, by have := HLEN.out; show o.j.lines.length ≤ 1000; omega, by show 0 ≤ maxLen; unfold maxLen; omega⟩
    rw [rPost_gates HMG.out, HE1.out] at kp3
    have KP3 := Lib.hid kp3
    clear kp3 hb15 KV2 r0 r1 r2 p0 p1 p2 p3 p4 p5
    obtain ⟨r0, r1, r2⟩ := three_cells HR15.out
    obtain ⟨x0, x1, x2, x3, x4, x5⟩ := six_cells HX15.out
    have tz : (E1 == E1) = true := by simp
    go_wp2_with fail
    refine KP3.out.mono ?_
    rintro e w16 ⟨rfl, hb16⟩
    have HB16 := Lib.hid (HB15.out.trans (hb16.mono HB15.out.size))
    clear hb16 KP3 r0 r1 r2 x0 x1 x2 x3 x4 x5
    go_wp2_with fail
    go_ret
    exact ⟨rfl, HB16.out⟩
  · have tE : (E1 == 0) = false := by simpa using hE
    clear hE
    go_wp2_with fail
    refine KV1.out.mono ?_
    rintro e w12 ⟨rfl, hb12⟩
    have HPZ := Lib.hid (HP11.out.below hb12)
    have HKZ := Lib.hid (HK1.out.below hb12)
    have HRZ := Lib.hid ((hb12.block _ (lt_of_blk HR11.out)).trans HR11.out)
    have HJZ : Hid (JAt w12 W5.heap.size o.j o.A o.j.lines.length o.c) := (hb12.block _ (lt_of_blk HJ11.out)).trans HJ11.out
    have HXZ : Hid (JAt w12 w8.heap.size ⟨999999, o.j.ent, o.j.per, ⟨#[]⟩, o.j.lines, o.j.void⟩ A' o.j.lines.length c') := (hb12.block _ (lt_of_blk HX11.out)).trans HX11.out
    have HOZ := Lib.hid (own_kept HO11.out fun k hk _ => hb12.block k hk)
    have HBZ : Hid (Below w.heap.size w w12) := HB11.out.trans (hb12.mono HB11.out.size)
    clear hb12 KV1 r0 r1 r2 p0 p1 p2 p3 p4 p5 HP11 HR11 HJ11 HX11 HO11 HB11
    obtain ⟨hse, hmg⟩ := open_again HG10.out.good HK1.out.good HMAY.out
    have kt := set_any Bg g v1 (setT G o.j.ent o.j.per 1) o.j.ent o.j.per 0 w12 HKZ.out
    rw [hse] at kt
    have KT := Lib.hid kt
    have HMG := Lib.hid hmg
    clear kt hse hmg
    obtain ⟨r0, r1, r2⟩ := three_cells HRZ.out
    obtain ⟨p0, p1, p2, p3, p4, p5⟩ := six_cells HJZ.out
    go_wp2_with fail
    refine KT.out.mono ?_
    rintro e w14 ⟨rfl, hto2⟩
    have HP14 := Lib.hid (parts_gates HPZ.out HKZ.out hto2)
    have HR14 := Lib.hid (gates_box HKZ.out hto2 HRZ.out (by decide) (by decide))
    have HJ14 : Hid (JAt w14 W5.heap.size o.j o.A o.j.lines.length o.c) := gates_box HKZ.out hto2 HJZ.out (by decide) (by decide)
    have HX14 : Hid (JAt w14 w8.heap.size ⟨999999, o.j.ent, o.j.per, ⟨#[]⟩, o.j.lines, o.j.void⟩ A' o.j.lines.length c') := gates_box HKZ.out hto2 HXZ.out (by decide) (by decide)
    have HO14 := Lib.hid (gates_lins HKZ.out hto2 HOZ.out)
    have HB14 := Lib.hid (gates_bel HKZ.out hto2 HBG.out HBZ.out)
    have kv2 := rulesVoid_any c g b C _ l o.j.id w14 HP14.out
    rw [rVoid_gates HMG.out, HV.out] at kv2
    have KV2 := Lib.hid kv2
    clear kv2 hto2 KT r0 r1 r2 p0 p1 p2 p3 p4 p5
    obtain ⟨r0, r1, r2⟩ := three_cells HR14.out
    obtain ⟨p0, p1, p2, p3, p4, p5⟩ := six_cells HJ14.out
    go_wp2_with fail
    refine KV2.out.mono ?_
    rintro e w15 ⟨rfl, hb15⟩
    have HP15 := Lib.hid (HP14.out.below hb15)
    have HR15 := Lib.hid ((hb15.block _ (lt_of_blk HR14.out)).trans HR14.out)
    have HX15 : Hid (JAt w15 w8.heap.size ⟨999999, o.j.ent, o.j.per, ⟨#[]⟩, o.j.lines, o.j.void⟩ A' o.j.lines.length c') := (hb15.block _ (lt_of_blk HX14.out)).trans HX14.out
    have HO15 := Lib.hid (own_kept HO14.out fun k hk _ => hb15.block k hk)
    have HB15 : Hid (Below w.heap.size w w15) := HB14.out.trans (hb15.mono HB14.out.size)
    have kp3 := rulesPost_any c g b C _ l ⟨⟨999999, o.j.ent, o.j.per, ⟨#[]⟩, o.j.lines, o.j.void⟩, A', c'⟩ w15 HP15.out ⟨rd_of_own HO15.out, own_nil HO15.out, by have := HLEN.out; show o.j.lines.length ≤ 1000; omega, by show 0 ≤ maxLen; unfold maxLen; omega⟩
    rw [rPost_gates HMG.out, HE1.out] at kp3
    have KP3 := Lib.hid kp3
    clear kp3 hb15 KV2 r0 r1 r2 p0 p1 p2 p3 p4 p5
    obtain ⟨r0, r1, r2⟩ := three_cells HR15.out
    obtain ⟨x0, x1, x2, x3, x4, x5⟩ := six_cells HX15.out
    have tz : (E1 == E1) = true := by simp
    go_wp2_with fail
    refine KP3.out.mono ?_
    rintro e w16 ⟨rfl, hb16⟩
    have HB16 := Lib.hid (HB15.out.trans (hb16.mono HB15.out.size))
    clear hb16 KP3 r0 r1 r2 x0 x1 x2 x3 x4 x5
    go_wp2_with fail
    go_ret
    exact ⟨rfl, HB16.out⟩
end Go.Proofs.YtmgncoialppmpaaGreat

