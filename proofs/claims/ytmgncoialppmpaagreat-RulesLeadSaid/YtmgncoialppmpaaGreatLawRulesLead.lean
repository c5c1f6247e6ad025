/-
  The walk of the statement RulesLead.
-/
-- WIT0: .agg #[.slice none 0 0, .slice none 0 0, .slice none 0 0]
-- WIT1: .agg #[.int .i64 0, .int .i64 0, .int .i64 0, .string ByteArray.empty, .slice none 0 0, .bool false]
-- HOLE2: obtain ⟨fuel0, hf0⟩ := h0
-- obtain ⟨A0, A1, A2, n0, n1, n2, c0, c1, c2, l0, l1, l2, rfl, q0⟩ := argWorld hf0
-- obtain ⟨fuel1, hf1⟩ := h1
-- obtain ⟨jj, B1, m1, d1, rfl, q1, s1, t1⟩ := argJrn hf1
-- obtain rfl : jj.lines.length = m1 := q1.rd.lins_len
-- exact rulesLead_walk A0 A1 A2 n0 n1 n2 c0 c1 c2 l0 l1 l2 ⟨jj, B1, d1⟩ a2 W q0 q1.rd q1.nil q1.len t1
import Derived.Test.YtmgncoialppmpaaGreatMany34
import Derived.Test.YtmgncoialppmpaaGreatMany35
import Derived.Test.YtmgncoialppmpaaGreatMany16
import Derived.Deep.RegionHeld3
namespace Go.Proofs.YtmgncoialppmpaaGreat
open Go.RowKit Go.Sort

theorem box_on {w w' : World} {k : Nat} {o : Obj} (h : w.heap[k]? = some o) (hb : Below w.heap.size w w') : w'.heap[k]? = some o := (hb.block _ (lt_of_blk h)).trans h
set_option maxRecDepth 100000 in
set_option maxHeartbeats 32000000 in
theorem rulesLead_walk (A0 A1 A2 : Option Addr) (n0 n1 n2 c0 c1 c2 : Nat) (l0 : List Acc) (l1 : List Trio) (l2 : List JR) (j : JR) (id : Int) (w : World) (h : WorldIn w A0 A1 A2 n0 n1 n2 l0 l1 l2) (hj : Rd w w.heap.size 3 j.A j.j.lines.length (lins j.j.lines)) (hnil : j.A = none → j.c = 0) (hlen : j.j.lines.length ≤ maxLen) (href : j.j.ref.size ≤ maxLen) :
    Calls Tryz.prog 4 #[.agg #[.slice A0 n0 c0, .slice A1 n1 c1, .slice A2 n2 c2], .agg #[.int .i64 j.j.id, .int .i64 j.j.ent, .int .i64 j.j.per, .string j.j.ref, .slice j.A j.j.lines.length j.c, .bool j.j.void], .int .i64 id] w fun e w' => e = .returned (.bool true) ∧ Below w.heap.size w w' := by
  obtain ⟨W1, hW1⟩ : ∃ W1, (w.alloc (.cells #[.slice A0 n0 c0, .slice A1 n1 c1, .slice A2 n2 c2] 26)).alloc (.cells #[.int .i64 j.j.id, .int .i64 j.j.ent, .int .i64 j.j.per, .string j.j.ref, .slice j.A j.j.lines.length j.c, .bool j.j.void] 29) = W1 := ⟨_, rfl⟩
  obtain ⟨e1, e2, hb1⟩ := one_of hW1
  have HW1 := Lib.hid hW1; have HB1 := Lib.hid hb1; have HE1 := Lib.hid e1
  have HJ1 : Hid (W1.heap[w.heap.size + 1]? = some (.cells #[.int .i64 j.j.id, .int .i64 j.j.ent, .int .i64 j.j.per, .string j.j.ref, .slice j.A j.j.lines.length j.c, .bool j.j.void] 29 (0, 0))) := e2
  have kl := Lib.hid (light_any (.slice A0 n0 c0) (.slice A1 n1 c1) l2 A2 n2 c2 w.heap.size W1 (h.m.far hb1 (Nat.le_refl _)) hb1.size h.l2)
  have ka := Lib.hid alive7_any
  have HH := Lib.hid h
  have HRD : Hid (Rd w w.heap.size 3 j.A j.j.lines.length (lins j.j.lines)) := hj
  have HNIL := Lib.hid hnil
  obtain ⟨x0, x1, x2⟩ := three_cells e1
  unfold maxLen at hlen href
  clear hW1 hb1 e1 e2 h hj hnil
  go_enter Tryz.func4, Tryz.ntmps4
  go_wp2_with fail
  rw [HW1.out]
  refine kl.out.mono ?_
  rintro e w2 ⟨⟨z, rfl⟩, hb2⟩
  have HB2 : Hid (Below w.heap.size w w2) := HB1.out.trans (hb2.mono HB1.out.size)
  have HE2 := Lib.hid ((hb2.block _ (lt_of_blk HE1.out)).trans HE1.out)
  have HJ2 := Lib.hid ((hb2.block _ (lt_of_blk HJ1.out)).trans HJ1.out)
  clear hb2 kl x0 x1 x2 HE1 HJ1
  cases z
  · clear hlen href
    go_wp2_with fail
    refine (ka.out _).mono ?_
    rintro e w3 ⟨rfl, hb3⟩
    have HB3 := Lib.hid (HB2.out.trans (hb3.mono HB2.out.size))
    clear hb3
    go_wp2_with fail
    go_ret
    exact ⟨rfl, HB3.out⟩
  obtain ⟨b0, b1, b2, b3, b4, b5⟩ := six_cells HJ2.out
  by_cases h30 : j.j.lines.length ≤ 30
  rotate_left
  · have h30I : (j.j.lines.length : Int) > 30 := by omega
    clear h30 hlen href
    go_wp2_with fail
    refine (ka.out _).mono ?_
    rintro e w3 ⟨rfl, hb3⟩
    have HB3 := Lib.hid (HB2.out.trans (hb3.mono HB2.out.size))
    clear hb3
    go_wp2_with fail
    go_ret
    exact ⟨rfl, HB3.out⟩
  have h30I : ¬ (j.j.lines.length : Int) > 30 := by omega
  by_cases h60 : j.j.ref.size ≤ 60
  rotate_left
  · have h60I : (j.j.ref.size : Int) > 60 := by omega
    clear h60 hlen href
    go_wp2_with fail
    refine (ka.out _).mono ?_
    rintro e w3 ⟨rfl, hb3⟩
    have HB3 := Lib.hid (HB2.out.trans (hb3.mono HB2.out.size))
    clear hb3
    go_wp2_with fail
    go_ret
    exact ⟨rfl, HB3.out⟩
  have h60I : ¬ (j.j.ref.size : Int) > 60 := by omega
  have HREF : Hid (j.j.ref.size ≤ 60) := h60
  have HLEN : Hid (j.j.lines.length ≤ 30) := h30
  clear hlen href h30 h60
  go_wp2_with fail
  refine (ka.out _).mono ?_
  rintro e w3 ⟨rfl, hb3⟩
  have HB3 : Hid (Below w.heap.size w w3) := HB2.out.trans (hb3.mono HB2.out.size)
  have he3 := (hb3.block _ (lt_of_blk HE2.out)).trans HE2.out
  have HJ3 := Lib.hid ((hb3.block _ (lt_of_blk HJ2.out)).trans HJ2.out)
  obtain ⟨x0, x1, x2⟩ := three_cells he3
  have km := Lib.hid (make_any l0 l1 l2 A0 A1 A2 n0 n1 n2 c0 c1 c2 w3 ((HH.out.c.far HB3.out (Nat.le_refl _)).wide HB3.out.size) ((HH.out.g.far HB3.out (Nat.le_refl _)).wide HB3.out.size) ((HH.out.m.far HB3.out (Nat.le_refl _)).wide HB3.out.size) HH.out.l0 HH.out.l1 HH.out.l2)
  clear hb3 he3 HE2 HJ2 HH ka HB2 b0 b1 b2 b3 b4 b5
  go_wp2_with fail
  refine km.out.mono fun e w4 he => ?_
  obtain ⟨c, g, b, C, G, l, r, Ac, cc, Ag, cg, Ab, cb, rfl, hM⟩ := he
  have hq4 := made_q hM
  have hP4 := hM.parts
  have HB4 : Hid (Below w.heap.size w w4) := HB3.out.trans (hM.bel.mono HB3.out.size)
  have HSAME := Lib.hid hM.same
  have HGM := Lib.hid hM.goodM
  have hlenM := hM.lenM
  have HJ4 := Lib.hid ((hM.bel.block _ (lt_of_blk HJ3.out)).trans HJ3.out)
  obtain ⟨W5, hW5⟩ : ∃ W5, (w4.alloc (.cells #[.pointer (some ⟨c, 0, none⟩), .pointer (some ⟨g, 0, none⟩), .pointer (some ⟨b, 0, none⟩)] 35)).alloc (.cells #[.slice Ac C.length cc, .slice Ag G.length cg, .slice Ab r.length cb] 38) = W5 := ⟨_, rfl⟩
  obtain ⟨e5, e6, hb5⟩ := one_of hW5
  have HW5 := Lib.hid hW5; have HR5 := Lib.hid e5; have HF5 := Lib.hid e6
  have HB5 : Hid (Below w.heap.size w W5) := HB4.out.trans (hb5.mono HB4.out.size)
  have HP5 := Lib.hid (hP4.below hb5)
  have HQ5 : Hid (QRd W5 w4.heap.size C G r Ac Ag Ab) := hq4.far hb5 (Nat.le_refl _)
  have HZ5 : Hid (w4.heap.size ≤ W5.heap.size) := hb5.size
  have HJ5 := Lib.hid ((hb5.block _ (lt_of_blk HJ4.out)).trans HJ4.out)
  have HI5 : Hid (JrIn W5 j) := ⟨(HRD.out.far HB5.out (Nat.le_refl _)).wide HB5.out.size, HNIL.out, by have := HLEN.out; omega, by have := HREF.out; unfold maxLen; omega⟩
  have HROW5 := Lib.hid e6
  clear hW5 hb5 hP4 hq4 hM km x0 x1 x2 HB3 HB4 HJ3 HJ4 HRD HNIL HQ5 HZ5
  obtain ⟨Bt, vt, hT⟩ := HP5.out.book
  have HK5 : Hid (∀ w', Below W5.heap.size W5 w' → Calls Tryz.prog 25 #[.pointer (some ⟨b, 0, none⟩)] w' fun e w'' => ∃ d v' l', e = .returned (.pointer (some ⟨d, 0, none⟩)) ∧ l'.map JR.j = l.map JR.j ∧ TomeAt w'' w'.heap.size d v' l' ∧ Below w'.heap.size w' w'') := fun w' hb => copyB_any Bt b vt l w' (hT.below hb)
  clear hT
  obtain ⟨y0, y1, y2⟩ := three_cells e5
  have HY2 := Lib.hid y2
  clear e5 e6 y0 y1
  go_wp2_with fail
  rw [HW5.out]
  have HB0 : Hid (Below W5.heap.size W5 W5.drew) := (Below.refl _ _).drew
  clear HW5
  go_region_held3 (fun w' => w'.cell? ⟨w4.heap.size, 2, none⟩ = some (.pointer (some ⟨b, 0, none⟩))) (first | (go_keep; done) | exact q3 | exact q2 | exact q1) (first
    | (go_at_call 25; refine (HK5.out _ HBb.out).mono ?_; rintro e wc ⟨dc, vc, lc, rfl, hmc, htc, hbc⟩; have HBc : Hid (Below W5.heap.size W5 wc) := HBb.out.trans (hbc.mono HBb.out.size); have HCc := Lib.hid (Cop.new htc hmc); have HCa3 := Lib.hid (HCa2.out.below hbc); have HCb3 := Lib.hid (HCb.out.below hbc); have q3 := (hbc.cell (block_of_cell q2)).trans q2; have HE3 : Hid (wb.heap.size ≤ wc.heap.size) := hbc.size; clear hmc htc hbc q2)
    | (go_at_call 25; refine (HK5.out _ HBa.out).mono ?_; rintro e wb ⟨db, vb, lb, rfl, hmb, htb, hbb⟩; have HBb : Hid (Below W5.heap.size W5 wb) := HBa.out.trans (hbb.mono HBa.out.size); have HCb := Lib.hid (Cop.new htb hmb); have HCa2 := Lib.hid (HCa.out.below hbb); have q2 := (hbb.cell (block_of_cell q1)).trans q1; have HE2 : Hid (wa.heap.size ≤ wb.heap.size) := hbb.size; clear hmb htb hbb q1)
    | (go_at_call 25; refine (HK5.out _ HB0.out).mono ?_; rintro e wa ⟨da, va, la, rfl, hma, hta, hba⟩; have HBa : Hid (Below W5.heap.size W5 wa) := HB0.out.trans (hba.mono HB0.out.size); have HCa := Lib.hid (Cop.new hta hma); have q1 := (HBa.out.cell (block_of_cell y2)).trans y2; have HE1 : Hid (W5.heap.size ≤ wa.heap.size) := HBa.out.size; clear hma hta hba))
  have HLR : Hid (l.length = r.length) := by have h8 := congrArg List.length HSAME.out; rw [List.length_map, List.length_map] at h8; exact h8
  clear h30I h60I
  obtain ⟨r0, r1, r2⟩ := three_cells (box_on HR5.out HBc.out)
  obtain ⟨b0, b1, b2, b3, b4, b5⟩ := six_cells (box_on HJ5.out HBc.out)
  clear q3 HY2
  have kp := Lib.hid (rulesPost_any c g b C G l j wc (HP5.out.below HBc.out) (HI5.out.below HBc.out))
  go_wp2_with fail
  refine kp.out.mono ?_
  rintro e wd ⟨rfl, hbd⟩
  have HBd : Hid (Below W5.heap.size W5 wd) := HBc.out.trans (hbd.mono HBc.out.size)
  have HCad := Lib.hid (HCa3.out.below hbd)
  have HCbd := Lib.hid (HCb3.out.below hbd)
  have HCcd := Lib.hid (HCc.out.below hbd)
  clear hbd kp
  clear r0 r1 r2 b0 b1 b2 b3 b4 b5
  by_cases hE : rPostE C G (l.map JR.j) j.j = 0
  · have tE : (rPostE C G (l.map JR.j) j.j == 0) = true := by simpa using hE
    have HLD := Lib.hid (lead_post hE)
    clear hE
    obtain ⟨r0, r1, r2⟩ := three_cells (box_on HR5.out HBd.out)
    obtain ⟨b0, b1, b2, b3, b4, b5⟩ := six_cells (box_on HJ5.out HBd.out)
    replace r0 := cell_regrown r0; replace r1 := cell_regrown r1; replace r2 := cell_regrown r2
    replace b0 := cell_regrown b0; replace b1 := cell_regrown b1; replace b2 := cell_regrown b2; replace b3 := cell_regrown b3; replace b4 := cell_regrown b4; replace b5 := cell_regrown b5
    go_wp2_with fail
    refine wp_region_stages 2 (by kernel_rfl) (by kernel_rfl) ?_
    simp only [List.take_succ_cons, List.take_zero, List.drop_succ_cons, List.drop_zero]
    repeat (go_big_quiet_step (fail))
    refine wpQuiet_nil ?_
    intro we hwe
    have hbe : Below wd.heap.size wd we := by
      obtain ⟨p, rfl⟩ := hwe
      exact below_regrown _ _ _
    have HBe : Hid (Below W5.heap.size W5 we) := HBd.out.trans (hbe.mono HBd.out.size)
    have HCae := Lib.hid (HCad.out.below hbe)
    have HCbe := Lib.hid (HCbd.out.below hbe)
    have HCce := Lib.hid (HCcd.out.below hbe)
    clear hwe hbe
    clear r0 r1 r2 b0 b1 b2 b3 b4 b5

    have kw := post_any W5.drew.heap.size da va la j.j j.A j.c we.heap.size we HCae.out.tome (HI5.out.below HBe.out).rd (Nat.le_refl _) HI5.out.nil (by have := HI5.out.len; unfold maxLen; omega) HI5.out.ref
    rw [HCae.out.map, HLD.out.1] at kw
    unfold Jrn.val at kw
    have kw := Lib.hid kw
    refine stage_run 2 12 (by kernel_rfl) ?_
    simp only [List.take_succ_cons, List.take_zero, List.drop_succ_cons, List.drop_zero]
    go_wp2_with fail
    refine (Hid.out kw).mono ?_
    rintro e wf ⟨rfl, hto⟩
    obtain ⟨v', l', S, hT, hm, hbut, hS, hbel⟩ := HCae.out.to (w0 := W5) hto (Nat.le_refl _) HBe.out
    have HBf := Lib.hid hbel
    have HCbf := Lib.hid (HCbe.out.but hbut fun k hk => .inl (hS k hk).2)
    have HCcf := Lib.hid (HCce.out.but hbut fun k hk => .inl (Nat.lt_of_lt_of_le (hS k hk).2 HE2.out))
    have kall := Lib.hid (all_tooMuch hT (by rw [hm]; exact HLD.out.2.1))
    have HT := Lib.hid hT; have HM := Lib.hid hm
    clear hto hbut hS hbel hT hm kw
    go_wp2_with fail
    refine kall.out.mono ?_
    rintro e wg ⟨A, n, cn, rfl, hbg, ktm⟩
    have HKT := Lib.hid ktm
    have HBg : Hid (Below W5.heap.size W5 wg) := HBf.out.trans (hbg.mono HBf.out.size)
    have HTg := Lib.hid (HT.out.below hbg)
    have HCbg := Lib.hid (HCbf.out.below hbg)
    have HCcg := Lib.hid (HCcf.out.below hbg)
    clear hbg ktm kall
    go_wp2_with fail
    refine HKT.out.mono ?_
    rintro e wh ⟨A2, c2, rfl, hbh⟩
    have HBh : Hid (Below W5.heap.size W5 wh) := HBg.out.trans (hbh.mono HBg.out.size)
    have HTh := Lib.hid (HTg.out.below hbh)
    have HCbh := Lib.hid (HCbg.out.below hbh)
    have HCch := Lib.hid (HCcg.out.below hbh)
    clear hbh HKT
    go_wp2_with fail
    show StageAt _ _ _ 12 _ _
    have hwr : wrap64 ((r.length : Int) + 1) = (r.length : Int) + 1 := by unfold wrap64; omega
    have Q9 := regrown_calls (w := wh) fun w1 hb => (len_any W5.drew.heap.size da v' l' w1 (HTh.out.below hb)).mono fun e w' ⟨he, hw⟩ => ⟨he, hw ▸ Below.refl _ _⟩
    rw [show ((l'.length : Nat) : Int) = (r.length : Int) + 1 by have h1 := congrArg List.length HM.out; rw [List.length_map, HLD.out.2.2, List.length_map] at h1; have := HLR.out; omega] at Q9
    have Q9 := Lib.hid Q9
    obtain ⟨z0, z1, z2⟩ := three_cells (box_on HF5.out HBh.out)
    replace z2 := cell_regrown z2
    clear z0 z1
    refine stage_below 12 19 (by kernel_rfl) ?_
    simp only [List.take_succ_cons, List.take_zero, List.drop_succ_cons, List.drop_zero]
    repeat (go_big_quiet_step (fail))
    go_big_quiet_want
    go_big_quiet_op
    go_big_quiet_call (exact Q9.out _ _)
    repeat (go_big_quiet_step (fail))
    refine wpQuiet_nil ?_
    intro wi hwi
    have hbi : Below wh.heap.size wh wi := by
      obtain ⟨p, rfl⟩ := hwi
      exact below_regrown _ _ _
    have HBi : Hid (Below W5.heap.size W5 wi) := HBh.out.trans (hbi.mono HBh.out.size)
    have HCbi := Lib.hid (HCbh.out.below hbi)
    have HCci := Lib.hid (HCch.out.below hbi)
    clear hwi hbi Q9 z2 hwr
    refine stage_end 19 (by kernel_rfl) ?_
    simp only [List.take_succ_cons, List.take_zero, List.drop_succ_cons, List.drop_zero]
    go_wp2_with fail
    have Q1 := Lib.hid (regrown_calls (w := wi) fun w1 hb => rulesAmend_any c g b C G l j w1 ((HP5.out.below HBi.out).below hb) ((HI5.out.below HBi.out).below hb))
    by_cases hA : rAmendE C G (l.map JR.j) j.j = 0
    · have tA : (rAmendE C G (l.map JR.j) j.j == 0) = true := by simpa using hA
      have HLD := Lib.hid (lead_amend (by rw [HSAME.out]; exact HGM.out.rise) hA)
      clear hA
      obtain ⟨r0, r1, r2⟩ := three_cells (box_on HR5.out HBi.out)
      obtain ⟨b0, b1, b2, b3, b4, b5⟩ := six_cells (box_on HJ5.out HBi.out)
      replace r0 := cell_regrown r0; replace r1 := cell_regrown r1; replace r2 := cell_regrown r2
      replace b0 := cell_regrown b0; replace b1 := cell_regrown b1; replace b2 := cell_regrown b2; replace b3 := cell_regrown b3; replace b4 := cell_regrown b4; replace b5 := cell_regrown b5
      go_wp2_with fail
      refine wp_region_stages 7 (by kernel_rfl) (by kernel_rfl) ?_
      simp only [List.take_succ_cons, List.take_zero, List.drop_succ_cons, List.drop_zero]
      repeat (go_big_quiet_step (fail))
      go_big_quiet_want
      go_big_quiet_op
      go_big_quiet_call (exact Q1.out _ _)
      repeat (go_big_quiet_step (fail))
      refine wpQuiet_nil ?_
      intro wye hwye
      have hbe : Below wi.heap.size wi wye := by
        obtain ⟨p, rfl⟩ := hwye
        exact below_regrown _ _ _
      have HBye : Hid (Below W5.heap.size W5 wye) := HBi.out.trans (hbe.mono HBi.out.size)
      have HCbye := Lib.hid (HCbi.out.below hbe)
      have HCcye := Lib.hid (HCci.out.below hbe)
      clear hwye hbe Q1
      clear r0 r1 r2 b0 b1 b2 b3 b4 b5
      have kw := amend_any wa.heap.size db vb lb j.j j.A j.c wye.heap.size wye HCbye.out.tome (HI5.out.below HBye.out).rd (Nat.le_refl _) HI5.out.nil (by have := HI5.out.len; unfold maxLen; omega) HI5.out.ref
      rw [HCbye.out.map, HLD.out.1] at kw
      unfold Jrn.val at kw
      have kw := Lib.hid kw
      refine stage_run 7 17 (by kernel_rfl) ?_
      simp only [List.take_succ_cons, List.take_zero, List.drop_succ_cons, List.drop_zero]
      go_wp2_with fail
      refine (Hid.out kw).mono ?_
      rintro e wyf ⟨rfl, hto⟩
      obtain ⟨v', l', S, hT, hm, hbut, hS, hbel⟩ := HCbye.out.to (w0 := W5) hto HE1.out HBye.out
      have HByf := Lib.hid hbel
      have HCcyf := Lib.hid (HCcye.out.but hbut fun k hk => .inl (hS k hk).2)
      have kall := Lib.hid (all_tooMuch hT (by rw [hm]; exact HLD.out.2.1))
      have HT := Lib.hid hT; have HM := Lib.hid hm
      clear hto hbut hS hbel hT hm kw
      go_wp2_with fail
      refine kall.out.mono ?_
      rintro e wyg ⟨A, n, cn, rfl, hbg, ktm⟩
      have HKT := Lib.hid ktm
      have HByg : Hid (Below W5.heap.size W5 wyg) := HByf.out.trans (hbg.mono HByf.out.size)
      have HTg := Lib.hid (HT.out.below hbg)
      have HCcyg := Lib.hid (HCcyf.out.below hbg)
      clear hbg ktm kall
      go_wp2_with fail
      refine HKT.out.mono ?_
      rintro e wyh ⟨A2, c2, rfl, hbh⟩
      have HByh : Hid (Below W5.heap.size W5 wyh) := HByg.out.trans (hbh.mono HByg.out.size)
      have HTh := Lib.hid (HTg.out.below hbh)
      have HCcyh := Lib.hid (HCcyg.out.below hbh)
      clear hbh HKT
      go_wp2_with fail
      show StageAt _ _ _ 17 _ _
      have Q9 := regrown_calls (w := wyh) fun w1 hb => (len_any wa.heap.size db v' l' w1 (HTh.out.below hb)).mono fun e w' ⟨he, hw⟩ => ⟨he, hw ▸ Below.refl _ _⟩
      rw [show ((l'.length : Nat) : Int) = (r.length : Int) by have h1 := congrArg List.length HM.out; rw [List.length_map, HLD.out.2.2, List.length_map] at h1; have := HLR.out; omega] at Q9
      have Q9 := Lib.hid Q9
      obtain ⟨z0, z1, z2⟩ := three_cells (box_on HF5.out HByh.out)
      replace z2 := cell_regrown z2
      clear z0 z1
      refine stage_below 17 24 (by kernel_rfl) ?_
      simp only [List.take_succ_cons, List.take_zero, List.drop_succ_cons, List.drop_zero]
      repeat (go_big_quiet_step (fail))
      go_big_quiet_want
      go_big_quiet_op
      go_big_quiet_call (exact Q9.out _ _)
      repeat (go_big_quiet_step (fail))
      refine wpQuiet_nil ?_
      intro wyi hwyi
      have hbi : Below wyh.heap.size wyh wyi := by
        obtain ⟨p, rfl⟩ := hwyi
        exact below_regrown _ _ _
      have HByi : Hid (Below W5.heap.size W5 wyi) := HByh.out.trans (hbi.mono HByh.out.size)
      have HCcyi := Lib.hid (HCcyh.out.below hbi)
      clear hwyi hbi Q9 z2
      refine stage_end 24 (by kernel_rfl) ?_
      simp only [List.take_succ_cons, List.take_zero, List.drop_succ_cons, List.drop_zero]
      have kv := Lib.hid (rulesVoid_any c g b C G l id wyi (HP5.out.below HByi.out))
      obtain ⟨r0, r1, r2⟩ := three_cells (box_on HR5.out HByi.out)
      obtain ⟨b0, b1, b2, b3, b4, b5⟩ := six_cells (box_on HJ5.out HByi.out)
      go_wp2_with fail
      refine kv.out.mono ?_
      rintro e wyxd ⟨rfl, hbd⟩
      have HByxd : Hid (Below W5.heap.size W5 wyxd) := HByi.out.trans (hbd.mono HByi.out.size)
      have HCcyxd := Lib.hid (HCcyi.out.below hbd)
      clear hbd kv
      clear r0 r1 r2 b0 b1 b2 b3 b4 b5
      by_cases hV : rVoidE G (l.map JR.j) id = 0
      · have tV : (rVoidE G (l.map JR.j) id == 0) = true := by simpa using hV
        have HLD := Lib.hid (lead_void hV)
        have kw := void_any wb.heap.size dc vc lc id wyxd HCcyxd.out.tome
        rw [HCcyxd.out.map, HLD.out.1] at kw
        have kw := Lib.hid kw
        clear hV
        go_wp2_with fail
        refine (Hid.out kw).mono ?_
        rintro e wyxf ⟨rfl, hto⟩
        obtain ⟨v', l', S, hT, hm, hbut, hS, hbel⟩ := HCcyxd.out.to (w0 := W5) hto (Nat.le_trans HE1.out HE2.out) HByxd.out
        have HByxf := Lib.hid hbel
        have kall := Lib.hid (all_tooMuch hT (by rw [hm]; exact HLD.out.2))
        have HT := Lib.hid hT; have HM := Lib.hid hm
        clear hto hbut hS hbel hT hm kw
        go_wp2_with fail
        refine kall.out.mono ?_
        rintro e wyxg ⟨A, n, cn, rfl, hbg, ktm⟩
        have HKT := Lib.hid ktm
        have HByxg : Hid (Below W5.heap.size W5 wyxg) := HByxf.out.trans (hbg.mono HByxf.out.size)
        have HTg := Lib.hid (HT.out.below hbg)
        clear hbg ktm kall
        go_wp2_with fail
        refine HKT.out.mono ?_
        rintro e wyxh ⟨A2, c2, rfl, hbh⟩
        have HByxh : Hid (Below W5.heap.size W5 wyxh) := HByxg.out.trans (hbh.mono HByxg.out.size)
        have HTh := Lib.hid (HTg.out.below hbh)
        clear hbh HKT
        obtain ⟨r0, r1, r2⟩ := three_cells (box_on HR5.out HByxh.out)
        obtain ⟨b0, b1, b2, b3, b4, b5⟩ := six_cells (box_on HJ5.out HByxh.out)
        obtain ⟨z0, z1, z2⟩ := three_cells (box_on HF5.out HByxh.out)
        replace r2 := cell_regrown r2; replace z2 := cell_regrown z2
        obtain ⟨Bk, vk, hTk⟩ := (HP5.out.below HByxh.out).book
        have Q9 := regrown_calls (w := wyxh) fun w1 hb => (len_any Bk b vk l w1 (hTk.below hb)).mono fun e w' ⟨he, hw⟩ => ⟨he, hw ▸ Below.refl _ _⟩
        rw [HLR.out] at Q9
        have Q9 := Lib.hid Q9
        clear hTk r0 r1 b0 b1 b2 b3 b4 b5 z0 z1
        go_wp2_with fail
        refine wp_region_quiet_below (by kernel_rfl) (by kernel_rfl) ?_
        repeat (go_big_quiet_step (fail))
        go_big_quiet_want
        go_big_quiet_op
        go_big_quiet_call (exact Q9.out _ _)
        repeat (go_big_quiet_step (fail))
        refine wpQuiet_nil ?_
        intro _ hw'
        obtain ⟨⟨dq, osq⟩, hw''⟩ := hw'
        subst hw''
        have HBE := Lib.hid (HB5.out.trans ((HByxh.out.trans ((below_regrown wyxh dq osq).mono HByxh.out.size)).mono HB5.out.size))
        clear r2 z2 Q9
        go_wp2_with fail
        go_ret
        exact ⟨rfl, HBE.out⟩
      · have tV : (rVoidE G (l.map JR.j) id == 0) = false := by simpa using hV
        clear hV
        obtain ⟨r0, r1, r2⟩ := three_cells (box_on HR5.out HByxd.out)
        obtain ⟨b0, b1, b2, b3, b4, b5⟩ := six_cells (box_on HJ5.out HByxd.out)
        obtain ⟨z0, z1, z2⟩ := three_cells (box_on HF5.out HByxd.out)
        replace r2 := cell_regrown r2; replace z2 := cell_regrown z2
        obtain ⟨Bk, vk, hTk⟩ := (HP5.out.below HByxd.out).book
        have Q9 := regrown_calls (w := wyxd) fun w1 hb => (len_any Bk b vk l w1 (hTk.below hb)).mono fun e w' ⟨he, hw⟩ => ⟨he, hw ▸ Below.refl _ _⟩
        rw [HLR.out] at Q9
        have Q9 := Lib.hid Q9
        clear hTk r0 r1 b0 b1 b2 b3 b4 b5 z0 z1
        go_wp2_with fail
        refine wp_region_quiet_below (by kernel_rfl) (by kernel_rfl) ?_
        repeat (go_big_quiet_step (fail))
        go_big_quiet_want
        go_big_quiet_op
        go_big_quiet_call (exact Q9.out _ _)
        repeat (go_big_quiet_step (fail))
        refine wpQuiet_nil ?_
        intro _ hw'
        obtain ⟨⟨dq, osq⟩, hw''⟩ := hw'
        subst hw''
        have HBE := Lib.hid (HB5.out.trans ((HByxd.out.trans ((below_regrown wyxd dq osq).mono HByxd.out.size)).mono HB5.out.size))
        clear r2 z2 Q9
        go_wp2_with fail
        go_ret
        exact ⟨rfl, HBE.out⟩
    · have tA : (rAmendE C G (l.map JR.j) j.j == 0) = false := by simpa using hA
      clear hA
      obtain ⟨r0, r1, r2⟩ := three_cells (box_on HR5.out HBi.out)
      obtain ⟨b0, b1, b2, b3, b4, b5⟩ := six_cells (box_on HJ5.out HBi.out)
      replace r0 := cell_regrown r0; replace r1 := cell_regrown r1; replace r2 := cell_regrown r2
      replace b0 := cell_regrown b0; replace b1 := cell_regrown b1; replace b2 := cell_regrown b2; replace b3 := cell_regrown b3; replace b4 := cell_regrown b4; replace b5 := cell_regrown b5
      go_wp2_with fail
      refine wp_region_quiet_below (by kernel_rfl) (by kernel_rfl) ?_
      repeat (go_big_quiet_step (fail))
      go_big_quiet_want
      go_big_quiet_op
      go_big_quiet_call (exact Q1.out _ _)
      repeat (go_big_quiet_step (fail))
      refine wpQuiet_nil ?_
      intro wyi hwyi
      have hbi : Below wi.heap.size wi wyi := by
        obtain ⟨p, rfl⟩ := hwyi
        exact below_regrown _ _ _
      have HByi : Hid (Below W5.heap.size W5 wyi) := HBi.out.trans (hbi.mono HBi.out.size)
      have HCcyi := Lib.hid (HCci.out.below hbi)
      clear hwyi hbi Q1
      clear r0 r1 r2 b0 b1 b2 b3 b4 b5
      have kv := Lib.hid (rulesVoid_any c g b C G l id wyi (HP5.out.below HByi.out))
      obtain ⟨r0, r1, r2⟩ := three_cells (box_on HR5.out HByi.out)
      obtain ⟨b0, b1, b2, b3, b4, b5⟩ := six_cells (box_on HJ5.out HByi.out)
      go_wp2_with fail
      refine kv.out.mono ?_
      rintro e wyxd ⟨rfl, hbd⟩
      have HByxd : Hid (Below W5.heap.size W5 wyxd) := HByi.out.trans (hbd.mono HByi.out.size)
      have HCcyxd := Lib.hid (HCcyi.out.below hbd)
      clear hbd kv
      clear r0 r1 r2 b0 b1 b2 b3 b4 b5
      by_cases hV : rVoidE G (l.map JR.j) id = 0
      · have tV : (rVoidE G (l.map JR.j) id == 0) = true := by simpa using hV
        have HLD := Lib.hid (lead_void hV)
        have kw := void_any wb.heap.size dc vc lc id wyxd HCcyxd.out.tome
        rw [HCcyxd.out.map, HLD.out.1] at kw
        have kw := Lib.hid kw
        clear hV
        go_wp2_with fail
        refine (Hid.out kw).mono ?_
        rintro e wyxf ⟨rfl, hto⟩
        obtain ⟨v', l', S, hT, hm, hbut, hS, hbel⟩ := HCcyxd.out.to (w0 := W5) hto (Nat.le_trans HE1.out HE2.out) HByxd.out
        have HByxf := Lib.hid hbel
        have kall := Lib.hid (all_tooMuch hT (by rw [hm]; exact HLD.out.2))
        have HT := Lib.hid hT; have HM := Lib.hid hm
        clear hto hbut hS hbel hT hm kw
        go_wp2_with fail
        refine kall.out.mono ?_
        rintro e wyxg ⟨A, n, cn, rfl, hbg, ktm⟩
        have HKT := Lib.hid ktm
        have HByxg : Hid (Below W5.heap.size W5 wyxg) := HByxf.out.trans (hbg.mono HByxf.out.size)
        have HTg := Lib.hid (HT.out.below hbg)
        clear hbg ktm kall
        go_wp2_with fail
        refine HKT.out.mono ?_
        rintro e wyxh ⟨A2, c2, rfl, hbh⟩
        have HByxh : Hid (Below W5.heap.size W5 wyxh) := HByxg.out.trans (hbh.mono HByxg.out.size)
        have HTh := Lib.hid (HTg.out.below hbh)
        clear hbh HKT
        obtain ⟨r0, r1, r2⟩ := three_cells (box_on HR5.out HByxh.out)
        obtain ⟨b0, b1, b2, b3, b4, b5⟩ := six_cells (box_on HJ5.out HByxh.out)
        obtain ⟨z0, z1, z2⟩ := three_cells (box_on HF5.out HByxh.out)
        replace r2 := cell_regrown r2; replace z2 := cell_regrown z2
        obtain ⟨Bk, vk, hTk⟩ := (HP5.out.below HByxh.out).book
        have Q9 := regrown_calls (w := wyxh) fun w1 hb => (len_any Bk b vk l w1 (hTk.below hb)).mono fun e w' ⟨he, hw⟩ => ⟨he, hw ▸ Below.refl _ _⟩
        rw [HLR.out] at Q9
        have Q9 := Lib.hid Q9
        clear hTk r0 r1 b0 b1 b2 b3 b4 b5 z0 z1
        go_wp2_with fail
        refine wp_region_quiet_below (by kernel_rfl) (by kernel_rfl) ?_
        repeat (go_big_quiet_step (fail))
        go_big_quiet_want
        go_big_quiet_op
        go_big_quiet_call (exact Q9.out _ _)
        repeat (go_big_quiet_step (fail))
        refine wpQuiet_nil ?_
        intro _ hw'
        obtain ⟨⟨dq, osq⟩, hw''⟩ := hw'
        subst hw''
        have HBE := Lib.hid (HB5.out.trans ((HByxh.out.trans ((below_regrown wyxh dq osq).mono HByxh.out.size)).mono HB5.out.size))
        clear r2 z2 Q9
        go_wp2_with fail
        go_ret
        exact ⟨rfl, HBE.out⟩
      · have tV : (rVoidE G (l.map JR.j) id == 0) = false := by simpa using hV
        clear hV
        obtain ⟨r0, r1, r2⟩ := three_cells (box_on HR5.out HByxd.out)
        obtain ⟨b0, b1, b2, b3, b4, b5⟩ := six_cells (box_on HJ5.out HByxd.out)
        obtain ⟨z0, z1, z2⟩ := three_cells (box_on HF5.out HByxd.out)
        replace r2 := cell_regrown r2; replace z2 := cell_regrown z2
        obtain ⟨Bk, vk, hTk⟩ := (HP5.out.below HByxd.out).book
        have Q9 := regrown_calls (w := wyxd) fun w1 hb => (len_any Bk b vk l w1 (hTk.below hb)).mono fun e w' ⟨he, hw⟩ => ⟨he, hw ▸ Below.refl _ _⟩
        rw [HLR.out] at Q9
        have Q9 := Lib.hid Q9
        clear hTk r0 r1 b0 b1 b2 b3 b4 b5 z0 z1
        go_wp2_with fail
        refine wp_region_quiet_below (by kernel_rfl) (by kernel_rfl) ?_
        repeat (go_big_quiet_step (fail))
        go_big_quiet_want
        go_big_quiet_op
        go_big_quiet_call (exact Q9.out _ _)
        repeat (go_big_quiet_step (fail))
        refine wpQuiet_nil ?_
        intro _ hw'
        obtain ⟨⟨dq, osq⟩, hw''⟩ := hw'
        subst hw''
        have HBE := Lib.hid (HB5.out.trans ((HByxd.out.trans ((below_regrown wyxd dq osq).mono HByxd.out.size)).mono HB5.out.size))
        clear r2 z2 Q9
        go_wp2_with fail
        go_ret
        exact ⟨rfl, HBE.out⟩
  · have tE : (rPostE C G (l.map JR.j) j.j == 0) = false := by simpa using hE
    clear hE
    go_wp2_with fail
    have Q1 := Lib.hid (regrown_calls (w := wd) fun w1 hb => rulesAmend_any c g b C G l j w1 ((HP5.out.below HBd.out).below hb) ((HI5.out.below HBd.out).below hb))
    by_cases hA : rAmendE C G (l.map JR.j) j.j = 0
    · have tA : (rAmendE C G (l.map JR.j) j.j == 0) = true := by simpa using hA
      have HLD := Lib.hid (lead_amend (by rw [HSAME.out]; exact HGM.out.rise) hA)
      clear hA
      obtain ⟨r0, r1, r2⟩ := three_cells (box_on HR5.out HBd.out)
      obtain ⟨b0, b1, b2, b3, b4, b5⟩ := six_cells (box_on HJ5.out HBd.out)
      replace r0 := cell_regrown r0; replace r1 := cell_regrown r1; replace r2 := cell_regrown r2
      replace b0 := cell_regrown b0; replace b1 := cell_regrown b1; replace b2 := cell_regrown b2; replace b3 := cell_regrown b3; replace b4 := cell_regrown b4; replace b5 := cell_regrown b5
      go_wp2_with fail
      refine wp_region_stages 7 (by kernel_rfl) (by kernel_rfl) ?_
      simp only [List.take_succ_cons, List.take_zero, List.drop_succ_cons, List.drop_zero]
      repeat (go_big_quiet_step (fail))
      go_big_quiet_want
      go_big_quiet_op
      go_big_quiet_call (exact Q1.out _ _)
      repeat (go_big_quiet_step (fail))
      refine wpQuiet_nil ?_
      intro wye hwye
      have hbe : Below wd.heap.size wd wye := by
        obtain ⟨p, rfl⟩ := hwye
        exact below_regrown _ _ _
      have HBye : Hid (Below W5.heap.size W5 wye) := HBd.out.trans (hbe.mono HBd.out.size)
      have HCbye := Lib.hid (HCbd.out.below hbe)
      have HCcye := Lib.hid (HCcd.out.below hbe)
      clear hwye hbe Q1
      clear r0 r1 r2 b0 b1 b2 b3 b4 b5
      have kw := amend_any wa.heap.size db vb lb j.j j.A j.c wye.heap.size wye HCbye.out.tome (HI5.out.below HBye.out).rd (Nat.le_refl _) HI5.out.nil (by have := HI5.out.len; unfold maxLen; omega) HI5.out.ref
      rw [HCbye.out.map, HLD.out.1] at kw
      unfold Jrn.val at kw
      have kw := Lib.hid kw
      refine stage_run 7 17 (by kernel_rfl) ?_
      simp only [List.take_succ_cons, List.take_zero, List.drop_succ_cons, List.drop_zero]
      go_wp2_with fail
      refine (Hid.out kw).mono ?_
      rintro e wyf ⟨rfl, hto⟩
      obtain ⟨v', l', S, hT, hm, hbut, hS, hbel⟩ := HCbye.out.to (w0 := W5) hto HE1.out HBye.out
      have HByf := Lib.hid hbel
      have HCcyf := Lib.hid (HCcye.out.but hbut fun k hk => .inl (hS k hk).2)
      have kall := Lib.hid (all_tooMuch hT (by rw [hm]; exact HLD.out.2.1))
      have HT := Lib.hid hT; have HM := Lib.hid hm
      clear hto hbut hS hbel hT hm kw
      go_wp2_with fail
      refine kall.out.mono ?_
      rintro e wyg ⟨A, n, cn, rfl, hbg, ktm⟩
      have HKT := Lib.hid ktm
      have HByg : Hid (Below W5.heap.size W5 wyg) := HByf.out.trans (hbg.mono HByf.out.size)
      have HTg := Lib.hid (HT.out.below hbg)
      have HCcyg := Lib.hid (HCcyf.out.below hbg)
      clear hbg ktm kall
      go_wp2_with fail
      refine HKT.out.mono ?_
      rintro e wyh ⟨A2, c2, rfl, hbh⟩
      have HByh : Hid (Below W5.heap.size W5 wyh) := HByg.out.trans (hbh.mono HByg.out.size)
      have HTh := Lib.hid (HTg.out.below hbh)
      have HCcyh := Lib.hid (HCcyg.out.below hbh)
      clear hbh HKT
      go_wp2_with fail
      show StageAt _ _ _ 17 _ _
      have Q9 := regrown_calls (w := wyh) fun w1 hb => (len_any wa.heap.size db v' l' w1 (HTh.out.below hb)).mono fun e w' ⟨he, hw⟩ => ⟨he, hw ▸ Below.refl _ _⟩
      rw [show ((l'.length : Nat) : Int) = (r.length : Int) by have h1 := congrArg List.length HM.out; rw [List.length_map, HLD.out.2.2, List.length_map] at h1; have := HLR.out; omega] at Q9
      have Q9 := Lib.hid Q9
      obtain ⟨z0, z1, z2⟩ := three_cells (box_on HF5.out HByh.out)
      replace z2 := cell_regrown z2
      clear z0 z1
      refine stage_below 17 24 (by kernel_rfl) ?_
      simp only [List.take_succ_cons, List.take_zero, List.drop_succ_cons, List.drop_zero]
      repeat (go_big_quiet_step (fail))
      go_big_quiet_want
      go_big_quiet_op
      go_big_quiet_call (exact Q9.out _ _)
      repeat (go_big_quiet_step (fail))
      refine wpQuiet_nil ?_
      intro wyi hwyi
      have hbi : Below wyh.heap.size wyh wyi := by
        obtain ⟨p, rfl⟩ := hwyi
        exact below_regrown _ _ _
      have HByi : Hid (Below W5.heap.size W5 wyi) := HByh.out.trans (hbi.mono HByh.out.size)
      have HCcyi := Lib.hid (HCcyh.out.below hbi)
      clear hwyi hbi Q9 z2
      refine stage_end 24 (by kernel_rfl) ?_
      simp only [List.take_succ_cons, List.take_zero, List.drop_succ_cons, List.drop_zero]
      have kv := Lib.hid (rulesVoid_any c g b C G l id wyi (HP5.out.below HByi.out))
      obtain ⟨r0, r1, r2⟩ := three_cells (box_on HR5.out HByi.out)
      obtain ⟨b0, b1, b2, b3, b4, b5⟩ := six_cells (box_on HJ5.out HByi.out)
      go_wp2_with fail
      refine kv.out.mono ?_
      rintro e wyxd ⟨rfl, hbd⟩
      have HByxd : Hid (Below W5.heap.size W5 wyxd) := HByi.out.trans (hbd.mono HByi.out.size)
      have HCcyxd := Lib.hid (HCcyi.out.below hbd)
      clear hbd kv
      clear r0 r1 r2 b0 b1 b2 b3 b4 b5
      by_cases hV : rVoidE G (l.map JR.j) id = 0
      · have tV : (rVoidE G (l.map JR.j) id == 0) = true := by simpa using hV
        have HLD := Lib.hid (lead_void hV)
        have kw := void_any wb.heap.size dc vc lc id wyxd HCcyxd.out.tome
        rw [HCcyxd.out.map, HLD.out.1] at kw
        have kw := Lib.hid kw
        clear hV
        go_wp2_with fail
        refine (Hid.out kw).mono ?_
        rintro e wyxf ⟨rfl, hto⟩
        obtain ⟨v', l', S, hT, hm, hbut, hS, hbel⟩ := HCcyxd.out.to (w0 := W5) hto (Nat.le_trans HE1.out HE2.out) HByxd.out
        have HByxf := Lib.hid hbel
        have kall := Lib.hid (all_tooMuch hT (by rw [hm]; exact HLD.out.2))
        have HT := Lib.hid hT; have HM := Lib.hid hm
        clear hto hbut hS hbel hT hm kw
        go_wp2_with fail
        refine kall.out.mono ?_
        rintro e wyxg ⟨A, n, cn, rfl, hbg, ktm⟩
        have HKT := Lib.hid ktm
        have HByxg : Hid (Below W5.heap.size W5 wyxg) := HByxf.out.trans (hbg.mono HByxf.out.size)
        have HTg := Lib.hid (HT.out.below hbg)
        clear hbg ktm kall
        go_wp2_with fail
        refine HKT.out.mono ?_
        rintro e wyxh ⟨A2, c2, rfl, hbh⟩
        have HByxh : Hid (Below W5.heap.size W5 wyxh) := HByxg.out.trans (hbh.mono HByxg.out.size)
        have HTh := Lib.hid (HTg.out.below hbh)
        clear hbh HKT
        obtain ⟨r0, r1, r2⟩ := three_cells (box_on HR5.out HByxh.out)
        obtain ⟨b0, b1, b2, b3, b4, b5⟩ := six_cells (box_on HJ5.out HByxh.out)
        obtain ⟨z0, z1, z2⟩ := three_cells (box_on HF5.out HByxh.out)
        replace r2 := cell_regrown r2; replace z2 := cell_regrown z2
        obtain ⟨Bk, vk, hTk⟩ := (HP5.out.below HByxh.out).book
        have Q9 := regrown_calls (w := wyxh) fun w1 hb => (len_any Bk b vk l w1 (hTk.below hb)).mono fun e w' ⟨he, hw⟩ => ⟨he, hw ▸ Below.refl _ _⟩
        rw [HLR.out] at Q9
        have Q9 := Lib.hid Q9
        clear hTk r0 r1 b0 b1 b2 b3 b4 b5 z0 z1
        go_wp2_with fail
        refine wp_region_quiet_below (by kernel_rfl) (by kernel_rfl) ?_
        repeat (go_big_quiet_step (fail))
        go_big_quiet_want
        go_big_quiet_op
        go_big_quiet_call (exact Q9.out _ _)
        repeat (go_big_quiet_step (fail))
        refine wpQuiet_nil ?_
        intro _ hw'
        obtain ⟨⟨dq, osq⟩, hw''⟩ := hw'
        subst hw''
        have HBE := Lib.hid (HB5.out.trans ((HByxh.out.trans ((below_regrown wyxh dq osq).mono HByxh.out.size)).mono HB5.out.size))
        clear r2 z2 Q9
        go_wp2_with fail
        go_ret
        exact ⟨rfl, HBE.out⟩
      · have tV : (rVoidE G (l.map JR.j) id == 0) = false := by simpa using hV
        clear hV
        obtain ⟨r0, r1, r2⟩ := three_cells (box_on HR5.out HByxd.out)
        obtain ⟨b0, b1, b2, b3, b4, b5⟩ := six_cells (box_on HJ5.out HByxd.out)
        obtain ⟨z0, z1, z2⟩ := three_cells (box_on HF5.out HByxd.out)
        replace r2 := cell_regrown r2; replace z2 := cell_regrown z2
        obtain ⟨Bk, vk, hTk⟩ := (HP5.out.below HByxd.out).book
        have Q9 := regrown_calls (w := wyxd) fun w1 hb => (len_any Bk b vk l w1 (hTk.below hb)).mono fun e w' ⟨he, hw⟩ => ⟨he, hw ▸ Below.refl _ _⟩
        rw [HLR.out] at Q9
        have Q9 := Lib.hid Q9
        clear hTk r0 r1 b0 b1 b2 b3 b4 b5 z0 z1
        go_wp2_with fail
        refine wp_region_quiet_below (by kernel_rfl) (by kernel_rfl) ?_
        repeat (go_big_quiet_step (fail))
        go_big_quiet_want
        go_big_quiet_op
        go_big_quiet_call (exact Q9.out _ _)
        repeat (go_big_quiet_step (fail))
        refine wpQuiet_nil ?_
        intro _ hw'
        obtain ⟨⟨dq, osq⟩, hw''⟩ := hw'
        subst hw''
        have HBE := Lib.hid (HB5.out.trans ((HByxd.out.trans ((below_regrown wyxd dq osq).mono HByxd.out.size)).mono HB5.out.size))
        clear r2 z2 Q9
        go_wp2_with fail
        go_ret
        exact ⟨rfl, HBE.out⟩
    · have tA : (rAmendE C G (l.map JR.j) j.j == 0) = false := by simpa using hA
      clear hA
      obtain ⟨r0, r1, r2⟩ := three_cells (box_on HR5.out HBd.out)
      obtain ⟨b0, b1, b2, b3, b4, b5⟩ := six_cells (box_on HJ5.out HBd.out)
      replace r0 := cell_regrown r0; replace r1 := cell_regrown r1; replace r2 := cell_regrown r2
      replace b0 := cell_regrown b0; replace b1 := cell_regrown b1; replace b2 := cell_regrown b2; replace b3 := cell_regrown b3; replace b4 := cell_regrown b4; replace b5 := cell_regrown b5
      go_wp2_with fail
      refine wp_region_quiet_below (by kernel_rfl) (by kernel_rfl) ?_
      repeat (go_big_quiet_step (fail))
      go_big_quiet_want
      go_big_quiet_op
      go_big_quiet_call (exact Q1.out _ _)
      repeat (go_big_quiet_step (fail))
      refine wpQuiet_nil ?_
      intro wyi hwyi
      have hbi : Below wd.heap.size wd wyi := by
        obtain ⟨p, rfl⟩ := hwyi
        exact below_regrown _ _ _
      have HByi : Hid (Below W5.heap.size W5 wyi) := HBd.out.trans (hbi.mono HBd.out.size)
      have HCcyi := Lib.hid (HCcd.out.below hbi)
      clear hwyi hbi Q1
      clear r0 r1 r2 b0 b1 b2 b3 b4 b5
      have kv := Lib.hid (rulesVoid_any c g b C G l id wyi (HP5.out.below HByi.out))
      obtain ⟨r0, r1, r2⟩ := three_cells (box_on HR5.out HByi.out)
      obtain ⟨b0, b1, b2, b3, b4, b5⟩ := six_cells (box_on HJ5.out HByi.out)
      go_wp2_with fail
      refine kv.out.mono ?_
      rintro e wyxd ⟨rfl, hbd⟩
      have HByxd : Hid (Below W5.heap.size W5 wyxd) := HByi.out.trans (hbd.mono HByi.out.size)
      have HCcyxd := Lib.hid (HCcyi.out.below hbd)
      clear hbd kv
      clear r0 r1 r2 b0 b1 b2 b3 b4 b5
      by_cases hV : rVoidE G (l.map JR.j) id = 0
      · have tV : (rVoidE G (l.map JR.j) id == 0) = true := by simpa using hV
        have HLD := Lib.hid (lead_void hV)
        have kw := void_any wb.heap.size dc vc lc id wyxd HCcyxd.out.tome
        rw [HCcyxd.out.map, HLD.out.1] at kw
        have kw := Lib.hid kw
        clear hV
        go_wp2_with fail
        refine (Hid.out kw).mono ?_
        rintro e wyxf ⟨rfl, hto⟩
        obtain ⟨v', l', S, hT, hm, hbut, hS, hbel⟩ := HCcyxd.out.to (w0 := W5) hto (Nat.le_trans HE1.out HE2.out) HByxd.out
        have HByxf := Lib.hid hbel
        have kall := Lib.hid (all_tooMuch hT (by rw [hm]; exact HLD.out.2))
        have HT := Lib.hid hT; have HM := Lib.hid hm
        clear hto hbut hS hbel hT hm kw
        go_wp2_with fail
        refine kall.out.mono ?_
        rintro e wyxg ⟨A, n, cn, rfl, hbg, ktm⟩
        have HKT := Lib.hid ktm
        have HByxg : Hid (Below W5.heap.size W5 wyxg) := HByxf.out.trans (hbg.mono HByxf.out.size)
        have HTg := Lib.hid (HT.out.below hbg)
        clear hbg ktm kall
        go_wp2_with fail
        refine HKT.out.mono ?_
        rintro e wyxh ⟨A2, c2, rfl, hbh⟩
        have HByxh : Hid (Below W5.heap.size W5 wyxh) := HByxg.out.trans (hbh.mono HByxg.out.size)
        have HTh := Lib.hid (HTg.out.below hbh)
        clear hbh HKT
        obtain ⟨r0, r1, r2⟩ := three_cells (box_on HR5.out HByxh.out)
        obtain ⟨b0, b1, b2, b3, b4, b5⟩ := six_cells (box_on HJ5.out HByxh.out)
        obtain ⟨z0, z1, z2⟩ := three_cells (box_on HF5.out HByxh.out)
        replace r2 := cell_regrown r2; replace z2 := cell_regrown z2
        obtain ⟨Bk, vk, hTk⟩ := (HP5.out.below HByxh.out).book
        have Q9 := regrown_calls (w := wyxh) fun w1 hb => (len_any Bk b vk l w1 (hTk.below hb)).mono fun e w' ⟨he, hw⟩ => ⟨he, hw ▸ Below.refl _ _⟩
        rw [HLR.out] at Q9
        have Q9 := Lib.hid Q9
        clear hTk r0 r1 b0 b1 b2 b3 b4 b5 z0 z1
        go_wp2_with fail
        refine wp_region_quiet_below (by kernel_rfl) (by kernel_rfl) ?_
        repeat (go_big_quiet_step (fail))
        go_big_quiet_want
        go_big_quiet_op
        go_big_quiet_call (exact Q9.out _ _)
        repeat (go_big_quiet_step (fail))
        refine wpQuiet_nil ?_
        intro _ hw'
        obtain ⟨⟨dq, osq⟩, hw''⟩ := hw'
        subst hw''
        have HBE := Lib.hid (HB5.out.trans ((HByxh.out.trans ((below_regrown wyxh dq osq).mono HByxh.out.size)).mono HB5.out.size))
        clear r2 z2 Q9
        go_wp2_with fail
        go_ret
        exact ⟨rfl, HBE.out⟩
      · have tV : (rVoidE G (l.map JR.j) id == 0) = false := by simpa using hV
        clear hV
        obtain ⟨r0, r1, r2⟩ := three_cells (box_on HR5.out HByxd.out)
        obtain ⟨b0, b1, b2, b3, b4, b5⟩ := six_cells (box_on HJ5.out HByxd.out)
        obtain ⟨z0, z1, z2⟩ := three_cells (box_on HF5.out HByxd.out)
        replace r2 := cell_regrown r2; replace z2 := cell_regrown z2
        obtain ⟨Bk, vk, hTk⟩ := (HP5.out.below HByxd.out).book
        have Q9 := regrown_calls (w := wyxd) fun w1 hb => (len_any Bk b vk l w1 (hTk.below hb)).mono fun e w' ⟨he, hw⟩ => ⟨he, hw ▸ Below.refl _ _⟩
        rw [HLR.out] at Q9
        have Q9 := Lib.hid Q9
        clear hTk r0 r1 b0 b1 b2 b3 b4 b5 z0 z1
        go_wp2_with fail
        refine wp_region_quiet_below (by kernel_rfl) (by kernel_rfl) ?_
        repeat (go_big_quiet_step (fail))
        go_big_quiet_want
        go_big_quiet_op
        go_big_quiet_call (exact Q9.out _ _)
        repeat (go_big_quiet_step (fail))
        refine wpQuiet_nil ?_
        intro _ hw'
        obtain ⟨⟨dq, osq⟩, hw''⟩ := hw'
        subst hw''
        have HBE := Lib.hid (HB5.out.trans ((HByxd.out.trans ((below_regrown wyxd dq osq).mono HByxd.out.size)).mono HB5.out.size))
        clear r2 z2 Q9
        go_wp2_with fail
        go_ret
        exact ⟨rfl, HBE.out⟩
end Go.Proofs.YtmgncoialppmpaaGreat

