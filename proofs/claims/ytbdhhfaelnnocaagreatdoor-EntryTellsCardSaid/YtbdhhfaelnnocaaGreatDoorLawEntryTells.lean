/-
  The walk of the statement EntryTells.
-/
-- HOLE3: obtain ⟨j0, A0, n0, c0, rfl, Q0, R0, _⟩ := argJrn hf0
-- obtain ⟨j1, A1, n1, c1, rfl, Q1, _, _⟩ := argJrn hf1
-- exact entryTells_walk j0 j1 A0 A1 n0 c0 n1 c1 W G Q0.rd Q1.rd Q0.len R0
import Derived.Test.YtbdhhfaelnnocaaGreatDoorTellEnd
import Derived.Test.YtbdhhfaelnnocaaGreatDoorEntryText2
import Derived.Test.YtbdhhfaelnnocaaGreatDoorRefTextJ
import Derived.Test.YtbdhhfaelnnocaaGreatDoorRefCheck2
import Derived.Test.YtbdhhfaelnnocaaGreatDoorMany10
import Derived.Test.YtbdhhfaelnnocaaGreatDoorArgJrn
namespace Go.Proofs.YtbdhhfaelnnocaaGreatDoor
open Go.RowKit Go.Sort

set_option maxRecDepth 100000 in
set_option maxHeartbeats 2000000 in
theorem small_pair (r1 r2 : ByteArray) (A1 A2 : Option Addr) (n1 n2 c1 c2 b : Nat) (w : World) (k3 : w.cell? ⟨b, 3, none⟩ = some (.string r1)) (k4 : w.cell? ⟨b, 4, none⟩ = some (.slice A1 n1 c1)) (k9 : w.cell? ⟨b, 9, none⟩ = some (.string r2)) (k10 : w.cell? ⟨b, 10, none⟩ = some (.slice A2 n2 c2)) :
    Calls Tryz.prog 4 #[.slice (some ⟨b, 0, none⟩) 2 2] w fun e w' => e = .returned (.bool (decide (r1.size ≤ 60 ∧ n1 ≤ 30 ∧ r2.size ≤ 60 ∧ n2 ≤ 30))) ∧ w = w' := by
  by_cases h1 : 60 < r1.size
  · rw [show decide (r1.size ≤ 60 ∧ n1 ≤ 30 ∧ r2.size ≤ 60 ∧ n2 ≤ 30) = false by simp; omega]
    go_enter Tryz.func4, Tryz.ntmps4
    go_wp2_with fail
    refine wp_loop_rounds 2 ?_
    rw [rounds_succ]
    go_wp2_with fail
    go_ret
    exact ⟨rfl, rfl⟩
  by_cases h2 : 30 < n1
  · rw [show decide (r1.size ≤ 60 ∧ n1 ≤ 30 ∧ r2.size ≤ 60 ∧ n2 ≤ 30) = false by simp; omega]
    go_enter Tryz.func4, Tryz.ntmps4
    go_wp2_with fail
    refine wp_loop_rounds 2 ?_
    rw [rounds_succ]
    go_wp2_with fail
    go_ret
    exact ⟨rfl, rfl⟩
  by_cases h3 : 60 < r2.size
  · rw [show decide (r1.size ≤ 60 ∧ n1 ≤ 30 ∧ r2.size ≤ 60 ∧ n2 ≤ 30) = false by simp; omega]
    go_enter Tryz.func4, Tryz.ntmps4
    go_wp2_with fail
    refine wp_loop_rounds 3 ?_
    rw [rounds_succ]
    go_wp2_with fail
    rw [rounds_succ]
    go_wp2_with fail
    go_ret
    exact ⟨rfl, rfl⟩
  by_cases h4 : 30 < n2
  · rw [show decide (r1.size ≤ 60 ∧ n1 ≤ 30 ∧ r2.size ≤ 60 ∧ n2 ≤ 30) = false by simp; omega]
    go_enter Tryz.func4, Tryz.ntmps4
    go_wp2_with fail
    refine wp_loop_rounds 3 ?_
    rw [rounds_succ]
    go_wp2_with fail
    rw [rounds_succ]
    go_wp2_with fail
    go_ret
    exact ⟨rfl, rfl⟩
  · rw [show decide (r1.size ≤ 60 ∧ n1 ≤ 30 ∧ r2.size ≤ 60 ∧ n2 ≤ 30) = true by simp; omega]
    go_enter Tryz.func4, Tryz.ntmps4
    go_wp2_with fail
    refine wp_loop_rounds 3 ?_
    rw [rounds_succ]
    go_wp2_with fail
    rw [rounds_succ]
    go_wp2_with fail
    rw [rounds_succ]
    go_wp2_with fail
    go_ret
    exact ⟨rfl, rfl⟩

set_option maxRecDepth 100000 in
set_option maxHeartbeats 8000000 in
theorem entryTells_walk (a b : Jrn) (A Ab : Option Addr) (n c nb cb : Nat) (w : World) (G : Glob w) (h1 : Rd w w.heap.size 3 A n (lins a.lines)) (h2 : Rd w w.heap.size 3 Ab nb (lins b.lines)) (hn1 : n ≤ maxLen) (h64 : a.ok64) :
    Calls Tryz.prog 3 #[a.val A n c, b.val Ab nb cb] w fun e w' => e = .returned (.bool true) ∧ Below w.heap.size w w' := by
  obtain rfl : a.lines.length = n := h1.lins_len
  obtain ⟨W1, hW1⟩ : ∃ W1, w.alloc (.cells #[.int .i64 a.id, .int .i64 a.ent, .int .i64 a.per, .string a.ref, .slice A a.lines.length c, .bool a.void] 24) = W1 := ⟨_, rfl⟩
  obtain ⟨W2, hW2⟩ : ∃ W2, W1.alloc (.cells #[.int .i64 b.id, .int .i64 b.ent, .int .i64 b.per, .string b.ref, .slice Ab nb cb, .bool b.void] 24) = W2 := ⟨_, rfl⟩
  obtain ⟨W3, hW3⟩ : ∃ W3, W2.alloc (.cells #[.int .i64 a.id, .int .i64 a.ent, .int .i64 a.per, .string a.ref, .slice A a.lines.length c, .bool a.void, .int .i64 b.id, .int .i64 b.ent, .int .i64 b.per, .string b.ref, .slice Ab nb cb, .bool b.void] 24) = W3 := ⟨_, rfl⟩
  have z1 : W1.heap.size = w.heap.size + 1 := by rw [← hW1]; simp
  have z2 : W2.heap.size = w.heap.size + 2 := by rw [← hW2]; simp [z1]
  have z3 : W3.heap.size = w.heap.size + 3 := by rw [← hW3]; simp [z2]
  have b1 : Below w.heap.size w W1 := by rw [← hW1]; exact (Below.refl _ _).alloc (Nat.le_refl _) _
  have b2 : Below W1.heap.size W1 W2 := by rw [← hW2]; exact (Below.refl _ _).alloc (Nat.le_refl _) _
  have b3 : Below W2.heap.size W2 W3 := by rw [← hW3]; exact (Below.refl _ _).alloc (Nat.le_refl _) _
  have b13 : Below W1.heap.size W1 W3 := b2.trans (b3.mono b2.size)
  have hbW : Below w.heap.size w W3 := b1.trans (b13.mono b1.size)
  have hja : JAt W3 w.heap.size a A a.lines.length c := (b13.block _ (by omega)).trans (by rw [← hW1]; exact heap_new w _)
  have hjb : JAt W3 (w.heap.size + 1) b Ab nb cb := by
    refine (b3.block _ (by omega)).trans ?_
    have := heap_new W1 (.cells #[.int .i64 b.id, .int .i64 b.ent, .int .i64 b.per, .string b.ref, .slice Ab nb cb, .bool b.void] 24)
    rw [hW2, z1] at this
    exact this
  have hcells : W3.heap[w.heap.size + 1 + 1]? = some (.cells #[.int .i64 a.id, .int .i64 a.ent, .int .i64 a.per, .string a.ref, .slice A a.lines.length c, .bool a.void, .int .i64 b.id, .int .i64 b.ent, .int .i64 b.per, .string b.ref, .slice Ab nb cb, .bool b.void] 24 (0, 0)) := by
    have := heap_new W2 (.cells #[.int .i64 a.id, .int .i64 a.ent, .int .i64 a.per, .string a.ref, .slice A a.lines.length c, .bool a.void, .int .i64 b.id, .int .i64 b.ent, .int .i64 b.per, .string b.ref, .slice Ab nb cb, .bool b.void] 24)
    rw [hW3, z2] at this
    exact this
  have KS := Lib.hid (small_pair a.ref b.ref A Ab a.lines.length nb c cb (w.heap.size + 1 + 1) W3 (cell_of hcells 3) (cell_of hcells 4) (cell_of hcells 9) (cell_of hcells 10))
  have ka := Lib.hid (fun w1 (hb : Below W3.heap.size W3 w1) => alive_any w1 ((G.below hbW).below hb))
  have HW : Hid (((w.alloc (.cells #[.int .i64 a.id, .int .i64 a.ent, .int .i64 a.per, .string a.ref, .slice A a.lines.length c, .bool a.void] 24)).alloc (.cells #[.int .i64 b.id, .int .i64 b.ent, .int .i64 b.per, .string b.ref, .slice Ab nb cb, .bool b.void] 24)).alloc (.cells #[.int .i64 a.id, .int .i64 a.ent, .int .i64 a.per, .string a.ref, .slice A a.lines.length c, .bool a.void, .int .i64 b.id, .int .i64 b.ent, .int .i64 b.per, .string b.ref, .slice Ab nb cb, .bool b.void] 24) = W3) := by
    unfold Hid
    rw [hW1, hW2, hW3]
  have HBW := Lib.hid hbW
  have HJA := Lib.hid hja
  have HJB := Lib.hid hjb
  have HG := Lib.hid G
  have H1 := Lib.hid h1
  have H2 := Lib.hid h2
  have HZ3 := Lib.hid z3
  clear hW1 hW2 hW3 z1 z2 z3 b1 b2 b3 b13 hbW hja hjb hcells h1 h2
  unfold Jrn.val
  cases hsm : decide (a.ref.size ≤ 60 ∧ a.lines.length ≤ 30 ∧ b.ref.size ≤ 60 ∧ nb ≤ 30)
  · rw [hsm] at KS
    go_enter Tryz.func3, Tryz.ntmps3
    go_wp2_with fail
    rw [HW.out]
    refine KS.out.mono ?_
    rintro e w1 ⟨rfl, rfl⟩
    go_wp2_with fail
    refine (ka.out _ (Below.refl _ _)).mono ?_
    rintro e w2 ⟨rfl, hb3⟩
    have HB3 := Lib.hid hb3
    clear hb3
    go_wp2_with fail
    go_ret
    exact ⟨rfl, HBW.out.trans (HB3.out.mono HBW.out.size)⟩
  rw [hsm] at KS
  obtain ⟨hsa, hna, hsb, hnb⟩ := of_decide_eq_true hsm
  clear hsm
  go_enter Tryz.func3, Tryz.ntmps3
  go_wp2_with fail
  rw [HW.out]
  refine KS.out.mono ?_
  rintro e w1 ⟨rfl, rfl⟩
  go_wp2_with fail
  refine (ka.out _ (Below.refl _ _)).mono ?_
  rintro e w4 ⟨rfl, hb4⟩
  have hja4 := jat_below HJA.out hb4
  obtain ⟨x0, x1, x2, x3, x4, x5⟩ := six_cells hja4
  have hlt4 : w.heap.size < w4.heap.size := lt_of_blk hja4
  have HB4 := Lib.hid (HBW.out.trans (hb4.mono HBW.out.size))
  have HJA4 := Lib.hid hja4
  have HJB4 := Lib.hid (jat_below HJB.out hb4)
  -- the journal that is handed in
  obtain ⟨W5, hW5⟩ : ∃ W5, w4.alloc (.cells #[.int .i64 a.id, .int .i64 a.ent, .int .i64 a.per, .string a.ref, .slice A a.lines.length c, .bool a.void] 24) = W5 := ⟨_, rfl⟩
  have hb5 : Below w4.heap.size w4 W5 := by rw [← hW5]; exact (Below.refl _ _).alloc (Nat.le_refl _) _
  have hz5 : W5.heap.size = w4.heap.size + 1 := by rw [← hW5]; simp
  have hjm5 : JAt W5 w4.heap.size a A a.lines.length c := by rw [← hW5]; exact heap_new w4 _
  have hb05 : Below w.heap.size w W5 := HB4.out.trans (hb5.mono HB4.out.size)
  have KL := Lib.hid (lentLines_any a.lines A a.lines.length c w.heap.size W5 (H1.out.far hb05 (Nat.le_refl _)) (by omega))
  have HW5 := Lib.hid hW5
  have HJM5 := Lib.hid hjm5
  have HB05 := Lib.hid hb05
  have HB45 := Lib.hid hb5
  clear hja4 hb4 hW5 hb5 hjm5 hb05 KS ka HW
  go_wp2_with fail
  rw [HW5.out]
  refine KL.out.mono ?_
  rintro e w6 ⟨g, cap, rfl, hlent, hb6⟩
  have hja6 : JAt w6 w.heap.size a A a.lines.length c := (hb6.block _ (by omega)).trans ((HB45.out.block _ hlt4).trans HJA4.out)
  have hjm6 := jat_below HJM5.out hb6
  have hneq : ¬ w.heap.size = w4.heap.size := by omega
  obtain ⟨m0, m1, m2, m3, m4, m5⟩ := six_cells hjm6
  have mf := warm_of hjm6 4
  obtain ⟨W7, hW7⟩ : ∃ W7, w6.setCell ⟨w4.heap.size, 4, none⟩ (.slice (some ⟨g, 0, none⟩) a.lines.length cap) = W7 := ⟨_, rfl⟩
  have hgm : g ≠ w4.heap.size := by have := hlent.cap_ge.2.1; omega
  have hk7 : ∀ k, k ≠ w4.heap.size → W7.heap[k]? = w6.heap[k]? := fun k hk => by rw [← hW7]; exact Below.heap_setCell _ _ _ _ hk
  have hjm7 : JAt W7 w4.heap.size a (some ⟨g, 0, none⟩) a.lines.length cap := by rw [← hW7]; exact (set_here hjm6).trans rfl
  have hl7 : LentLins W7 0 g cap a.lines := own_kept (own_base hlent (Nat.zero_le _)) fun k hk he => hk7 k (by
    have : g = k := by simpa [Value.ownBlock] using he
    rw [← this]; exact hgm)
  have hb6' : Below w4.heap.size W5 w6 := hb6.mono (by omega)
  have hb57 : Below w4.heap.size W5 W7 := by rw [← hW7]; exact hb6'.setCell (Nat.le_refl _) _
  have hb47 : Below w4.heap.size w4 W7 := HB45.out.trans hb57
  have hb07 : Below w.heap.size w W7 := HB4.out.trans (hb47.mono HB4.out.size)
  have hg7 : w4.heap.size < g ∧ g < W7.heap.size := by
    have := hlent.cap_ge
    have hsz : W7.heap.size = w6.heap.size := by rw [← hW7]; simp
    omega
  have HJM7 := Lib.hid hjm7
  have HL7 := Lib.hid hl7
  have HB47 := Lib.hid hb47
  have HB07 := Lib.hid hb07
  have HJA7 : Hid (JAt W7 w.heap.size a A a.lines.length c) := (hb47.block _ hlt4).trans HJA4.out
  have HJB7 : Hid (JAt W7 (w.heap.size + 1) b Ab nb cb) := (hb47.block _ (lt_of_blk HJB4.out)).trans HJB4.out
  have HW7 := Lib.hid hW7
  have hlm6 : w4.heap.size < w6.heap.size := lt_of_blk hjm6
  clear hjm6 hlent hb6 hW7 hjm7 hl7 hb57 hb47 hb07 hk7 HW5 HB45 KL HJM5 HB05
  obtain ⟨y0, y1, y2, y3, y4, y5⟩ := six_cells hja6
  have hla6 : w.heap.size < w6.heap.size := by omega
  clear hja6
  have kc := Lib.hid (refCheck_any a A a.lines.length c w.heap.size W7 (H1.out.far HB07.out (Nat.le_refl _)) HB07.out.size)
  have hE : Hid (checkE a = 0 ∨ checkE a ≠ 0) := by unfold Hid; omega
  unfold Jrn.val at kc
  go_wp2_with fail
  rw [HW7.out]
  refine kc.out.mono ?_
  rintro e w8 ⟨rfl, hb8⟩
  have hjm8 := jat_below HJM7.out hb8
  have HB78 := Lib.hid hb8
  have hb08 : Below w.heap.size w w8 := HB07.out.trans (hb8.mono HB07.out.size)
  have kt := Lib.hid (entryText_any a (some ⟨g, 0, none⟩) a.lines.length cap _ w8 (HG.out.below hb08) ((HL7.out.below hb8).rd) (Nat.le_refl _) (by unfold maxLen; omega) (by unfold maxLen; omega) h64)
  clear m0 m1 m2 m3 m4 m5 y0 y1 y2 y3 y4 y5
  obtain ⟨m0, m1, m2, m3, m4, m5⟩ := six_cells hjm8
  unfold Jrn.val at kt
  clear hjm8 hb8 hb08 kc HW7
  go_wp2_with fail
  refine kt.out.mono ?_
  rintro e w9 ⟨rfl, hb9⟩
  have hb79 : Below W7.heap.size W7 w9 := HB78.out.trans (hb9.mono HB78.out.size)
  have hjm9 := jat_below HJM7.out hb79
  clear m0 m1 m2 m3 m4 m5
  obtain ⟨m0, m1, m2, m3, m4, m5⟩ := six_cells hjm9
  have kk := Lib.hid (check_any a (some ⟨g, 0, none⟩) a.lines.length cap _ w9 ((HL7.out.below hb79).rd) (Nat.le_refl _) (by unfold maxLen; omega) (by unfold maxLen; omega))
  unfold Jrn.val at kk
  have HB79 := Lib.hid hb79
  clear hjm9 hb79 hb9 kt HB78
  rcases hE.out with hE0 | hE0
  · rw [hE0] at kk
    rw [if_pos hE0, hE0]
    have HE0 := Lib.hid hE0
    have HTT : Hid (totalJ a = debits a.lines) := by unfold Hid totalJ; rw [if_pos hE0]
    have hfit := (checkE_ok hE0).2.2.1
    have KRT : Hid (∀ w', Below W7.heap.size W7 w' → Calls Tryz.prog 10 #[.agg #[.int .i64 a.id, .int .i64 a.ent, .int .i64 a.per, .string a.ref, .slice A a.lines.length c, .bool a.void], .string ⟨#[32]⟩] w' fun e w'' => e = .returned (.string (bs (textJ a))) ∧ Below w'.heap.size w' w'') := fun w' hb => refTextJ_any a A a.lines.length c w.heap.size w' (H1.out.far (HB07.out.trans (hb.mono HB07.out.size)) (Nat.le_refl _)) (by have := HB07.out.size; have := hb.size; omega) hE0
    clear hE hE0
    generalize bs (textJ a) = S at *
    have tS : (S.toList == S.toList) = true := by simp
    go_wp2_with fail
    refine kk.out.mono ?_
    rintro e w10 ⟨rfl, hb10⟩
    have hb710 : Below W7.heap.size W7 w10 := HB79.out.trans (hb10.mono HB79.out.size)
    have hja10 := jat_below HJA7.out hb710
    clear m0 m1 m2 m3 m4 m5
    obtain ⟨y0, y1, y2, y3, y4, y5⟩ := six_cells hja10
    have krt := Lib.hid (KRT.out w10 hb710)
    have HB710 := Lib.hid hb710
    clear hja10 hb710 hb10 kk KRT
    go_wp2_with fail
    refine krt.out.mono ?_
    rintro e w11 ⟨rfl, hb11⟩
    have hb711 : Below W7.heap.size W7 w11 := HB710.out.trans (hb11.mono HB710.out.size)
    have hja11 := jat_below HJA7.out hb711
    clear y0 y1 y2 y3 y4 y5
    obtain ⟨y0, y1, y2, y3, y4, y5⟩ := six_cells hja11
    have HR11 := Lib.hid (H1.out.far (HB07.out.trans (hb711.mono HB07.out.size)) (Nat.le_refl _))
    have HB7R0 := Lib.hid hb711
    have HFIT := Lib.hid hfit
    clear hja11 hb711 hb11 krt hfit HB710 HB79
    go_wp2_with fail
    go_loopw [9, 10] (fun tv iv wr => ∃ k : Nat, k ≤ a.lines.length ∧ iv = .int .i64 k ∧ tv = .int .i64 (debits (a.lines.take k)) ∧ wr = w11) (fun _ iv _ => a.lines.length - (intOf iv).toNat)
    case atStart => exact ⟨0, Nat.zero_le _, rfl, rfl, rfl⟩
    case round =>
      obtain ⟨k, hk, rfl, rfl, rfl⟩ := hrel
      by_cases hlt : k < a.lines.length
      · obtain ⟨ad, x, rfl, hbk, hx, p1, p2, p3⟩ := HR11.out.lin hlt
        have hkn : (k : Int) < (a.lines.length : Int) := by omega
        have p2' := cell_behind p2 (by omega)
        have hbd := debits_bound HFIT.out k (by omega)
        have hfx := fits1_iff.1 (List.all_eq_true.1 HFIT.out x (List.mem_of_getElem? hx))
        have HST := Lib.hid (debits_step hx)
        clear hx p1 p2 p3
        obtain ⟨x1, xa, x3⟩ := x
        dsimp only at *
        generalize debits (a.lines.take k) = D at *
        have hmx : IntKind.i64.wrap (D + max xa 0) = D + max xa 0 := by rw [IntKind.wrap_i64]; omega
        go_wp2_with fail
        exact ⟨⟨k + 1, by omega, by go_num, by rw [HST.out], by first | rfl | trivial⟩, by simp [intOf]; omega⟩
      · obtain rfl : k = a.lines.length := by omega
        rw [List.take_of_length_le (Nat.le_refl _)]
        have HB7R := Lib.hid HB7R0.out
        clear HB7R0
        obtain ⟨W12, hW12⟩ : ∃ W12, wr.alloc (.cells #[.slice none 0 0, .slice none 0 0, .slice none 0 0, .slice none 0 0, .slice none 0 0, .slice none 0 0, .slice none 0 0, .slice none 0 0, .slice none 0 0, .slice none 0 0, .slice none 0 0, .slice none 0 0, .slice none 0 0, .slice none 0 0, .slice none 0 0, .slice none 0 0, .slice none 0 0, .slice none 0 0, .slice none 0 0, .slice none 0 0] 47) = W12 := ⟨_, rfl⟩
        have hb12 : Below wr.heap.size wr W12 := by rw [← hW12]; exact (Below.refl _ _).alloc (Nat.le_refl _) _
        have hk12 : BookAt W12 wr.heap.size fun _ => .slice none 0 0 := by rw [← hW12]; exact heap_new wr _
        have hz12 : W12.heap.size = wr.heap.size + 1 := by rw [← hW12]; simp
        have hb712 : Below W7.heap.size W7 W12 := HB7R.out.trans (hb12.mono HB7R.out.size)
        have HW12 := Lib.hid hW12
        have HB712 := Lib.hid hb712
        have HK12 := Lib.hid hk12
        have hz7r := HB7R.out.size
        clear hb12 hk12 hW12 hb712
        go_wp2_with fail
        rw [HW12.out]
        refine etR15_any _ _ _ _ _ _ _ _ _ _ _ _ _ _ _ _ _ _ _ _ _ _ _ _ _ _ _ _ _ _ _ _ _ _ _ _ _ _ _ _ _ _ _ _ _ _ _ _ _ _ _ _ _ _ _ _ _ _ _ _ _ _ _ _ _ _ _ _ _ _ _ _ _ _ _ _ _ _ _ _ _ _ _ _ _ _ _ _ _ _ _ _ _ _ _ _ _ _ _ _ _ _ _ _ _ _ _ _ _ _ _ _ _ _ _ _ _ _ _ _ _ _ _ _ _ _ _ _ _ _ _ a (some ⟨g, 0, none⟩) a.lines.length cap w4.heap.size W12.heap.size W12 (jat_below HJM7.out HB712.out) ((HL7.out.below HB712.out).rd) (Nat.le_refl _) (by omega) (fun h => by cases h) ?_
        intro u85 u86 u87 u88 b1 b2 A1 A2 c1 c2 w13 J1 J2 R1 R2 hdis hne low1 low2 hb13
        have hb713 : Below W7.heap.size W7 w13 := HB712.out.trans (hb13.mono HB712.out.size)
        have hb013 : Below w.heap.size w w13 := HB07.out.trans (hb713.mono HB07.out.size)
        have hz07 := HB07.out.size
        have hT : TellAt w13 w.heap.size w.heap.size (w.heap.size + 1) w4.heap.size b1 g a b A Ab A1 c nb cb cap c1 := ⟨jat_below HJA7.out hb713, jat_below HJB7.out hb713, jat_below HJM7.out hb713, J1, H1.out.far hb013 (Nat.le_refl _), H2.out.far hb013 (Nat.le_refl _), HL7.out.below hb713, rd_of_own R1, hb013.size, hna, hnb, hsa⟩
        rename_i K hK
        refine hK _ _ ?_
        exact etTail_any _ _ _ _ _ _ _ _ _ _ _ _ _ _ _ _ _ _ _ _ _ _ _ _ _ _ _ _ _ _ _ _ _ _ _ _ _ _ _ _ _ _ _ _ _ _ _ _ _ _ _ _ _ _ _ _ _ _ _ _ _ _ _ _ _ _ _ _ _ _ _ _ _ _ _ _ _ _ _ _ _ _ _ _ _ _ _ _ _ _ _ _ _ _ _ _ _ _ _ _ _ _ _ _ _ _ _ _ _ _ _ _ _ _ _ _ _ _ _ _ _ _ _ _ w _ a b HTT.out A Ab A1 A2 c nb cb cap c1 c2 w.heap.size w.heap.size (w.heap.size + 1) w4.heap.size b1 b2 wr.heap.size g w13 hT J2 (HK12.out.kept (hb13.block _ (by omega))) (own_base R1 (by omega)) (own_base R2 (by omega)) hdis ⟨by omega, by omega⟩ (by omega) hb013
  · rw [if_neg hE0]
    have HTT : Hid (totalJ a = 0) := by unfold Hid totalJ; rw [if_neg hE0]
    have t1 : (checkE a == 0) = false := by simpa using hE0
    have t2 : (checkE a != 0) = true := by simpa using hE0
    have t3 : (checkE a != checkE a) = false := by simp
    clear hE hE0
    generalize checkE a = E at *
    have hlc : Hid ((0 : Int) < (a.lines.length : Int) ∨ ¬ (0 : Int) < (a.lines.length : Int)) := by unfold Hid; omega
    go_wp2_with fail
    refine kk.out.mono ?_
    rintro e wr ⟨rfl, hb10⟩
    have hb710 : Below W7.heap.size W7 wr := HB79.out.trans (hb10.mono HB79.out.size)
    have hja10 := jat_below HJA7.out hb710
    clear m0 m1 m2 m3 m4 m5
    obtain ⟨y0, y1, y2, y3, y4, y5⟩ := six_cells hja10
    have HB7R := Lib.hid hb710
    clear hja10 hb710 hb10 kk
    rcases hlc.out with hl0 | hl0
    all_goals
      go_wp2_with fail
      refine wp_loop_rounds 1 ?_
      rw [rounds_succ]
      obtain ⟨W12, hW12⟩ : ∃ W12, wr.alloc (.cells #[.slice none 0 0, .slice none 0 0, .slice none 0 0, .slice none 0 0, .slice none 0 0, .slice none 0 0, .slice none 0 0, .slice none 0 0, .slice none 0 0, .slice none 0 0, .slice none 0 0, .slice none 0 0, .slice none 0 0, .slice none 0 0, .slice none 0 0, .slice none 0 0, .slice none 0 0, .slice none 0 0, .slice none 0 0, .slice none 0 0] 47) = W12 := ⟨_, rfl⟩
      have hb12 : Below wr.heap.size wr W12 := by rw [← hW12]; exact (Below.refl _ _).alloc (Nat.le_refl _) _
      have hk12 : BookAt W12 wr.heap.size fun _ => .slice none 0 0 := by rw [← hW12]; exact heap_new wr _
      have hz12 : W12.heap.size = wr.heap.size + 1 := by rw [← hW12]; simp
      have hb712 : Below W7.heap.size W7 W12 := HB7R.out.trans (hb12.mono HB7R.out.size)
      have HW12 := Lib.hid hW12
      have HB712 := Lib.hid hb712
      have HK12 := Lib.hid hk12
      have hz7r := HB7R.out.size
      clear hb12 hk12 hW12 hb712
      go_wp2_with fail
      rw [HW12.out]
      refine etR15_any _ _ _ _ _ _ _ _ _ _ _ _ _ _ _ _ _ _ _ _ _ _ _ _ _ _ _ _ _ _ _ _ _ _ _ _ _ _ _ _ _ _ _ _ _ _ _ _ _ _ _ _ _ _ _ _ _ _ _ _ _ _ _ _ _ _ _ _ _ _ _ _ _ _ _ _ _ _ _ _ _ _ _ _ _ _ _ _ _ _ _ _ _ _ _ _ _ _ _ _ _ _ _ _ _ _ _ _ _ _ _ _ _ _ _ _ _ _ _ _ _ _ _ _ _ _ _ _ _ _ _ a (some ⟨g, 0, none⟩) a.lines.length cap w4.heap.size W12.heap.size W12 (jat_below HJM7.out HB712.out) ((HL7.out.below HB712.out).rd) (Nat.le_refl _) (by omega) (fun h => by cases h) ?_
      intro u85 u86 u87 u88 b1 b2 A1 A2 c1 c2 w13 J1 J2 R1 R2 hdis hne low1 low2 hb13
      have hb713 : Below W7.heap.size W7 w13 := HB712.out.trans (hb13.mono HB712.out.size)
      have hb013 : Below w.heap.size w w13 := HB07.out.trans (hb713.mono HB07.out.size)
      have hz07 := HB07.out.size
      have hT : TellAt w13 w.heap.size w.heap.size (w.heap.size + 1) w4.heap.size b1 g a b A Ab A1 c nb cb cap c1 := ⟨jat_below HJA7.out hb713, jat_below HJB7.out hb713, jat_below HJM7.out hb713, J1, H1.out.far hb013 (Nat.le_refl _), H2.out.far hb013 (Nat.le_refl _), HL7.out.below hb713, rd_of_own R1, hb013.size, hna, hnb, hsa⟩
      rename_i K hK
      refine hK _ _ ?_
      exact etTail_any _ _ _ _ _ _ _ _ _ _ _ _ _ _ _ _ _ _ _ _ _ _ _ _ _ _ _ _ _ _ _ _ _ _ _ _ _ _ _ _ _ _ _ _ _ _ _ _ _ _ _ _ _ _ _ _ _ _ _ _ _ _ _ _ _ _ _ _ _ _ _ _ _ _ _ _ _ _ _ _ _ _ _ _ _ _ _ _ _ _ _ _ _ _ _ _ _ _ _ _ _ _ _ _ _ _ _ _ _ _ _ _ _ _ _ _ _ _ _ _ _ _ _ _ w _ a b HTT.out A Ab A1 A2 c nb cb cap c1 c2 w.heap.size w.heap.size (w.heap.size + 1) w4.heap.size b1 b2 wr.heap.size g w13 hT J2 (HK12.out.kept (hb13.block _ (by omega))) (own_base R1 (by omega)) (own_base R2 (by omega)) hdis ⟨by omega, by omega⟩ (by omega) hb013
end Go.Proofs.YtbdhhfaelnnocaaGreatDoor
