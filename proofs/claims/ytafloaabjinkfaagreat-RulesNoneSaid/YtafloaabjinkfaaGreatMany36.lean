/-
  Several texts, one behind the other: what each holds stands ahead of it.
-/
import Derived.Test.YtafloaabjinkfaaGreatMany35
import Derived.Test.YtafloaabjinkfaaGreatMany2
import Derived.Lib.SmallJoins

/-
  A journal that came in.
-/
namespace Go.Proofs.YtafloaabjinkfaaGreat
open Go.RowKit

instance : Inhabited Lin := ⟨⟨0, 0, 0⟩⟩
set_option maxRecDepth 100000 in
theorem argLins {H : Type} {enc : TypeId × Value → H} {w : World} {base : Nat} {spare : Nat → Bool} {held : Bool} {fuel : Nat} {A : Option Addr} {n c : Nat} {x : DataW H × List MemPlace}
    (h : DataW.trod enc Tryz.prog w base spare held fuel 27 (Value.cells (.slice A n c)).toList = some x) : ∃ l : List Lin, ArgRd Lin.cells 3 Lin.ok64 w A n c l :=
  argRd_of_trod _ 3 Lin.ok64 Tryz.underlying27 (by kernel_rfl) (by omega) (fun _ => rfl) (fun m cs y hy => by
    obtain ⟨xs, q, _, _, hl, hx, hf⟩ := DataW.trod_struct Tryz.underlying72 hy
    have hl : cs.length = 3 := hl.trans (by kernel_rfl)
    have hx : xs.length = 3 := hx
    match cs, hl with
    | [c0, c1, c2], _ =>
      obtain ⟨y0, h0⟩ := part_at (k := 1) (by kernel_rfl) (hf 0 _ rfl) (by omega)
      obtain ⟨y1, h1⟩ := part_at (k := 1) (by kernel_rfl) (hf 1 _ rfl) (by omega)
      obtain ⟨y2, h2⟩ := part_at (k := 1) (by kernel_rfl) (hf 2 _ rfl) (by omega)
      obtain ⟨n0, e0, _, w0⟩ := DataW.trod_int Tryz.underlying3 h0
      obtain ⟨n1, e1, _, w1⟩ := DataW.trod_int Tryz.underlying3 h1
      obtain ⟨n2, e2, _, w2⟩ := DataW.trod_int Tryz.underlying3 h2
      simp at e0 e1 e2
      subst e0 e1 e2
      exact ⟨⟨n0, n1, n2⟩, rfl, bounds_i64 w0, bounds_i64 w1, bounds_i64 w2⟩) h
theorem agg_of_six {v : Value} (h : v.cells.toList.length = 6) : ∃ cs, v = .agg cs ∧ v.cells = cs := by
  cases v <;> first | exact ⟨_, rfl, rfl⟩ | (simp [Value.cells] at h)
set_option maxRecDepth 100000 in
theorem argJrn {H : Type} {enc : TypeId × Value → H} {w : World} {base : Nat} {spare : Nat → Bool} {held : Bool} {fuel : Nat} {v : Value} {x : DataW H × List MemPlace}
    (h : DataW.trod enc Tryz.prog w base spare held fuel 29 v.cells.toList = some x) : ∃ (j : Jrn) (A : Option Addr) (n c : Nat), v = j.val A n c ∧ ArgRd Lin.cells 3 Lin.ok64 w A n c j.lines ∧ j.ok64 ∧ j.ref.size ≤ maxLen := by
  obtain ⟨xs, q, _, _, hl, hx, hf⟩ := DataW.trod_struct Tryz.underlying29 h
  have hl : v.cells.toList.length = 6 := hl.trans (by kernel_rfl)
  have hx : xs.length = 6 := hx
  obtain ⟨cs, rfl, hcs⟩ := agg_of_six hl
  rw [hcs] at hl hf
  obtain ⟨l⟩ := cs
  match l, hl with
  | [c0, c1, c2, c3, c4, c5], _ =>
    obtain ⟨y0, h0⟩ := part_at (k := 1) (by kernel_rfl) (hf 0 _ rfl) (by omega)
    obtain ⟨y1, h1⟩ := part_at (k := 1) (by kernel_rfl) (hf 1 _ rfl) (by omega)
    obtain ⟨y2, h2⟩ := part_at (k := 1) (by kernel_rfl) (hf 2 _ rfl) (by omega)
    obtain ⟨y3, h3⟩ := part_at (k := 1) (by kernel_rfl) (hf 3 _ rfl) (by omega)
    obtain ⟨y4, h4⟩ := part_at (k := 1) (by kernel_rfl) (hf 4 _ rfl) (by omega)
    obtain ⟨y5, h5⟩ := part_at (k := 1) (by kernel_rfl) (hf 5 _ rfl) (by omega)
    obtain ⟨n0, e0, _, w0⟩ := DataW.trod_int Tryz.underlying3 h0
    obtain ⟨n1, e1, _, w1⟩ := DataW.trod_int Tryz.underlying3 h1
    obtain ⟨n2, e2, _, w2⟩ := DataW.trod_int Tryz.underlying3 h2
    obtain ⟨s3, e3, _, w3⟩ := DataW.trod_string Tryz.underlying9 h3
    obtain ⟨A, n, c, e4⟩ := Joins.slice_form Tryz.underlying27 h4
    obtain ⟨b5, e5, _⟩ := DataW.trod_bool Tryz.underlying4 h5
    simp at e0 e1 e2 e3 e4 e5
    subst e0 e1 e2 e3 e4 e5
    obtain ⟨L, hL⟩ := argLins (A := A) (n := n) (c := c) (fuel := q) (x := y4) h4
    exact ⟨⟨n0, n1, n2, s3, L, b5⟩, A, n, c, rfl, hL, ⟨bounds_i64 w0, bounds_i64 w1, bounds_i64 w2, hL.wf⟩, w3⟩
end Go.Proofs.YtafloaabjinkfaaGreat

/-
  The walk of the statement RulesNone.
-/
-- WIT0: .agg #[.int .i64 0, .int .i64 0, .int .i64 0, .string ByteArray.empty, .slice none 0 0, .bool false]
-- HOLE2: obtain ⟨fuel0, hf0⟩ := h0
-- obtain ⟨j0, A0, n0, c0, rfl, q0, r0, s0⟩ := argJrn hf0
-- obtain rfl : j0.lines.length = n0 := q0.rd.lins_len
-- exact rulesNone_walk ⟨j0, A0, c0⟩ a1 W q0.len s0
namespace Go.Proofs.YtafloaabjinkfaaGreat
open Go.RowKit Go.Sort
def noneCells (c g b : Nat) : List Value := [.pointer none, .pointer none, .pointer none, .pointer (some ⟨c, 0, none⟩), .pointer (some ⟨g, 0, none⟩), .pointer none, .pointer (some ⟨c, 0, none⟩), .pointer none, .pointer (some ⟨b, 0, none⟩), .pointer none, .pointer (some ⟨g + 1 + 1, 0, none⟩), .pointer (some ⟨g + 1 + 1 + 1, 0, none⟩)]
theorem none_row {w : World} {rb c g b k : Nat} (h : w.heap[rb]? = some (.cells (noneCells c g b).toArray 35 (0, 0))) (hk : k < 4) : ∃ cp gp bp, Lacks cp gp bp ∧ w.cell? ⟨rb, k * 3, none⟩ = some cp ∧ w.cell? ⟨rb, k * 3 + 1, none⟩ = some gp ∧ w.cell? ⟨rb, k * 3 + 2, none⟩ = some bp := by
  have hc : ∀ i v, (noneCells c g b)[i]? = some v → w.cell? ⟨rb, i, none⟩ = some v := fun i v hv => by
    rw [cell_of h i]
    simpa using hv
  match k, hk with
  | 0, _ => exact ⟨_, _, _, .inl rfl, hc 0 _ rfl, hc 1 _ rfl, hc 2 _ rfl⟩
  | 1, _ => exact ⟨_, _, _, .inr (.inr ⟨⟨_, rfl⟩, ⟨_, rfl⟩, rfl⟩), hc 3 _ rfl, hc 4 _ rfl, hc 5 _ rfl⟩
  | 2, _ => exact ⟨_, _, _, .inr (.inl ⟨⟨_, rfl⟩, rfl⟩), hc 6 _ rfl, hc 7 _ rfl, hc 8 _ rfl⟩
  | 3, _ => exact ⟨_, _, _, .inl rfl, hc 9 _ rfl, hc 10 _ rfl, hc 11 _ rfl⟩
set_option maxRecDepth 100000 in
set_option maxHeartbeats 2000000 in
theorem rulesNone_walk (j : JR) (id : Int) (w : World) (hl : j.j.lines.length ≤ maxLen) (hr : j.j.ref.size ≤ maxLen) :
    Calls Tryz.prog 5 #[.agg #[.int .i64 j.j.id, .int .i64 j.j.ent, .int .i64 j.j.per, .string j.j.ref, .slice j.A j.j.lines.length j.c, .bool j.j.void], .int .i64 id] w fun e w' => e = .returned (.bool true) ∧ Below w.heap.size w w' := by
  obtain ⟨W1, hW1⟩ : ∃ W1, w.alloc (.cells #[.int .i64 j.j.id, .int .i64 j.j.ent, .int .i64 j.j.per, .string j.j.ref, .slice j.A j.j.lines.length j.c, .bool j.j.void] 29) = W1 := ⟨_, rfl⟩
  have hb1 : Below w.heap.size w W1 := by rw [← hW1]; exact (Below.refl _ _).alloc (Nat.le_refl _) _
  have hx1 : JAt W1 w.heap.size j.j j.A j.j.lines.length j.c := by rw [← hW1]; exact heap_new w _
  unfold maxLen at hl hr
  have x3 := cell_of hx1 3
  have x4 := cell_of hx1 4
  simp only [List.getElem?_toArray, List.getElem?_cons_zero, List.getElem?_cons_succ] at x3 x4
  have ka := Lib.hid alive7_any
  have HW1 := Lib.hid hW1; have HB1 := Lib.hid hb1; have HX1 := Lib.hid hx1
  clear hW1 hb1 hx1
  go_enter Tryz.func5, Tryz.ntmps5
  by_cases h1 : j.j.lines.length ≤ 30
  · have h1I : ¬ (j.j.lines.length : Int) > 30 := by omega
    by_cases h2 : j.j.ref.size ≤ 60
    · have h2I : ¬ (j.j.ref.size : Int) > 60 := by omega
      go_wp2_with fail
      rw [HW1.out]
      refine (ka.out _).mono ?_
      rintro e w2 ⟨rfl, hb2⟩
      have HB2 : Hid (Below w.heap.size w w2) := HB1.out.trans (hb2.mono HB1.out.size)
      have HX2 : Hid (JAt w2 w.heap.size j.j j.A j.j.lines.length j.c) := (hb2.block _ (lt_of_blk HX1.out)).trans HX1.out
      clear hb2 x3 x4
      go_wp2_with fail
      refine (law3Make_any [] none 0 0 0 w2 Rd.nil_ (Nat.zero_le _) (by omega) GoodA.nil).mono ?_
      rintro e w3 ⟨v3, rfl, _, hb3⟩
      have HB3 : Hid (Below w.heap.size w w3) := HB2.out.trans (hb3.mono HB2.out.size)
      have HX3 : Hid (JAt w3 w.heap.size j.j j.A j.j.lines.length j.c) := (hb3.block _ (lt_of_blk HX2.out)).trans HX2.out
      have HZ3 := Lib.hid (lt_of_blk HX2.out)
      clear hb3
      go_wp2_with fail
      generalize hW5 : World.alloc _ _ = W5
      have hrow : W5.heap[w3.heap.size + 1 + 1 + 1 + 1]? = some (.cells (noneCells w2.heap.size w3.heap.size (w3.heap.size + 1)).toArray 35 (0, 0)) := by
        rw [← hW5]
        have := heap_new ((((w3.alloc (.cells #[.slice none 0 0] 60)).alloc (.cells #[.slice none 0 0] 62)).alloc (.cells #[.slice none 0 0] 60)).alloc (.cells #[.slice none 0 0] 62)) (.cells (noneCells w2.heap.size w3.heap.size (w3.heap.size + 1)).toArray 35)
        rw [show ((((w3.alloc (.cells #[.slice none 0 0] 60)).alloc (.cells #[.slice none 0 0] 62)).alloc (.cells #[.slice none 0 0] 60)).alloc (.cells #[.slice none 0 0] 62)).heap.size = w3.heap.size + 1 + 1 + 1 + 1 by simp] at this
        exact this
      have hb5 : Below w3.heap.size w3 W5 := by
        rw [← hW5]
        exact (((((Below.refl _ _).alloc (Nat.le_refl _) _).alloc (by simp) _).alloc (by simp; omega) _).alloc (by simp; omega) _).alloc (by simp; omega) _
      have HROW := Lib.hid hrow; have HB5 := Lib.hid hb5
      clear hW5 hrow hb5
      go_loopw [7, 8, 9] (fun iv _ _ wr => ∃ k : Nat, k ≤ 4 ∧ iv = .int .i64 k ∧ Below W5.heap.size W5 wr) (fun iv _ _ _ => 4 - (intOf iv).toNat)
      case atStart => exact ⟨0, by omega, rfl, Below.refl _ _⟩
      case round =>
        obtain ⟨k, hk, rfl, hbel⟩ := hrel
        by_cases hgo : k < 4
        · have hkI : (k : Int) < 4 := by omega
          obtain ⟨cp, gp, bp, hL, hcell⟩ : ∃ cp gp bp, Lacks cp gp bp ∧ ∀ W, Below W5.heap.size W5 W → W.cell? ⟨w3.heap.size + 1 + 1 + 1 + 1, k * 3, none⟩ = some cp ∧ W.cell? ⟨w3.heap.size + 1 + 1 + 1 + 1, k * 3 + 1, none⟩ = some gp ∧ W.cell? ⟨w3.heap.size + 1 + 1 + 1 + 1, k * 3 + 2, none⟩ = some bp := by
            obtain ⟨cp, gp, bp, hL, c0, c1, c2⟩ := none_row HROW.out hgo
            refine ⟨cp, gp, bp, hL, fun W hb => ?_⟩
            have e : ∀ o v, W5.cell? ⟨w3.heap.size + 1 + 1 + 1 + 1, o, none⟩ = some v → W.cell? ⟨w3.heap.size + 1 + 1 + 1 + 1, o, none⟩ = some v := fun o v h => by
              rw [cell_of ((hb.block _ (lt_of_blk HROW.out)).trans HROW.out) o, ← cell_of HROW.out o]
              exact h
            exact ⟨e _ _ c0, e _ _ c1, e _ _ c2⟩
          obtain ⟨c0, c1, c2⟩ := hcell _ hbel
          have kr := Lib.hid fun w => rulesReverse_no cp gp bp id id id w hL
          have kp := Lib.hid fun w => rulesPost_no cp gp bp j w hL
          have kd := Lib.hid fun w => rulesAmend_no cp gp bp j w hL
          have kv := Lib.hid fun w => rulesVoid_no cp gp bp id w hL
          have HBEL := Lib.hid hbel
          clear hbel
          go_wp2_with fail
          refine (kr.out _).mono ?_
          rintro e w6 ⟨rfl, hb6⟩
          have HB6 : Hid (Below W5.heap.size W5 w6) := HBEL.out.trans (hb6.mono HBEL.out.size)
          clear hb6 kr c0 c1 c2
          obtain ⟨W7, hW7⟩ : ∃ W7, w6.alloc (.cells #[.int .i64 0, .int .i64 0, .int .i64 0, .string ⟨#[]⟩, .slice none 0 0, .bool false] 29) = W7 := ⟨_, rfl⟩
          have HW7 := Lib.hid hW7
          clear hW7
          go_wp2_with fail
          rw [HW7.out]
          have hb7 : Below w6.heap.size w6 W7 := by rw [← HW7.out]; exact (Below.refl _ _).alloc (Nat.le_refl _) _
          have HB7 : Hid (Below W5.heap.size W5 W7) := HB6.out.trans (hb7.mono HB6.out.size)
          have hj7 : JAt W7 w.heap.size j.j j.A j.j.lines.length j.c := by
            have h5 : JAt W5 w.heap.size j.j j.A j.j.lines.length j.c := (HB5.out.block _ (lt_of_blk HX3.out)).trans HX3.out
            exact (HB7.out.block _ (lt_of_blk h5)).trans h5
          obtain ⟨e0, e1, e2⟩ := hcell W7 HB7.out
          have j0 := cell_of hj7 0
          have j1 := cell_of hj7 1
          have j2 := cell_of hj7 2
          have j3 := cell_of hj7 3
          have j4 := cell_of hj7 4
          have j5 := cell_of hj7 5
          simp only [List.getElem?_toArray, List.getElem?_cons_zero, List.getElem?_cons_succ] at j0 j1 j2 j3 j4 j5
          have r0 := cell_regrown e0
          have r1 := cell_regrown e1
          have r2 := cell_regrown e2
          have l0 := cell_regrown j0
          have l1 := cell_regrown j1
          have l2 := cell_regrown j2
          have l3 := cell_regrown j3
          have l4 := cell_regrown j4
          have l5 := cell_regrown j5
          have Q1 := Lib.hid (regrown_calls (w := W7) fun w1 _ => kp.out w1)
          have Q2 := Lib.hid (regrown_calls (w := W7) fun w1 _ => kd.out w1)
          have Q3 := Lib.hid (regrown_calls (w := W7) fun w1 _ => kv.out w1)
          clear hcell hb7 hj7 e0 e1 e2 j0 j1 j2 j3 j4 j5 kp kd kv
          refine wp_region_quiet_below (by kernel_rfl) (by kernel_rfl) ?_
          repeat (quiet_step (first | exact Q1.out _ _ | exact Q2.out _ _ | exact Q3.out _ _))
          refine wpQuiet_nil ?_
          intro _ hw'
          obtain ⟨⟨dq, osq⟩, hw''⟩ := hw'
          subst hw''
          have HB8 := Lib.hid (HB7.out.trans ((below_regrown W7 dq osq).mono HB7.out.size))
          go_wp2_with fail
          exact ⟨⟨k + 1, by omega, by go_num, HB8.out⟩, by simp [intOf]; omega⟩
        · have hkI : ¬ (k : Int) < 4 := by omega
          have HBEL := Lib.hid hbel
          clear hbel
          go_wp2_with fail
          refine (sum_nil (.pointer none) (.pointer none) 1 1 wr (by unfold in64; omega) (by unfold in64; omega)).mono ?_
          rintro e w6 ⟨rfl, hb6⟩
          have HB6 : Hid (Below W5.heap.size W5 w6) := HBEL.out.trans (hb6.mono HBEL.out.size)
          clear hb6
          go_wp2_with fail
          refine (debit_any 1 w6).mono ?_
          rintro e w7 ⟨rfl, hb7⟩
          have HB7 : Hid (Below W5.heap.size W5 w7) := HB6.out.trans (hb7.mono HB6.out.size)
          clear hb7
          go_wp2_with fail
          go_ret
          exact ⟨rfl, HB3.out.trans ((HB5.out.mono HB3.out.size).trans (HB7.out.mono (by have := HB3.out.size; have := HB5.out.size; omega)))⟩
    · have h2I : (j.j.ref.size : Int) > 60 := by omega
      go_wp2_with fail
      rw [HW1.out]
      refine (ka.out _).mono ?_
      rintro e w2 ⟨rfl, hb2⟩
      have HB2 : Hid (Below w.heap.size w w2) := HB1.out.trans (hb2.mono HB1.out.size)
      clear hb2
      go_wp2_with fail
      go_ret
      exact ⟨rfl, HB2.out⟩
  · have h1I : (j.j.lines.length : Int) > 30 := by omega
    go_wp2_with fail
    rw [HW1.out]
    refine (ka.out _).mono ?_
    rintro e w2 ⟨rfl, hb2⟩
    have HB2 : Hid (Below w.heap.size w w2) := HB1.out.trans (hb2.mono HB1.out.size)
    clear hb2
    go_wp2_with fail
    go_ret
    exact ⟨rfl, HB2.out⟩
end Go.Proofs.YtafloaabjinkfaaGreat
