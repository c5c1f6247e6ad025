/-
  Several texts, one behind the other: what each holds stands ahead of it.
-/
import Derived.Test.YtmgncoialppmpaaGreatRulesAlive
import Derived.Test.YtmgncoialppmpaaGreatMany30

/-
  Contract of World.Light (variorumlaw7).
-/
namespace Go.Proofs.YtmgncoialppmpaaGreat
open Go.RowKit
/-- Light answers some bool, and writes nothing. -/
def LightEnd (w : World) (e : Ending) (w' : World) : Prop := (∃ b, e = .returned (.bool b)) ∧ Below w.heap.size w w'
set_option maxRecDepth 100000 in
set_option maxHeartbeats 2000000 in
theorem light_any (cv gv : Value) (r : List JR) (A : Option Addr) (n c B : Nat) (w : World) (h : JlRd w B A n r) (hB : B ≤ w.heap.size) (hn : n ≤ maxLen) :
    Calls Tryz.prog 9 #[.agg #[cv, gv, .slice A n c]] w (LightEnd w) := by
  obtain ⟨W1, hW1⟩ : ∃ W1, w.alloc (.cells #[cv, gv, .slice A n c] 26) = W1 := ⟨_, rfl⟩
  have hb1 : Below w.heap.size w W1 := by rw [← hW1]; exact (Below.refl _ _).alloc (Nat.le_refl _) _
  have hx1 : W1.heap[w.heap.size]? = some (.cells #[cv, gv, .slice A n c] 26 (0, 0)) := by rw [← hW1]; exact heap_new w _
  have h1 := h.far hb1 hB
  have x2 := cell_of hx1 2
  simp only [List.getElem?_toArray, List.getElem?_cons_zero, List.getElem?_cons_succ] at x2
  unfold maxLen at hn
  have HW1 := Lib.hid hW1; have HJ := Lib.hid h1; have HB1 := Lib.hid hb1
  clear h hx1 hb1 h1 hW1
  go_enter Tryz.func9, Tryz.ntmps9
  go_wp2_with fail
  go_loopw [3, 4] (fun sv iv wr => ∃ (k s : Nat), k ≤ n ∧ iv = .int .i64 k ∧ sv = .int .i64 s ∧ s ≤ 2031 ∧ wr = W1) (fun _ iv _ => n - (intOf iv).toNat)
  case atStart => exact ⟨0, 0, Nat.zero_le _, rfl, rfl, by omega, HW1.out⟩
  case round =>
    obtain ⟨k, s, hk, rfl, rfl, hs, rfl⟩ := hrel
    by_cases hgo : k < n ∧ s ≤ 2000
    · obtain ⟨hlt, hsl⟩ := hgo
      have hkn : (k : Int) < (n : Int) := by omega
      have hsI : (s : Int) ≤ 2000 := by omega
      obtain ⟨ad, b, rfl, hb1, hx, p1, p2, p3, p4, p5, p6⟩ := HJ.out.rd.jr hlt
      have hmem := List.mem_of_getElem? hx
      obtain ⟨hrl, hll⟩ := HJ.out.size b hmem
      unfold maxLen at hrl hll
      clear hx hmem
      by_cases h1 : b.j.lines.length ≤ 30
      · have h1I : ¬ (b.j.lines.length : Int) > 30 := by omega
        by_cases h2 : b.j.ref.size ≤ 60
        · have h2I : ¬ (b.j.ref.size : Int) > 60 := by omega
          go_wp2_with fail
          exact ⟨⟨k + 1, s + (1 + b.j.lines.length), by omega, by go_num, by go_num, by omega, trivial⟩, by simp [intOf]; omega⟩
        · have h2I : (b.j.ref.size : Int) > 60 := by omega
          go_wp2_with fail
          go_ret
          exact ⟨⟨_, rfl⟩, HB1.out⟩
      · have h1I : (b.j.lines.length : Int) > 30 := by omega
        go_wp2_with fail
        go_ret
        exact ⟨⟨_, rfl⟩, HB1.out⟩
    · by_cases h1 : k < n
      · have hkn : (k : Int) < (n : Int) := by omega
        have hsI : ¬ (s : Int) ≤ 2000 := by omega
        go_wp2_with fail
        go_ret
        exact ⟨⟨_, rfl⟩, HB1.out⟩
      · have hkn : ¬ (k : Int) < (n : Int) := by omega
        go_wp2_with fail
        go_ret
        exact ⟨⟨_, rfl⟩, HB1.out⟩
end Go.Proofs.YtmgncoialppmpaaGreat

/-
  Contract of the reference's Rules: Amend.
-/
namespace Go.Proofs.YtmgncoialppmpaaGreat
open Go.RowKit Go.Sort

set_option maxRecDepth 100000 in
set_option maxHeartbeats 8000000 in
theorem refRAmend_any (C : List Acc) (G : List Trio) (r : List JR) (Ac Ag Ab : Option Addr) (cc cg cb B : Nat) (j : Jrn) (A2 : Option Addr) (c2 B2 : Nat) (w : World) (h : QRd w B C G r Ac Ag Ab) (hB : B ≤ w.heap.size) (h2 : Rd w B2 3 A2 j.lines.length (lins j.lines)) (hB2 : B2 ≤ w.heap.size) (hn2 : j.lines.length ≤ 1000000) :
    Calls Tryz.prog 18 #[.agg #[.slice Ac C.length cc, .slice Ag G.length cg, .slice Ab r.length cb], j.val A2 j.lines.length c2] w fun e w' => e = .returned (.int .i64 (rAmendE C G (r.map JR.j) j)) ∧ Below w.heap.size w w' := by
  obtain ⟨W, hW⟩ : ∃ W, (w.alloc (.cells #[.slice Ac C.length cc, .slice Ag G.length cg, .slice Ab r.length cb] 38)).alloc (.cells #[.int .i64 j.id, .int .i64 j.ent, .int .i64 j.per, .string j.ref, .slice A2 j.lines.length c2, .bool j.void] 29) = W := ⟨_, rfl⟩
  obtain ⟨e1, e2, hbW⟩ := one_of hW
  have HW := Lib.hid hW
  have HQ : Hid (∀ w1, Below W.heap.size W w1 → QRd w1 B C G r Ac Ag Ab) := fun w1 hb => h.far (hbW.trans (hb.mono hbW.size)) hB
  have HR : Hid (∀ w1, Below W.heap.size W w1 → Rd w1 B2 3 A2 j.lines.length (lins j.lines)) := fun w1 hb => h2.far (hbW.trans (hb.mono hbW.size)) hB2
  have HFIN : Hid (∀ w1, Below W.heap.size W w1 → Below w.heap.size w w1) := fun w1 hb => hbW.trans (hb.mono hbW.size)
  have HE1 : Hid (∀ w1, Below W.heap.size W w1 → w1.heap[w.heap.size]? = some (.cells #[.slice Ac C.length cc, .slice Ag G.length cg, .slice Ab r.length cb] 38 (0, 0))) := fun w1 hb => (hb.block _ (lt_of_blk e1)).trans e1
  have HE2 : Hid (∀ w1, Below W.heap.size W w1 → w1.heap[w.heap.size + 1]? = some (.cells #[.int .i64 j.id, .int .i64 j.ent, .int .i64 j.per, .string j.ref, .slice A2 j.lines.length c2, .bool j.void] 29 (0, 0))) := fun w1 hb => (hb.block _ (lt_of_blk e2)).trans e2
  have HZ : Hid (∀ w1, Below W.heap.size W w1 → B ≤ w1.heap.size ∧ B2 ≤ w1.heap.size) := fun w1 hb => by have := hbW.size; have := hb.size; omega
  have hgl := h.gg.len
  have hlm := h.lm
  have kg := Lib.hid (refGet_old r j.id Ab r.length cb B W (HQ.out W (Below.refl _ _)).m.rd (HZ.out W (Below.refl _ _)).1 (by omega))
  have KCH : Hid (∀ w1, Below W.heap.size W w1 → Calls Tryz.prog 76 #[j.val A2 j.lines.length c2] w1 fun e w' => e = .returned (.int .i64 (checkE j)) ∧ Below w1.heap.size w1 w') := fun w1 hb => refCheck_any j A2 j.lines.length c2 B2 w1 (HR.out w1 hb) (HZ.out w1 hb).2
  have KLI : Hid (∀ w1, Below W.heap.size W w1 → Calls Tryz.prog 77 #[.agg #[.slice Ac C.length cc, .slice Ag G.length cg, .slice Ab r.length cb], j.val A2 j.lines.length c2] w1 fun e w' => e = .returned (.int .i64 (liveECh C (accts j.lines))) ∧ Below w1.heap.size w1 w') := fun w1 hb => refRLive_any C G r Ac Ag Ab cc cg cb B j A2 j.lines.length c2 B2 w1 (HQ.out w1 hb) (HZ.out w1 hb).1 (HR.out w1 hb) (HZ.out w1 hb).2 hn2
  have KMA : Hid (∀ en pe, ∀ w1, Below W.heap.size W w1 → Calls Tryz.prog 78 #[.slice Ag G.length cg, .int .i64 en, .int .i64 pe] w1 fun e w' => e = .returned (.int .i64 (mayT G en pe)) ∧ Below w1.heap.size w1 w') := fun en pe w1 hb => (refMay_any G en pe Ag G.length cg B w1 (HQ.out w1 hb).g (by omega) (HQ.out w1 hb).gg.2).mono fun e w' ⟨he, hw⟩ => ⟨he, hw ▸ Below.refl _ _⟩
  have KIS : Hid (∀ b x w1, Calls Tryz.prog 67 #[.bool b, .int .i64 x] w1 fun e w' => e = .returned (.int .i64 (if b = true then x else 0)) ∧ Below w1.heap.size w1 w') := fun b x w1 => (refIs_any b x w1).mono fun e w' ⟨he, hw⟩ => ⟨he, hw ▸ Below.refl _ _⟩
  have KTA : Hid (∀ w1, Below W.heap.size W w1 → Calls Tryz.prog 85 #[.slice Ab r.length cb, j.val A2 j.lines.length c2] w1 fun e w' => e = .returned (.bool (takenJ (r.map JR.j) j)) ∧ Below w1.heap.size w1 w') := fun w1 hb => refTakenR_any r j Ab A2 r.length cb j.lines.length c2 B w1 (HQ.out w1 hb).m.rd (HZ.out w1 hb).1 (by omega)
  have KP : Hid (∀ w1, Below W.heap.size W w1 → Calls Tryz.prog 81 #[.slice Ab r.length cb, j.val A2 j.lines.length c2] w1 fun e w' => ∃ v, e = .returned v ∧ PutEnd w1 r j v w') := fun w1 hb => refPut_any r j Ab A2 r.length cb c2 B B2 w1 (HQ.out w1 hb).m.rd (HZ.out w1 hb).1 (by omega) (rise_jr (HQ.out w1 hb).gm.rise) (HR.out w1 hb) (HZ.out w1 hb).2 hn2
  have HNO := Lib.hid (rAmend_no (C := C) (G := G) (M := r.map JR.j) (j := j))
  have HMID := Lib.hid (rAmend_mid (C := C) (G := G) (M := r.map JR.j) (j := j))
  unfold amend4 at HNO
  unfold amend4 amendB at HMID
  rw [← oldR_j] at HNO HMID
  clear hW e1 e2 hbW h h2 hgl hlm
  unfold Jrn.val at *
  generalize liveECh C (accts j.lines) = E2 at *
  generalize takenJ (r.map JR.j) j = TK at *
  generalize rAmendE C G (r.map JR.j) j = E at *
  generalize hasId (r.map JR.j) j.id = H at *
  generalize oldR r j.id = o at *
  obtain ⟨⟨oid, oent, oper, oref, olin, ovoid⟩, oA, oc⟩ := o
  dsimp only at *
  obtain ⟨a0, a1, a2⟩ := three_cells (HE1.out W (Below.refl _ _))
  obtain ⟨b0, b1, b2, b3, b4, b5⟩ := six_cells (HE2.out W (Below.refl _ _))
  go_enter Tryz.func18, Tryz.ntmps18
  go_wp2_with fail
  rw [HW.out]
  refine kg.out.mono ?_
  rintro e w1 ⟨rfl, hb1⟩
  obtain ⟨W2, hW2⟩ : ∃ W2, w1.alloc (.cells #[.int .i64 oid, .int .i64 oent, .int .i64 oper, .string oref, .slice oA olin.length oc, .bool ovoid] 29) = W2 := ⟨_, rfl⟩
  have hb2 : Below w1.heap.size w1 W2 := by rw [← hW2]; exact (Below.refl _ _).alloc (Nat.le_refl _) _
  have e2 : W2.heap[w1.heap.size]? = some (.cells #[.int .i64 oid, .int .i64 oent, .int .i64 oper, .string oref, .slice oA olin.length oc, .bool ovoid] 29 (0, 0)) := by rw [← hW2]; exact heap_new w1 _
  have HW2 := Lib.hid hW2
  have HE3 : Hid (∀ w3, Below W2.heap.size W2 w3 → w3.heap[w1.heap.size]? = some (.cells #[.int .i64 oid, .int .i64 oent, .int .i64 oper, .string oref, .slice oA olin.length oc, .bool ovoid] 29 (0, 0))) := fun w3 hb => (hb.block _ (lt_of_blk e2)).trans e2
  have HBW2 : Hid (Below W.heap.size W W2) := hb1.trans (hb2.mono hb1.size)
  have HB2 : Hid (∀ w3, Below W2.heap.size W2 w3 → Below W.heap.size W w3) := fun w3 hb => HBW2.out.trans (hb.mono HBW2.out.size)
  clear hW2 hb1 hb2 kg a0 a1 a2 b0 b1 b2 b3 b4 b5 e2
  go_wp2_with fail
  rw [HW2.out]
  obtain ⟨p0, p1, p2, p3, p4, p5⟩ := six_cells (HE3.out W2 (Below.refl _ _))
  obtain ⟨a0, a1, a2⟩ := three_cells (HE1.out W2 HBW2.out)
  obtain ⟨b0, b1, b2, b3, b4, b5⟩ := six_cells (HE2.out W2 HBW2.out)
  replace b0 := cell_regrown b0; replace b1 := cell_regrown b1; replace b2 := cell_regrown b2; replace b3 := cell_regrown b3; replace b4 := cell_regrown b4; replace b5 := cell_regrown b5
  replace a0 := cell_regrown a0; replace a1 := cell_regrown a1; replace a2 := cell_regrown a2; replace p5 := cell_regrown p5
  have Q1 := Lib.hid (regrown_calls (w := W2) fun w1 hb => KCH.out w1 (HB2.out w1 hb))
  have Q2 := Lib.hid (regrown_calls (w := W2) fun w1 hb => KLI.out w1 (HB2.out w1 hb))
  have Q3 := Lib.hid (regrown_calls (w := W2) fun w1 hb => KIS.out (!H) 9 w1)
  have Q4 := Lib.hid (regrown_calls (w := W2) fun w1 hb => KIS.out ovoid 11 w1)
  generalize hX1 : (if (!H) = true then (9 : Int) else 0) = X1 at *
  generalize hX2 : (if ovoid = true then (11 : Int) else 0) = X2 at *
  clear p0 p1 p2 p3 p4
  refine wp_region_below_tail 11 (by kernel_rfl) (by kernel_rfl) ?_
  simp only [List.take_succ_cons, List.take_zero, List.drop_succ_cons, List.drop_zero]
  repeat (quiet_step (first | exact Q1.out _ _ | exact Q2.out _ _ | exact Q3.out _ _ | exact Q4.out _ _))
  refine wpQuiet_nil ?_
  intro w2 hw2
  have HB3 : Hid (Below W2.heap.size W2 w2) := by
    obtain ⟨p, rfl⟩ := hw2
    exact below_regrown _ _ _
  clear hw2 Q1 Q2 Q3 Q4 p5 a0 a1 a2 b0 b1 b2 b3 b4 b5
  have hrd := rd_ints_new w2 [checkE j, E2, X1, X2] 41
  have kf := Lib.hid (refFirst_any [checkE j, E2, X1, X2] _ 4 4 _ _ hrd (by omega))
  have HB4 : Hid (Below W2.heap.size W2 (w2.alloc (.cells (ints .i64 [checkE j, E2, X1, X2]).toArray 41))) := HB3.out.alloc HB3.out.size _
  clear hrd
  go_wp2_with fail
  refine kf.out.mono ?_
  rintro e w3 ⟨rfl, rfl⟩
  clear kf
  generalize hF : firstE [checkE j, E2, X1, X2] = F at *
  generalize w2.alloc _ = W4 at *
  by_cases h0 : F = 0
  · subst h0
    have HM := Lib.hid (HMID.out (by first | rfl | trivial | assumption))
    clear HNO HMID
    have ht : ((0 : Int) != 0) = false := rfl
    have HB4W := Lib.hid (HB2.out _ HB4.out)
    have HB5 : Hid (∀ w3, Below W4.heap.size W4 w3 → Below W.heap.size W w3) := fun w3 hb => HB4W.out.trans (hb.mono HB4W.out.size)
    obtain ⟨p0, p1, p2, p3, p4, p5⟩ := six_cells (HE3.out W4 HB4.out)
    obtain ⟨a0, a1, a2⟩ := three_cells (HE1.out W4 HB4W.out)
    obtain ⟨b0, b1, b2, b3, b4, b5⟩ := six_cells (HE2.out W4 HB4W.out)
    replace b0 := cell_regrown b0; replace b1 := cell_regrown b1; replace b2 := cell_regrown b2; replace b3 := cell_regrown b3; replace b4 := cell_regrown b4; replace b5 := cell_regrown b5
    replace a1 := cell_regrown a1; replace a2 := cell_regrown a2; replace p1 := cell_regrown p1; replace p2 := cell_regrown p2
    have Q1 := Lib.hid (regrown_calls (w := W4) fun w1 hb => KMA.out oent oper w1 (HB5.out w1 hb))
    have Q2 := Lib.hid (regrown_calls (w := W4) fun w1 hb => KMA.out j.ent j.per w1 (HB5.out w1 hb))
    have Q3 := Lib.hid (regrown_calls (w := W4) fun w1 hb => KIS.out (j.void || !(j.ent == oent)) 1 w1)
    have Q4 := Lib.hid (regrown_calls (w := W4) fun w1 hb => KTA.out w1 (HB5.out w1 hb))
    have Q5 := Lib.hid (regrown_calls (w := W4) fun w1 hb => KIS.out TK 8 w1)
    generalize mayT G oent oper = X3 at *
    generalize mayT G j.ent j.per = X4 at *
    generalize hX5 : (if (j.void || !(j.ent == oent)) = true then (1 : Int) else 0) = X5 at *
    generalize hX6 : (if TK = true then (8 : Int) else 0) = X6 at *
    clear p0 p3 p4 p5 a0
    go_wp2_with fail
    obtain ⟨jid, jent, jper, jref, jlin, jvoid⟩ := j
    dsimp only at *
    cases jvoid
    all_goals
      simp only [Bool.false_or, Bool.true_or] at Q3
      refine wp_region_below_tail 29 (by kernel_rfl) (by kernel_rfl) ?_
      simp only [List.take_succ_cons, List.take_zero, List.drop_succ_cons, List.drop_zero]
      repeat (quiet_step (fail))
      go_big_quiet_want
      go_big_quiet_op
      go_big_quiet_call (exact Q1.out _ _)
      repeat (quiet_step (fail))
      go_big_quiet_want
      go_big_quiet_op
      go_big_quiet_call (exact Q2.out _ _)
      repeat (quiet_step (fail))
      go_big_quiet_want
      go_big_quiet_op
      go_big_quiet_call (exact Q3.out _ _)
      repeat (quiet_step (fail))
      go_big_quiet_want
      go_big_quiet_op
      go_big_quiet_call (exact Q4.out _ _)
      repeat (quiet_step (fail))
      go_big_quiet_want
      go_big_quiet_op
      go_big_quiet_call (exact Q5.out _ _)
      refine wpQuiet_nil ?_
      intro w6 hw6
      have HB6 : Hid (Below W4.heap.size W4 w6) := by
        obtain ⟨p, rfl⟩ := hw6
        exact below_regrown _ _ _
      clear hw6 Q1 Q2 Q3 Q4 Q5 p1 p2 a1 a2 b0 b1 b2 b3 b4 b5
      have hrd := rd_ints_new w6 [X3, X4, X5, X6] 41
      have kf := Lib.hid (refFirst_any [X3, X4, X5, X6] _ 4 4 _ _ hrd (by omega))
      have HB7 : Hid (Below W4.heap.size W4 (w6.alloc (.cells (ints .i64 [X3, X4, X5, X6]).toArray 41))) := HB6.out.alloc HB6.out.size _
      clear hrd
      go_wp2_with fail
      refine kf.out.mono ?_
      rintro e w3 ⟨rfl, rfl⟩
      clear kf
      generalize hF2 : firstE [X3, X4, X5, X6] = F2 at *
      generalize w6.alloc _ = W7 at *
      have HB7W := Lib.hid (HB5.out _ HB7.out)
      by_cases h1 : F2 = 0
      · subst h1
        have HE : Hid (E = moneyE (putK Jrn.id (r.map JR.j) ⟨jid, jent, jper, jref, jlin, _⟩)) := HM.out.2.2
        obtain ⟨b0, b1, b2, b3, b4, b5⟩ := six_cells (HE2.out W7 HB7W.out)
        obtain ⟨a0, a1, a2⟩ := three_cells (HE1.out W7 HB7W.out)
        go_wp2_with fail
        refine (KP.out _ HB7W.out).mono ?_
        rintro e w8 ⟨v, rfl, hpe⟩
        obtain ⟨A3, n3, c3, rfl, hb8, km8⟩ := put_money (HQ.out _ HB7W.out) (HZ.out _ HB7W.out).1 HM.out.1 hpe
        have KM := Lib.hid km8
        have HB8 : Hid (Below W.heap.size W w8) := HB7W.out.trans (hb8.mono HB7W.out.size)
        clear hpe hb8 km8 a0 a1 a2 b0 b1 b2 b3 b4 b5
        go_wp2_with fail
        refine KM.out.mono ?_
        rintro e w9 ⟨rfl, hb9⟩
        have HB9 := Lib.hid (HFIN.out _ (HB8.out.trans (hb9.mono HB8.out.size)))
        clear hb9 KM
        go_wp2_with fail
        go_ret
        exact ⟨ret_int HE.out.symm, HB9.out⟩
      · have ht2 : (F2 != 0) = true := by simpa using h1
        have HE : Hid (E = F2) := by have := HM.out.2.2; rw [if_neg h1] at this; exact this
        have HB9 := Lib.hid (HFIN.out _ HB7W.out)
        clear h1 HM
        go_wp2_with fail
        go_ret
        exact ⟨ret_int HE.out.symm, HB9.out⟩
  · have ht : (F != 0) = true := by simpa using h0
    have HN := Lib.hid (HNO.out h0)
    have HB5 := Lib.hid (HFIN.out _ (HB2.out _ HB4.out))
    clear HNO HMID h0
    go_wp2_with fail
    go_ret
    exact ⟨ret_int HN.out.symm, HB5.out⟩
end Go.Proofs.YtmgncoialppmpaaGreat
