/-
  Several texts, one behind the other: what each holds stands ahead of it.
-/
import Derived.Test.YtmgncoialppmpaaGreatMany11
import Derived.Test.YtmgncoialppmpaaGreatMany25
import Derived.Test.YtmgncoialppmpaaGreatRefPut
import Derived.Test.YtmgncoialppmpaaGreatMany26
import Derived.Test.YtmgncoialppmpaaGreatMany28
import Derived.Test.YtmgncoialppmpaaGreatMany7

/-
  Contracts of the statements' Of and Fit.
-/
namespace Go.Proofs.YtmgncoialppmpaaGreat
open Go.RowKit

set_option maxRecDepth 100000 in
set_option maxHeartbeats 1000000 in
theorem lawOf_any (l : List JR) (A : Option Addr) (n cap B : Nat) (w : World) (h : JlRd w B A n l) (hB : B ≤ w.heap.size) (hn : n ≤ maxLen) (hE : ofE [] (l.map JR.j) = 0) :
    Calls Tryz.prog 14 #[.slice A n cap] w fun e w' => e = .returned (.pointer (some ⟨w.heap.size, 0, none⟩)) ∧ TomeIn (fun k => k < w.heap.size + 1 ∧ k ≠ w.heap.size) (w.alloc (.cells #[.slice none 0 0] 147)) w.heap.size w.heap.size (ofM [] (l.map JR.j)) w' := by
  have ko := Lib.hid (of_any l A n cap B w h hB hn)
  have HE := Lib.hid hE
  clear h hE
  go_enter Tryz.func14, Tryz.ntmps14
  go_wp2_with fail
  refine ko.out.mono ?_
  rintro e w1 ⟨hq, _, _⟩
  obtain ⟨he, h1⟩ := hq HE.out
  clear hq
  subst he
  have H1 := Lib.hid h1
  clear h1
  go_wp2_with fail
  go_ret
  exact ⟨rfl, H1.out⟩

/-- A list that came of Put. -/
theorem PutEnd.jl {w w' : World} {l : List JR} {j : Jrn} {v : Value} {B n : Nat} {A : Option Addr} (h : PutEnd w l j v w') (hl : JlRd w B A n l) (hB : B ≤ w.heap.size) (hok : checkE j = 0) : ∃ A2 c2 A3 c3, v = .slice A3 (putK JR.id l ⟨j, A2, c2⟩).length c3 ∧ JlRd w' w'.heap.size A3 (putK JR.id l ⟨j, A2, c2⟩).length (putK JR.id l ⟨j, A2, c2⟩) ∧ Below w.heap.size w w' := by
  obtain ⟨A2, c2, h1, h2, h3⟩ := h
  obtain ⟨A3, c3, rfl⟩ := own_form h1
  have hz := h3.size
  refine ⟨A2, c2, A3, c3, rfl, ⟨rd_of_own h1, fun a ha => ?_, fun a ha => ?_, fun a ha => ?_⟩, h3⟩
  · rcases mem_put ha with rfl | ha
    · exact rd_of_own h2
    · exact ((hl.lines a ha).far h3 hB).wide (by omega)
  · rcases mem_put ha with rfl | ha
    · exact own_nil h2
    · exact hl.nil a ha
  · rcases mem_put ha with rfl | ha
    · exact checkE_max hok
    · exact hl.size a ha

set_option maxRecDepth 100000 in
set_option maxHeartbeats 4000000 in
theorem fitN_any (m : Nat) (hm : m ≤ 100) (l : List JR) (A : Option Addr) (n c B : Nat) (w : World) (h : JlRd w B A n l) (hB : B ≤ w.heap.size) (hn : n ≤ maxLen) :
    Calls Tryz.prog 60 #[.slice A n c, .int .i64 (m : Int)] w fun e w' => ∃ A' c' X, e = .returned (.slice A' X.length c') ∧ JlRd w' w'.heap.size A' X.length X ∧ GoodM (X.map JR.j) ∧ X.length ≤ m ∧ X.length ≤ n ∧ Below w.heap.size w w' := by
  unfold maxLen at hn
  have HJ := Lib.hid h
  clear h
  go_enter Tryz.func60, Tryz.ntmps60
  go_wp2_with fail
  go_loopw [5, 6] (fun ov iv wr => ∃ (k : Nat) (A' : Option Addr) (c' : Nat) (X : List JR), k ≤ n ∧ iv = .int .i64 k ∧ ov = .slice A' X.length c' ∧ JlRd wr wr.heap.size A' X.length X ∧ GoodM (X.map JR.j) ∧ X.length ≤ m ∧ X.length ≤ k ∧ Below w.heap.size w wr) (fun _ iv _ => n - (intOf iv).toNat)
  case atStart => exact ⟨0, none, 0, [], Nat.zero_le _, rfl, rfl, ⟨Rd.nil_, by simp, by simp, by simp⟩, GoodM.nil, by simp, by simp, Below.refl _ _⟩
  case round =>
    obtain ⟨k, A', c', X, hk, rfl, rfl, hX, hG, hX20, hXk, hbel⟩ := hrel
    have hzr := hbel.size
    by_cases hgo : k < n ∧ X.length < m
    · obtain ⟨hlt, hxl⟩ := hgo
      have hkn : (k : Int) < (n : Int) := by omega
      have hxI : (X.length : Int) < (m : Int) := by omega
      have hJ := HJ.out.far hbel hB
      obtain ⟨ad, b, rfl, hb1, hx, p1, p2, p3, p4, p5, p6⟩ := hJ.rd.jr hlt
      have hmem := List.mem_of_getElem? hx
      have hl63 := (HJ.out.size b hmem).2
      unfold maxLen at hl63
      by_cases h8 : b.j.lines.length ≤ 8
      · have h8I : (b.j.lines.length : Int) ≤ 8 := by omega
        have KP := Lib.hid (refPost_any X b.j A' b.A X.length c' b.j.lines.length b.c _ _ wr hX.rd (Nat.le_refl _) (by omega) (hJ.lines b hmem) (by omega))
        have KQ : Hid (∀ w1, Below wr.heap.size wr w1 → Calls Tryz.prog 81 #[.slice A' X.length c', b.j.val b.A b.j.lines.length b.c] w1 fun e w' => ∃ v, e = .returned v ∧ PutEnd w1 X b.j v w') := fun w1 hb1 => refPut_any X b.j A' b.A X.length c' b.c wr.heap.size B w1 (hX.rd.far hb1 (Nat.le_refl _)) hb1.size (by omega) (rise_jr hG.rise) ((hJ.lines b hmem).far hb1 (by omega)) (by have := hb1.size; omega) (by omega)
        have HR2 : Hid (∀ w1, Below wr.heap.size wr w1 → Rd w1 B 6 (some ad) n (jrs l)) := fun w1 hb => hJ.rd.far hb (by omega)
        have HX2 : Hid (∀ w1, Below wr.heap.size wr w1 → JlRd w1 w1.heap.size A' X.length X) := fun w1 hb => (hX.far hb (Nat.le_refl _)).wide hb.size
        have HB2 : Hid (∀ w1, Below wr.heap.size wr w1 → Below w.heap.size w w1) := fun w1 hb => hbel.trans (hb.mono hzr)
        have HG := Lib.hid hG
        have HXB := Lib.hid hx
        have HPUT : Hid (∀ w1 w2 v, Below wr.heap.size wr w1 → PutEnd w1 X b.j v w2 → checkE b.j = 0 → ∃ A2 c2 A3 c3, v = .slice A3 (putK JR.id X ⟨b.j, A2, c2⟩).length c3 ∧ JlRd w2 w2.heap.size A3 (putK JR.id X ⟨b.j, A2, c2⟩).length (putK JR.id X ⟨b.j, A2, c2⟩) ∧ Below w1.heap.size w1 w2) := fun w1 w2 v hb hp hok => hp.jl (hX.far hb (Nat.le_refl _)) hb.size hok
        unfold Jrn.val at KP KQ
        clear hx hX hG hbel hJ hmem
        by_cases hP : postE (X.map JR.j) b.j = 0
        · rw [hP] at KP
          have HP := Lib.hid hP
          have hblt : ad.block < wr.heap.size := by omega
          clear hP
          go_wp2_with fail
          refine KP.out.mono ?_
          rintro e w1 ⟨rfl, hb1⟩
          obtain ⟨ad', b', had, hb1', hx', q1, q2, q3, q4, q5, q6⟩ := (HR2.out w1 hb1).jr hlt
          injection had with had
          subst had
          obtain rfl : b' = b := by have := HXB.out; rw [hx'] at this; injection this
          have HB1 := Lib.hid hb1
          clear hb1 hx' p1 p2 p3 p4 p5 p6
          go_wp2_with fail
          refine (KQ.out w1 HB1.out).mono ?_
          rintro e w2 ⟨v, rfl, hpe⟩
          obtain ⟨A2, c2, A3, c3, rfl, hj2, hb2⟩ := HPUT.out w1 w2 v HB1.out hpe (postE_zero HP.out).1
          have HJ2 := Lib.hid hj2
          have HB3 := Lib.hid (HB2.out w2 (HB1.out.trans (hb2.mono HB1.out.size)))
          have hlen2 : (putK JR.id X ⟨b'.j, A2, c2⟩).length ≤ m := by
            rw [putK_len (rise_jr HG.out.rise)]
            split <;> omega
          have hlen3 : (putK JR.id X ⟨b'.j, A2, c2⟩).length ≤ k + 1 := by
            rw [putK_len (rise_jr HG.out.rise)]
            split <;> omega
          have HL3 := Lib.hid hlen3
          have HL2 := Lib.hid hlen2
          clear hj2 hb2 hpe q1 q2 q3 q4 q5 q6 hlen2 hlen3
          generalize hY : putK JR.id X ⟨b'.j, A2, c2⟩ = Y at *
          have HY := Lib.hid hY
          clear hY
          go_wp2_with fail
          refine ⟨⟨k + 1, A3, c3, Y, by omega, by go_num, rfl, HJ2.out, ?_, HL2.out, HL3.out, HB3.out⟩, by simp [intOf]; omega⟩
          rw [← HY.out, put_jr]
          exact HG.out.put HP.out
        · have ht : (postE (X.map JR.j) b.j == 0) = false := by simpa using hP
          clear hP
          generalize postE (X.map JR.j) b.j = E at *
          go_wp2_with fail
          refine KP.out.mono ?_
          rintro e w1 ⟨rfl, hb1⟩
          have HB1 := Lib.hid hb1
          clear hb1 p1 p2 p3 p4 p5 p6
          go_wp2_with fail
          exact ⟨⟨k + 1, A', c', X, by omega, by go_num, rfl, HX2.out w1 HB1.out, HG.out, by omega, by omega, HB2.out w1 HB1.out⟩, by simp [intOf]; omega⟩
      · have h8I : ¬ (b.j.lines.length : Int) ≤ 8 := by omega
        have HX := Lib.hid hX
        have HG := Lib.hid hG
        have HB := Lib.hid hbel
        clear hx hX hG hbel hJ hmem
        go_wp2_with fail
        exact ⟨⟨k + 1, A', c', X, by omega, by go_num, rfl, HX.out, HG.out, by omega, by omega, HB.out⟩, by simp [intOf]; omega⟩
    · have HX := Lib.hid hX
      have HG := Lib.hid hG
      have HB := Lib.hid hbel
      clear hX hG hbel
      by_cases h1 : k < n
      · have hkn : (k : Int) < (n : Int) := by omega
        have hxI : ¬ (X.length : Int) < (m : Int) := by omega
        go_wp2_with fail
        go_ret
        exact ⟨A', c', X, rfl, HX.out, HG.out, by omega, by omega, HB.out⟩
      · have hkn : ¬ (k : Int) < (n : Int) := by omega
        go_wp2_with fail
        go_ret
        exact ⟨A', c', X, rfl, HX.out, HG.out, by omega, by omega, HB.out⟩
theorem fit_any (l : List JR) (A : Option Addr) (n c B : Nat) (w : World) (h : JlRd w B A n l) (hB : B ≤ w.heap.size) (hn : n ≤ maxLen) :
    Calls Tryz.prog 60 #[.slice A n c, .int .i64 20] w fun e w' => ∃ A' c' X, e = .returned (.slice A' X.length c') ∧ JlRd w' w'.heap.size A' X.length X ∧ GoodM (X.map JR.j) ∧ X.length ≤ 20 ∧ Below w.heap.size w w' :=
  (fitN_any 20 (by omega) l A n c B w h hB hn).mono fun e w' hh => by
    obtain ⟨A', c', X, k1, k2, k3, k4, _, k5⟩ := hh
    exact ⟨A', c', X, k1, k2, k3, k4, k5⟩
end Go.Proofs.YtmgncoialppmpaaGreat

/-
  Contracts of the reference's Rules: live, Post.
-/
namespace Go.Proofs.YtmgncoialppmpaaGreat
open Go.RowKit Go.Sort

/-- The reference's lists of a made world. -/
structure QRd (w : World) (B : Nat) (C : List Acc) (G : List Trio) (r : List JR) (Ac Ag Ab : Option Addr) : Prop where
  c : Rd w B 3 Ac C.length (accs C)
  g : Rd w B 3 Ag G.length (trios G)
  m : JlRd w B Ab r.length r
  lc : C.length ≤ 1000
  gg : GoodT G
  gm : GoodM (r.map JR.j)
  lm : r.length ≤ 40
theorem QRd.far {w w' : World} {B B0 : Nat} {C : List Acc} {G : List Trio} {r : List JR} {Ac Ag Ab : Option Addr} (h : QRd w B C G r Ac Ag Ab) (hb : Below B0 w w') (hB : B ≤ B0) : QRd w' B C G r Ac Ag Ab :=
  ⟨h.c.far hb hB, h.g.far hb hB, h.m.far hb hB, h.lc, h.gg, h.gm, h.lm⟩
theorem three_cells {w : World} {b : Nat} {a0 a1 a2 : Value} {T : TypeId} (h : w.heap[b]? = some (.cells #[a0, a1, a2] T (0, 0))) : w.cell? ⟨b, 0, none⟩ = some a0 ∧ w.cell? ⟨b, 1, none⟩ = some a1 ∧ w.cell? ⟨b, 2, none⟩ = some a2 :=
  ⟨cell_of h 0, cell_of h 1, cell_of h 2⟩
theorem accts_at {l : List Lin} {k : Nat} {x : Lin} (h : l[k]? = some x) : (accts l)[k]? = some x.acct := by simp [accts, h]
theorem accts_len (l : List Lin) : (accts l).length = l.length := by simp [accts]
theorem QRd.oks {w : World} {B : Nat} {C : List Acc} {G : List Trio} {r : List JR} {Ac Ag Ab : Option Addr} (h : QRd w B C G r Ac Ag Ab) : ∀ b ∈ r, checkE b.j = 0 := fun b hb => h.gm.ok b.j (List.mem_map.2 ⟨b, hb, rfl⟩)
set_option maxRecDepth 100000 in
set_option maxHeartbeats 2000000 in
theorem refRLive_any (C : List Acc) (G : List Trio) (r : List JR) (Ac Ag Ab : Option Addr) (cc cg cb B : Nat) (j : Jrn) (A2 : Option Addr) (n2 c2 B2 : Nat) (w : World) (h : QRd w B C G r Ac Ag Ab) (hB : B ≤ w.heap.size) (h2 : Rd w B2 3 A2 n2 (lins j.lines)) (hB2 : B2 ≤ w.heap.size) (hn2 : n2 ≤ 1000000) :
    Calls Tryz.prog 77 #[.agg #[.slice Ac C.length cc, .slice Ag G.length cg, .slice Ab r.length cb], j.val A2 n2 c2] w fun e w' => e = .returned (.int .i64 (liveECh C (accts j.lines))) ∧ Below w.heap.size w w' := by
  obtain ⟨W, hW⟩ : ∃ W, (w.alloc (.cells #[.slice Ac C.length cc, .slice Ag G.length cg, .slice Ab r.length cb] 38)).alloc (.cells #[.int .i64 j.id, .int .i64 j.ent, .int .i64 j.per, .string j.ref, .slice A2 n2 c2, .bool j.void] 29) = W := ⟨_, rfl⟩
  obtain ⟨e1, e2, hbW⟩ := one_of hW
  have HW := Lib.hid hW
  have HL : Hid (j.lines.length = n2) := h2.lins_len
  have hlc := h.lc
  have HC : Hid (∀ w1, Below W.heap.size W w1 → Rd w1 B 3 Ac C.length (accs C)) := fun w1 hb => h.c.far (hbW.trans (hb.mono hbW.size)) hB
  have HR : Hid (∀ w1, Below W.heap.size W w1 → Rd w1 B2 3 A2 n2 (lins j.lines)) := fun w1 hb => h2.far (hbW.trans (hb.mono hbW.size)) hB2
  have HFIN : Hid (∀ w1, Below W.heap.size W w1 → Below w.heap.size w w1) := fun w1 hb => hbW.trans (hb.mono hbW.size)
  have HE1 : Hid (∀ w1, Below W.heap.size W w1 → w1.heap[w.heap.size]? = some (.cells #[.slice Ac C.length cc, .slice Ag G.length cg, .slice Ab r.length cb] 38 (0, 0))) := fun w1 hb => (hb.block _ (lt_of_blk e1)).trans e1
  have HE2 : Hid (∀ w1, Below W.heap.size W w1 → w1.heap[w.heap.size + 1]? = some (.cells #[.int .i64 j.id, .int .i64 j.ent, .int .i64 j.per, .string j.ref, .slice A2 n2 c2, .bool j.void] 29 (0, 0))) := fun w1 hb => (hb.block _ (lt_of_blk e2)).trans e2
  have HZ : Hid (B ≤ W.heap.size) := Nat.le_trans hB hbW.size
  clear hW e1 e2 hbW h h2
  unfold Jrn.val
  go_enter Tryz.func77, Tryz.ntmps77
  go_wp2_with fail
  rw [HW.out]
  go_loopw [5, 6] (fun iv _ wr => ∃ k : Nat, k ≤ n2 ∧ iv = .int .i64 k ∧ Hid (liveECh C ((accts j.lines).take k) = 0) ∧ Below W.heap.size W wr) (fun iv _ _ => n2 - (intOf iv).toNat)
  case atStart => exact ⟨0, Nat.zero_le _, rfl, rfl, Below.refl _ _⟩
  case round =>
    obtain ⟨k, hk, rfl, h0, hbel⟩ := hrel
    obtain ⟨b0, b1, b2, b3, b4, b5⟩ := six_cells (HE2.out wr hbel)
    obtain ⟨a0, a1, a2⟩ := three_cells (HE1.out wr hbel)
    by_cases hlt : k < n2
    · obtain ⟨ad, x, hA, _, hx, q1, _, _⟩ := (HR.out wr hbel).lin hlt
      subst hA
      have hkn : (k : Int) < (n2 : Int) := by omega
      have HST := Lib.hid (live_step (l := C) (accts_at hx) h0.out)
      have K0 := cell_regrown b4
      have K1 := cell_regrown a0
      have K2 := cell_regrown q1
      have HBW := Lib.hid hbel
      have Q1 := Lib.hid (regrown_calls (w := wr) fun w2 hb => refLive_any C x.acct Ac C.length cc B w2 (HC.out w2 (HBW.out.trans (hb.mono HBW.out.size))) (by have := HZ.out; have := HBW.out.size; have := hb.size; omega) (by omega))
      clear hx hbel b0 b1 b2 b3 b5 a0 a1 a2 q1
      generalize liveE1 C x.acct = E at *
      go_wp2_with fail
      clear b4
      refine wp_region_quiet_below (by kernel_rfl) (by kernel_rfl) ?_
      repeat (quiet_step (exact Q1.out _ _))
      refine wpQuiet_nil ?_
      intro _ hw'
      obtain ⟨⟨dq, osq⟩, hw''⟩ := hw'
      subst hw''
      have HB8 := Lib.hid (HBW.out.trans ((below_regrown wr dq osq).mono HBW.out.size))
      clear K0 K1 K2 Q1
      by_cases hE : E = 0
      · subst hE
        have ht : ((0 : Int) != 0) = false := rfl
        have HX := Lib.hid (HST.out.1 rfl)
        go_wp2_with fail
        exact ⟨⟨k + 1, by omega, by go_num, HX.out, HB8.out⟩, by simp [intOf]; omega⟩
      · have ht : (E != 0) = true := by simpa using hE
        have HX := Lib.hid (HST.out.2 hE)
        clear hE
        go_wp2_with fail
        go_ret
        exact ⟨ret_int HX.out.symm, HFIN.out _ HB8.out⟩
    · obtain rfl : k = n2 := by omega
      rw [List.take_of_length_le (by rw [accts_len]; have := HL.out; omega)] at h0
      have HB8 := Lib.hid (HFIN.out _ hbel)
      clear hbel
      go_wp2_with fail
      go_ret
      exact ⟨ret_int h0.out.symm, HB8.out⟩

theorem rd_ints_new (w : World) (xs : List Int) (T : TypeId) : Rd (w.alloc (.cells (ints .i64 xs).toArray T)) (w.heap.size + 1) 1 (some ⟨w.heap.size, 0, none⟩) xs.length (ints .i64 xs) :=
  ⟨by simp [ints], fun _ => ⟨_, rfl, Nat.lt_succ_self _, cells_new w (ints .i64 xs) T⟩⟩

set_option maxRecDepth 100000 in
set_option maxHeartbeats 4000000 in
theorem refRPost_any (C : List Acc) (G : List Trio) (r : List JR) (Ac Ag Ab : Option Addr) (cc cg cb B : Nat) (j : Jrn) (A2 : Option Addr) (c2 B2 : Nat) (w : World) (h : QRd w B C G r Ac Ag Ab) (hB : B ≤ w.heap.size) (h2 : Rd w B2 3 A2 j.lines.length (lins j.lines)) (hB2 : B2 ≤ w.heap.size) (hn2 : j.lines.length ≤ 1000000) :
    Calls Tryz.prog 16 #[.agg #[.slice Ac C.length cc, .slice Ag G.length cg, .slice Ab r.length cb], j.val A2 j.lines.length c2] w fun e w' => e = .returned (.int .i64 (rPostE C G (r.map JR.j) j)) ∧ Below w.heap.size w w' := by
  obtain ⟨W, hW⟩ : ∃ W, (w.alloc (.cells #[.slice Ac C.length cc, .slice Ag G.length cg, .slice Ab r.length cb] 38)).alloc (.cells #[.int .i64 j.id, .int .i64 j.ent, .int .i64 j.per, .string j.ref, .slice A2 j.lines.length c2, .bool j.void] 29) = W := ⟨_, rfl⟩
  obtain ⟨e1, e2, hbW⟩ := one_of hW
  have HW := Lib.hid hW
  have HQ : Hid (∀ w1, Below W.heap.size W w1 → QRd w1 B C G r Ac Ag Ab) := fun w1 hb => h.far (hbW.trans (hb.mono hbW.size)) hB
  have HR : Hid (∀ w1, Below W.heap.size W w1 → Rd w1 B2 3 A2 j.lines.length (lins j.lines)) := fun w1 hb => h2.far (hbW.trans (hb.mono hbW.size)) hB2
  have HFIN : Hid (∀ w1, Below W.heap.size W w1 → Below w.heap.size w w1) := fun w1 hb => hbW.trans (hb.mono hbW.size)
  have HE1 : Hid (∀ w1, Below W.heap.size W w1 → w1.heap[w.heap.size]? = some (.cells #[.slice Ac C.length cc, .slice Ag G.length cg, .slice Ab r.length cb] 38 (0, 0))) := fun w1 hb => (hb.block _ (lt_of_blk e1)).trans e1
  have HE2 : Hid (∀ w1, Below W.heap.size W w1 → w1.heap[w.heap.size + 1]? = some (.cells #[.int .i64 j.id, .int .i64 j.ent, .int .i64 j.per, .string j.ref, .slice A2 j.lines.length c2, .bool j.void] 29 (0, 0))) := fun w1 hb => (hb.block _ (lt_of_blk e2)).trans e2
  have HZ : Hid (∀ w1, Below W.heap.size W w1 → B ≤ w1.heap.size ∧ B2 ≤ w1.heap.size) := fun w1 hb => by have := hbW.size; have := hb.size; omega
  have hgl := h.gg.len
  have hlc := h.lc
  have hlm := h.lm
  obtain ⟨b0, b1, b2, b3, b4, b5⟩ := six_cells e2
  obtain ⟨a0, a1, a2⟩ := three_cells e1
  replace b0 := cell_regrown b0; replace b1 := cell_regrown b1; replace b2 := cell_regrown b2; replace b3 := cell_regrown b3; replace b4 := cell_regrown b4; replace b5 := cell_regrown b5
  replace a0 := cell_regrown a0; replace a1 := cell_regrown a1; replace a2 := cell_regrown a2
  have Q1 := Lib.hid (regrown_calls (w := W) fun w1 hb => refCheck_any j A2 j.lines.length c2 B2 w1 (HR.out w1 hb) (HZ.out w1 hb).2)
  have Q2 := Lib.hid (regrown_calls (w := W) fun w1 hb => refRLive_any C G r Ac Ag Ab cc cg cb B j A2 j.lines.length c2 B2 w1 (HQ.out w1 hb) (HZ.out w1 hb).1 (HR.out w1 hb) (HZ.out w1 hb).2 hn2)
  have Q3 := Lib.hid (regrown_calls (w := W) fun w1 hb => (refMay_any G j.ent j.per Ag G.length cg B w1 (HQ.out w1 hb).g (by omega) (HQ.out w1 hb).gg.2).mono fun e w' ⟨he, hw⟩ => ⟨he, hw ▸ Below.refl _ _⟩)
  have Q4 := Lib.hid (regrown_calls (w := W) fun w1 hb => (refIs_any j.void 1 w1).mono fun e w' ⟨he, hw⟩ => ⟨he, hw ▸ Below.refl _ _⟩)
  have Q5 := Lib.hid (regrown_calls (w := W) fun w1 hb => refPost_any r j Ab A2 r.length cb j.lines.length c2 B B2 w1 (HQ.out w1 hb).m.rd (HZ.out w1 hb).1 (by omega) (HR.out w1 hb) (HZ.out w1 hb).2)
  have KP : Hid (∀ w1, Below W.heap.size W w1 → Calls Tryz.prog 81 #[.slice Ab r.length cb, j.val A2 j.lines.length c2] w1 fun e w' => ∃ v, e = .returned v ∧ PutEnd w1 r j v w') := fun w1 hb => refPut_any r j Ab A2 r.length cb c2 B B2 w1 (HQ.out w1 hb).m.rd (HZ.out w1 hb).1 (by omega) (rise_jr (HQ.out w1 hb).gm.rise) (HR.out w1 hb) (HZ.out w1 hb).2 hn2
  have HNO := Lib.hid (rPost_no (C := C) (G := G) (M := r.map JR.j) (j := j))
  have HYES := Lib.hid (rPost_yes (C := C) (G := G) (M := r.map JR.j) (j := j))
  unfold post5 at HNO HYES
  have HLM := Lib.hid hlm
  clear hW e1 e2 hbW h h2 hgl hlc hlm
  unfold Jrn.val at *
  generalize liveECh C (accts j.lines) = E2 at *
  generalize mayT G j.ent j.per = E3 at *
  generalize (if j.void = true then (1 : Int) else 0) = E4 at *
  generalize postE (r.map JR.j) j = E5 at *
  generalize rPostE C G (r.map JR.j) j = E at *
  go_enter Tryz.func16, Tryz.ntmps16
  go_wp2_with fail
  rw [HW.out]
  refine wp_region_below_tail 19 (by kernel_rfl) (by kernel_rfl) ?_
  simp only [List.take_succ_cons, List.take_zero, List.drop_succ_cons, List.drop_zero]
  repeat (quiet_step (first | exact Q1.out _ _ | exact Q2.out _ _ | exact Q3.out _ _ | exact Q4.out _ _ | exact Q5.out _ _))
  refine wpQuiet_nil ?_
  intro w2 hw2
  have HB2 : Hid (Below W.heap.size W w2) := by
    obtain ⟨p, rfl⟩ := hw2
    exact below_regrown _ _ _
  clear hw2 Q1 Q2 Q3 Q4 Q5 a0 a1 a2 b0 b1 b2 b3 b4 b5
  have hrd := rd_ints_new w2 [checkE j, E2, E3, E4, E5] 41
  have kf := Lib.hid (refFirst_any [checkE j, E2, E3, E4, E5] _ 5 5 _ _ hrd (by omega))
  have HB3 : Hid (∀ o, Below W.heap.size W (w2.alloc o)) := fun o => HB2.out.alloc HB2.out.size o
  clear hrd
  go_wp2_with fail
  refine kf.out.mono ?_
  rintro e w3 ⟨rfl, rfl⟩
  clear kf
  generalize hF : firstE [checkE j, E2, E3, E4, E5] = F at *
  have HB3' := Lib.hid (HB3.out (.cells (ints .i64 [checkE j, E2, E3, E4, E5]).toArray 41))
  by_cases h0 : F = 0
  · subst h0
    have HY := Lib.hid (HYES.out (by first | rfl | trivial | assumption))
    clear HNO HYES
    have ht : ((0 : Int) != 0) = false := rfl
    obtain ⟨b0, b1, b2, b3, b4, b5⟩ := six_cells (HE2.out _ HB3'.out)
    obtain ⟨a0, a1, a2⟩ := three_cells (HE1.out _ HB3'.out)
    go_wp2_with fail
    refine (KP.out _ HB3'.out).mono ?_
    rintro e w4 ⟨v, rfl, hpe⟩
    obtain ⟨A4, c4, A3, c3, rfl, hjl, hb4⟩ := hpe.jl (HQ.out _ HB3'.out).m (HZ.out _ HB3'.out).1 HY.out.1
    have hbJ := put_jr r ⟨j, A4, c4⟩
    have hlen : (putK JR.id r ⟨j, A4, c4⟩).length ≤ 250 := by
      have h8 := putK_len (key := JR.id) (rise_jr (HQ.out _ HB3'.out).gm.rise) (a := ⟨j, A4, c4⟩)
      have h9 := HLM.out
      split at h8 <;> omega
    have hoks : ∀ b ∈ putK JR.id r ⟨j, A4, c4⟩, checkE b.j = 0 := fun b hb => by
      rcases mem_put hb with rfl | hb
      · exact HY.out.1
      · exact (HQ.out _ HB3'.out).oks b hb
    have km := refMoney_any (putK JR.id r ⟨j, A4, c4⟩) A3 _ c3 w4.heap.size w4 hjl (Nat.le_refl _) hoks hlen
    rw [hbJ] at km
    have KM := Lib.hid km
    have HB4 : Hid (Below W.heap.size W w4) := HB3'.out.trans (hb4.mono HB3'.out.size)
    clear hpe hjl hb4 hbJ hlen hoks km b0 b1 b2 b3 b4 b5 a0 a1 a2
    go_wp2_with fail
    refine KM.out.mono ?_
    rintro e w5 ⟨rfl, hb5⟩
    have HB5 := Lib.hid (HFIN.out _ (HB4.out.trans (hb5.mono HB4.out.size)))
    have HYE := Lib.hid HY.out.2.2
    clear hb5 KM
    go_wp2_with fail
    go_ret
    exact ⟨ret_int HYE.out.symm, HB5.out⟩
  · have ht : (F != 0) = true := by simpa using h0
    have HN := Lib.hid (HNO.out h0)
    clear HNO HYES h0
    go_wp2_with fail
    go_ret
    exact ⟨ret_int HN.out.symm, HFIN.out _ HB3'.out⟩
end Go.Proofs.YtmgncoialppmpaaGreat
