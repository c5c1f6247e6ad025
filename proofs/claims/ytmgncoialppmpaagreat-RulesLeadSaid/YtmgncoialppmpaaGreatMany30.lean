/-
  Several texts, one behind the other: what each holds stands ahead of it.
-/
import Derived.Test.YtmgncoialppmpaaGreatMany29
import Derived.Test.YtmgncoialppmpaaGreatMany12
import Derived.Test.YtmgncoialppmpaaGreatMany26
import Derived.Test.YtmgncoialppmpaaGreatMany21
import Derived.Test.YtmgncoialppmpaaGreatMany23

/-
  Contracts of the reference's Rules: Void, Amend.
-/
namespace Go.Proofs.YtmgncoialppmpaaGreat
open Go.RowKit Go.Sort

/-- The reference's Get, whatever is found, as a row. -/
theorem refGet_old (l : List JR) (x : Int) (A : Option Addr) (n c B : Nat) (w : World) (h : Rd w B 6 A n (jrs l)) (hB : B ≤ w.heap.size) (hn : n ≤ 1000000) :
    Calls Tryz.prog 34 #[.slice A n c, .int .i64 x] w fun e w' => e = .returned (.tuple #[.agg #[.int .i64 (oldR l x).j.id, .int .i64 (oldR l x).j.ent, .int .i64 (oldR l x).j.per, .string (oldR l x).j.ref, .slice (oldR l x).A (oldR l x).j.lines.length (oldR l x).c, .bool (oldR l x).j.void], .bool (hasId (l.map JR.j) x)]) ∧ Below w.heap.size w w' := by
  rw [hasId_map]
  unfold oldR
  cases hf : findK JR.id l x with
  | none => exact (refGet_none l x A n c B w h hB hn hf).mono fun e w' hh => ⟨hh.1, hh.2⟩
  | some a => exact (refGet_some l x a A n c B w h hB hn hf).mono fun e w' hh => ⟨hh.1, hh.2⟩
theorem oldR_mem {l : List JR} {x : Int} (h : liveE (l.map JR.j) x = 0) : oldR l x ∈ l := by
  have h1 := (liveE_has h).1
  rw [hasId_map] at h1
  unfold oldR
  cases hf : findK JR.id l x with
  | none => rw [hf] at h1; cases h1
  | some a => exact (findK_mem hf).1
theorem voidJ_ok {j : Jrn} (h : checkE j = 0) : checkE (voidJ j) = 0 := h
/-- Behind Put. -/
theorem put_money {w w4 : World} {B : Nat} {C : List Acc} {G : List Trio} {r : List JR} {Ac Ag Ab : Option Addr} {j : Jrn} {v : Value} (h : QRd w B C G r Ac Ag Ab) (hB : B ≤ w.heap.size) (hj : checkE j = 0) (hp : PutEnd w r j v w4) :
    ∃ A3 n3 c3, v = .slice A3 n3 c3 ∧ Below w.heap.size w w4 ∧ Calls Tryz.prog 80 #[.slice A3 n3 c3] w4 fun e w' => e = .returned (.int .i64 (moneyE (putK Jrn.id (r.map JR.j) j))) ∧ Below w4.heap.size w4 w' := by
  obtain ⟨A4, c4, A3, c3, rfl, hjl, hb4⟩ := hp.jl h.m hB hj
  have hbJ := put_jr r ⟨j, A4, c4⟩
  have hlen : (putK JR.id r ⟨j, A4, c4⟩).length ≤ 250 := by
    have h8 := putK_len (key := JR.id) (rise_jr h.gm.rise) (a := ⟨j, A4, c4⟩)
    have h9 := h.lm
    split at h8 <;> omega
  have hoks : ∀ b ∈ putK JR.id r ⟨j, A4, c4⟩, checkE b.j = 0 := fun b hb => by
    rcases mem_put hb with rfl | hb
    · exact hj
    · exact h.oks b hb
  have km := refMoney_any (putK JR.id r ⟨j, A4, c4⟩) A3 _ c3 w4.heap.size w4 hjl (Nat.le_refl _) hoks hlen
  rw [hbJ] at km
  exact ⟨A3, _, c3, rfl, hb4, km⟩

set_option maxRecDepth 100000 in
set_option maxHeartbeats 4000000 in
theorem refRVoid_any (C : List Acc) (G : List Trio) (r : List JR) (Ac Ag Ab : Option Addr) (cc cg cb B : Nat) (id : Int) (w : World) (h : QRd w B C G r Ac Ag Ab) (hB : B ≤ w.heap.size) :
    Calls Tryz.prog 20 #[.agg #[.slice Ac C.length cc, .slice Ag G.length cg, .slice Ab r.length cb], .int .i64 id] w fun e w' => e = .returned (.int .i64 (rVoidE G (r.map JR.j) id)) ∧ Below w.heap.size w w' := by
  obtain ⟨W, hW⟩ : ∃ W, w.alloc (.cells #[.slice Ac C.length cc, .slice Ag G.length cg, .slice Ab r.length cb] 38) = W := ⟨_, rfl⟩
  have e1 : W.heap[w.heap.size]? = some (.cells #[.slice Ac C.length cc, .slice Ag G.length cg, .slice Ab r.length cb] 38 (0, 0)) := by rw [← hW]; exact heap_new w _
  have hbW : Below w.heap.size w W := by rw [← hW]; exact (Below.refl _ _).alloc (Nat.le_refl _) _
  have HW := Lib.hid hW
  have hgl := h.gg.len
  have hlm := h.lm
  have HQ : Hid (∀ w1, Below W.heap.size W w1 → QRd w1 B C G r Ac Ag Ab) := fun w1 hb => h.far (hbW.trans (hb.mono hbW.size)) hB
  have HFIN : Hid (∀ w1, Below W.heap.size W w1 → Below w.heap.size w w1) := fun w1 hb => hbW.trans (hb.mono hbW.size)
  have HE1 : Hid (∀ w1, Below W.heap.size W w1 → w1.heap[w.heap.size]? = some (.cells #[.slice Ac C.length cc, .slice Ag G.length cg, .slice Ab r.length cb] 38 (0, 0))) := fun w1 hb => (hb.block _ (lt_of_blk e1)).trans e1
  have HZ : Hid (∀ w1, Below W.heap.size W w1 → B ≤ w1.heap.size) := fun w1 hb => by have := hbW.size; have := hb.size; omega
  have kg := Lib.hid (refGet_old r id Ab r.length cb B W (HQ.out W (Below.refl _ _)).m.rd (HZ.out W (Below.refl _ _)) (by omega))
  have HLIV := Lib.hid (liveE_two (r.map JR.j) id)
  have HNO := Lib.hid (rVoid_no (G := G) (M := r.map JR.j) (id := id))
  have HSH := Lib.hid (rVoid_shut (G := G) (M := r.map JR.j) (id := id))
  have HYES := Lib.hid (rVoid_yes (G := G) (M := r.map JR.j) (id := id))
  have HMEM := Lib.hid (oldR_mem (l := r) (x := id))
  have HOK : Hid (liveE (r.map JR.j) id = 0 → checkE (oldR r id).j = 0) := fun hl => h.oks _ (oldR_mem hl)
  rw [← oldR_j] at HLIV HSH HYES
  have hgd := h.gg.2
  have HGD := Lib.hid hgd; have HGL := Lib.hid hgl; have HLM := Lib.hid hlm
  clear hW hbW h hgd hgl hlm
  generalize oldR r id = o at *
  generalize hasId (r.map JR.j) id = H at *
  generalize liveE (r.map JR.j) id = L at *
  generalize rVoidE G (r.map JR.j) id = E at *
  obtain ⟨⟨oid, oent, oper, oref, olin, ovoid⟩, oA, oc⟩ := o
  dsimp only at *
  obtain ⟨a0, a1, a2⟩ := three_cells e1
  clear e1
  go_enter Tryz.func20, Tryz.ntmps20
  go_wp2_with fail
  rw [HW.out]
  refine kg.out.mono ?_
  rintro e w1 ⟨rfl, hb1⟩
  obtain ⟨W2, hW2⟩ : ∃ W2, w1.alloc (.cells #[.int .i64 oid, .int .i64 oent, .int .i64 oper, .string oref, .slice oA olin.length oc, .bool ovoid] 29) = W2 := ⟨_, rfl⟩
  have hb2 : Below w1.heap.size w1 W2 := by rw [← hW2]; exact (Below.refl _ _).alloc (Nat.le_refl _) _
  have e2 : W2.heap[w1.heap.size]? = some (.cells #[.int .i64 oid, .int .i64 oent, .int .i64 oper, .string oref, .slice oA olin.length oc, .bool ovoid] 29 (0, 0)) := by rw [← hW2]; exact heap_new w1 _
  have HW2 := Lib.hid hW2
  have HE2 : Hid (∀ w3, Below W2.heap.size W2 w3 → w3.heap[w1.heap.size]? = some (.cells #[.int .i64 oid, .int .i64 oent, .int .i64 oper, .string oref, .slice oA olin.length oc, .bool ovoid] 29 (0, 0))) := fun w3 hb => (hb.block _ (lt_of_blk e2)).trans e2
  have HBW2 : Hid (Below W.heap.size W W2) := hb1.trans (hb2.mono hb1.size)
  have HB2 : Hid (∀ w3, Below W2.heap.size W2 w3 → Below W.heap.size W w3) := fun w3 hb => HBW2.out.trans (hb.mono HBW2.out.size)
  clear hW2 hb1 hb2 kg a0 a1 a2
  go_wp2_with fail
  rw [HW2.out]
  have p5 := (six_cells e2).2.2.2.2.2
  have P5 := cell_regrown p5
  have Q1 := Lib.hid (regrown_calls (w := W2) fun w1 hb => (refIs_any (!H) 9 w1).mono fun e w' ⟨he, hw⟩ => ⟨he, hw ▸ Below.refl _ _⟩)
  have Q2 := Lib.hid (regrown_calls (w := W2) fun w1 hb => (refIs_any ovoid 11 w1).mono fun e w' ⟨he, hw⟩ => ⟨he, hw ▸ Below.refl _ _⟩)
  generalize hX1 : (if (!H) = true then (9 : Int) else 0) = X1 at *
  generalize hX2 : (if ovoid = true then (11 : Int) else 0) = X2 at *
  clear p5 e2
  refine wp_region_below_tail 6 (by kernel_rfl) (by kernel_rfl) ?_
  simp only [List.take_succ_cons, List.take_zero, List.drop_succ_cons, List.drop_zero]
  repeat (quiet_step (first | exact Q1.out _ _ | exact Q2.out _ _))
  refine wpQuiet_nil ?_
  intro w2 hw2
  have HB3 : Hid (Below W2.heap.size W2 w2) := by
    obtain ⟨p, rfl⟩ := hw2
    exact below_regrown _ _ _
  clear hw2 Q1 Q2 P5
  have hrd := rd_ints_new w2 [X1, X2] 41
  have kf := Lib.hid (refFirst_any [X1, X2] _ 2 2 _ _ hrd (by omega))
  have HB4 : Hid (Below W2.heap.size W2 (w2.alloc (.cells (ints .i64 [X1, X2]).toArray 41))) := HB3.out.alloc HB3.out.size _
  clear hrd
  go_wp2_with fail
  refine kf.out.mono ?_
  rintro e w3 ⟨rfl, rfl⟩
  clear kf
  rw [HLIV.out]
  clear HLIV
  by_cases hL : L = 0
  · have ht : (L != 0) = false := by simpa using hL
    have hmem := HMEM.out hL
    have hok := HOK.out hL
    have HSH := Lib.hid (HSH.out hL); have HYES := Lib.hid (HYES.out hL)
    obtain ⟨p0, p1, p2, p3, p4, p5⟩ := six_cells (HE2.out _ HB4.out)
    obtain ⟨a0, a1, a2⟩ := three_cells (HE1.out _ (HB2.out _ HB4.out))
    have km := Lib.hid fun w => fun hw => refMay_any G oent oper Ag G.length cg B w hw (by have := HGL.out; omega) HGD.out
    have HMM := Lib.hid hmem; have HO := Lib.hid hok
    clear hmem hok hL
    go_wp2_with fail
    refine (km.out _ (HQ.out _ (HB2.out _ HB4.out)).g).mono ?_
    rintro e w5 ⟨rfl, rfl⟩
    clear km
    generalize mayT G oent oper = M at *
    by_cases hM : M = 0
    · have ht2 : (M != 0) = false := by simpa using hM
      have HY := Lib.hid (HYES.out hM)
      have hlin := (HQ.out _ (HB2.out _ HB4.out)).m.lines _ HMM.out
      have HLEN : Hid (olin.length ≤ 1000000) := by have := (checkE_len HO.out).1; show olin.length ≤ 1000000; dsimp only at this; omega
      generalize w2.alloc _ = W4 at *
      have HLIN : Hid (∀ w3, Below W4.heap.size W4 w3 → Rd w3 B 3 oA olin.length (lins olin)) := fun w3 hb => hlin.far hb (HZ.out _ (HB2.out _ HB4.out))
      have HB5 : Hid (∀ w3, Below W4.heap.size W4 w3 → Below W.heap.size W w3) := fun w3 hb => HB2.out _ (HB4.out.trans (hb.mono HB4.out.size))
      replace p0 := cell_regrown p0; replace p1 := cell_regrown p1; replace p2 := cell_regrown p2; replace p3 := cell_regrown p3; replace p4 := cell_regrown p4; replace p5 := cell_regrown p5
      replace a2 := cell_regrown a2
      have Q1 := Lib.hid (regrown_calls (w := W4) fun w1 _ => refVoided_any ⟨oid, oent, oper, oref, olin, ovoid⟩ oA olin.length oc w1)
      unfold Jrn.val at Q1
      clear hlin hM a0 a1
      go_wp2_with fail
      refine wp_region_below_tail 4 (by kernel_rfl) (by kernel_rfl) ?_
      simp only [List.take_succ_cons, List.take_zero, List.drop_succ_cons, List.drop_zero]
      repeat (quiet_step (first | exact Q1.out _ _))
      refine wpQuiet_nil ?_
      intro w6 hw6
      have HB6 : Hid (Below W4.heap.size W4 w6) := by
        obtain ⟨p, rfl⟩ := hw6
        exact below_regrown _ _ _
      clear hw6 Q1 p0 p1 p2 p3 p4 p5 a2
      have HB6W := Lib.hid (HB5.out _ HB6.out)
      have kp := Lib.hid (refPut_any r (voidJ ⟨oid, oent, oper, oref, olin, ovoid⟩) Ab oA r.length cb oc B B w6 (HQ.out _ HB6W.out).m.rd (HZ.out _ HB6W.out) (by have := HLM.out; omega) (rise_jr (HQ.out _ HB6W.out).gm.rise) (HLIN.out _ HB6.out) (HZ.out _ HB6W.out) HLEN.out)
      unfold Jrn.val voidJ at kp
      dsimp only at kp
      go_wp2_with fail
      refine kp.out.mono ?_
      rintro e w7 ⟨v, rfl, hpe⟩
      obtain ⟨A3, n3, c3, rfl, hb7, km7⟩ := put_money (HQ.out _ HB6W.out) (HZ.out _ HB6W.out) (j := voidJ ⟨oid, oent, oper, oref, olin, ovoid⟩) (voidJ_ok HO.out) hpe
      have KM := Lib.hid km7
      have HB7 : Hid (Below W.heap.size W w7) := HB6W.out.trans (hb7.mono HB6W.out.size)
      clear hpe hb7 km7 kp
      go_wp2_with fail
      refine KM.out.mono ?_
      rintro e w8 ⟨rfl, hb8⟩
      have HB8 := Lib.hid (HFIN.out _ (HB7.out.trans (hb8.mono HB7.out.size)))
      clear hb8 KM
      go_wp2_with fail
      go_ret
      exact ⟨ret_int HY.out.symm, HB8.out⟩
    · have ht2 : (M != 0) = true := by simpa using hM
      have HS := Lib.hid (HSH.out hM)
      have HB5 := Lib.hid (HFIN.out _ (HB2.out _ HB4.out))
      clear hM
      go_wp2_with fail
      go_ret
      exact ⟨ret_int HS.out.symm, HB5.out⟩
  · have ht : (L != 0) = true := by simpa using hL
    have HN := Lib.hid (HNO.out hL)
    have HB5 := Lib.hid (HFIN.out _ (HB2.out _ HB4.out))
    clear hL HNO
    go_wp2_with fail
    go_ret
    exact ⟨ret_int HN.out.symm, HB5.out⟩
end Go.Proofs.YtmgncoialppmpaaGreat

/-
  What the reference's SetGate makes, row by row. No code.
-/
namespace Go.Proofs.YtmgncoialppmpaaGreat
open Go.RowKit

/-- One row of the reference's loop: what was made, whether x is in it. -/
def refIn (x : Trio) (acc : List Trio) (d : Bool) (y : Trio) : List Trio := if d = false ∧ x.key < y.key then acc ++ [x] else acc
def refD (x : Trio) (d : Bool) (y : Trio) : Bool := d || decide (x.key < y.key)
def refOut (x : Trio) (acc : List Trio) (d : Bool) (y : Trio) : List Trio := if y.key = x.key then refIn x acc d y else refIn x acc d y ++ [y]
def refAllGt (x : Trio) : List Trio → Bool → List Trio → List Trio × Bool
  | acc, d, [] => (acc, d)
  | acc, d, y :: r => refAllGt x (refOut x acc d y) (refD x d y) r
def refEnd (x : Trio) (p : List Trio × Bool) : List Trio := if p.2 = false then p.1 ++ [x] else p.1

theorem refAll_append (x : Trio) : ∀ (l m : List Trio) (acc : List Trio) (d : Bool), refAllGt x acc d (l ++ m) = refAllGt x (refAllGt x acc d l).1 (refAllGt x acc d l).2 m
  | [], m, acc, d => rfl
  | y :: l, m, acc, d => by rw [List.cons_append, refAllGt, refAllGt, refAll_append x l m]
theorem refAll_stepGt {x : Trio} {l : List Trio} {k : Nat} {y : Trio} (hy : l[k]? = some y) (acc : List Trio) (d : Bool) :
    refAllGt x acc d (l.take (k + 1)) = (refOut x (refAllGt x acc d (l.take k)).1 (refAllGt x acc d (l.take k)).2 y, refD x (refAllGt x acc d (l.take k)).2 y) := by
  obtain ⟨hl, rfl⟩ := List.getElem?_eq_some_iff.1 hy
  rw [List.take_succ_eq_append_getElem hl, refAll_append]
  rfl
theorem refAll_done (x : Trio) : ∀ (l acc : List Trio), refAllGt x acc true l = (acc ++ l.filter fun y => decide (y.key ≠ x.key), true)
  | [], acc => by simp [refAllGt]
  | y :: l, acc => by
    have h1 : refD x true y = true := rfl
    rw [refAllGt, h1, refAll_done x l]
    by_cases h : y.key = x.key
    · simp [refOut, refIn, h]
    · simp [refOut, refIn, h]
theorem filter_gt {l : List Trio} {k : Int} (h : ∀ y ∈ l, k < y.key) : (l.filter fun y => decide (y.key < k)) = [] ∧ (l.filter fun y => decide (k < y.key)) = l ∧ (l.filter fun y => decide (y.key ≠ k)) = l := by
  refine ⟨?_, ?_, ?_⟩
  · rw [List.filter_eq_nil_iff]
    intro a ha
    have := h a ha
    simp; omega
  · rw [List.filter_eq_self]
    intro a ha
    have := h a ha
    simp; omega
  · rw [List.filter_eq_self]
    intro a ha
    have := h a ha
    simp; omega
theorem refAll_not (x : Trio) : ∀ (l acc : List Trio), l.Pairwise (fun a b => a.key < b.key) → refEnd x (refAllGt x acc false l) = acc ++ ((l.filter fun y => decide (y.key < x.key)) ++ x :: (l.filter fun y => decide (x.key < y.key)))
  | [], acc, _ => by simp [refAllGt, refEnd]
  | y :: l, acc, h => by
    rw [List.pairwise_cons] at h
    rcases Int.lt_trichotomy y.key x.key with hy | hy | hy
    · have h1 : refD x false y = false := by simp [refD]; omega
      have h2 : refOut x acc false y = acc ++ [y] := by
        unfold refOut refIn
        rw [if_neg (by omega), if_neg (by omega)]
      rw [refAllGt, h1, h2, refAll_not x l _ h.2]
      have t1 : decide (y.key < x.key) = true := by simp [hy]
      have t2 : decide (x.key < y.key) = false := by simp; omega
      simp [t1, t2]
    · have h1 : refD x false y = false := by simp [refD]; omega
      have h2 : refOut x acc false y = acc := by
        unfold refOut refIn
        rw [if_pos hy, if_neg (by omega)]
      rw [refAllGt, h1, h2, refAll_not x l _ h.2]
      have t1 : decide (y.key < x.key) = false := by simp; omega
      have t2 : decide (x.key < y.key) = false := by simp; omega
      simp [t1, t2]
    · have h1 : refD x false y = true := by simp [refD]; omega
      have h2 : refOut x acc false y = acc ++ [x] ++ [y] := by
        unfold refOut refIn
        rw [if_neg (by omega), if_pos ⟨rfl, hy⟩]
      obtain ⟨f1, f2, f3⟩ := filter_gt (l := l) (k := x.key) fun a ha => by have := h.1 a ha; omega
      rw [refAllGt, h1, h2, refAll_done]
      have t1 : decide (y.key < x.key) = false := by simp; omega
      have t2 : decide (x.key < y.key) = true := by simp; omega
      rw [f3]
      simp [refEnd, t1, t2, f1, f2]
theorem new_filter (k : Int) : ∀ (l : List Trio), l.Pairwise (fun a b => a.key < b.key) → l.take (posT l k) = (l.filter fun y => decide (y.key < k)) ∧ restT l k = (l.filter fun y => decide (k < y.key))
  | [], _ => by simp [posT, restT]
  | b :: l, h => by
    rw [List.pairwise_cons] at h
    have ih := new_filter k l h.2
    unfold restT at ih ⊢
    rw [posT_cons]
    rcases Int.lt_trichotomy b.key k with hb | hb | hb
    · have t1 : decide (b.key < k) = true := by simp [hb]
      have t2 : decide (k < b.key) = false := by simp; omega
      have hf : findT (b :: l) k = findT l k := by
        unfold findT
        rw [List.find?_cons]
        have : (b.key == k) = false := by simp; omega
        rw [this]
      rw [if_pos hb, hf]
      constructor
      · rw [List.take_succ_cons, ih.1]; simp [t1]
      · rw [show posT l k + 1 + (if (findT l k).isSome = true then 1 else 0) = (posT l k + if (findT l k).isSome = true then 1 else 0) + 1 by omega, List.drop_succ_cons, ih.2]
        simp [t2]
    · obtain ⟨f1, f2, _⟩ := filter_gt (l := l) (k := k) fun a ha => by have := h.1 a ha; omega
      have t1 : decide (b.key < k) = false := by simp; omega
      have t2 : decide (k < b.key) = false := by simp; omega
      have hf : findT (b :: l) k = some b := by
        unfold findT
        rw [List.find?_cons]
        have : (b.key == k) = true := by simp [hb]
        rw [this]
      rw [if_neg (by omega), hf]
      simp [t1, t2, f1, f2]
    · obtain ⟨f1, f2, _⟩ := filter_gt (l := l) (k := k) fun a ha => by have := h.1 a ha; omega
      have t1 : decide (b.key < k) = false := by simp; omega
      have t2 : decide (k < b.key) = true := by simp; omega
      have hf : findT (b :: l) k = none := by
        unfold findT
        rw [List.find?_eq_none]
        intro a ha
        rcases List.mem_cons.1 ha with rfl | ha
        · simp; omega
        · have := h.1 a ha; simp; omega
      rw [if_neg (by omega), hf]
      simp [t1, t2, f1, f2]
theorem refSet_new {l : List Trio} (h : l.Pairwise fun a b => a.key < b.key) (e p s : Int) : (if (refAllGt ⟨e, p, s⟩ [] (decide (s = 0)) l).2 = false then (refAllGt ⟨e, p, s⟩ [] (decide (s = 0)) l).1 ++ [⟨e, p, s⟩] else (refAllGt ⟨e, p, s⟩ [] (decide (s = 0)) l).1) = newT l e p s := by
  obtain ⟨h1, h2⟩ := new_filter (e * 2000 + p) l h
  unfold newT
  rw [h1, h2]
  by_cases hs : s = 0
  · rw [decide_eq_true hs, refAll_done]
    simp only [hs, if_true, List.nil_append]
    rw [if_neg (by simp)]
    -- what is not it stands ahead of it or behind it
    show (l.filter fun y => decide (y.key ≠ e * 2000 + p)) = _
    clear h1 h2 hs
    induction l with
    | nil => rfl
    | cons b l ih =>
      rw [List.pairwise_cons] at h
      rcases Int.lt_trichotomy b.key (e * 2000 + p) with hb | hb | hb
      · have t1 : decide (b.key < e * 2000 + p) = true := by simp [hb]
        have t2 : decide (e * 2000 + p < b.key) = false := by simp; omega
        have t3 : decide (b.key ≠ e * 2000 + p) = true := by simp; omega
        simp only [List.filter_cons, t1, t2, t3]
        rw [ih h.2]; rfl
      · have t1 : decide (b.key < e * 2000 + p) = false := by simp; omega
        have t2 : decide (e * 2000 + p < b.key) = false := by simp; omega
        have t3 : decide (b.key ≠ e * 2000 + p) = false := by simp; omega
        simp only [List.filter_cons, t1, t2, t3]
        rw [ih h.2]; rfl
      · obtain ⟨f1, f2, f3⟩ := filter_gt (l := l) (k := e * 2000 + p) fun a ha => by have := h.1 a ha; omega
        have t1 : decide (b.key < e * 2000 + p) = false := by simp; omega
        have t2 : decide (e * 2000 + p < b.key) = true := by simp; omega
        have t3 : decide (b.key ≠ e * 2000 + p) = true := by simp; omega
        simp only [List.filter_cons, t1, t2, t3, f1, f2, f3]
        rfl
  · rw [decide_eq_false hs]
    have := refAll_not ⟨e, p, s⟩ l [] h
    unfold refEnd at this
    rw [this, if_neg hs]
    rfl
theorem refAll_len (x : Trio) : ∀ (l acc : List Trio) (d : Bool), (refAllGt x acc d l).1.length ≤ acc.length + 2 * l.length
  | [], acc, d => by simp [refAllGt]
  | y :: l, acc, d => by
    rw [refAllGt]
    have h1 := refAll_len x l (refOut x acc d y) (refD x d y)
    have h2 : (refOut x acc d y).length ≤ acc.length + 2 := by
      unfold refOut refIn
      split <;> split <;> simp
    simp at h1 ⊢
    omega
end Go.Proofs.YtmgncoialppmpaaGreat

/-
  Contract of the reference's SetGate.
-/
namespace Go.Proofs.YtmgncoialppmpaaGreat
open Go.RowKit

theorem infoGate : (Tryz.prog.info? 121).map (fun i => (i.zero, i.size, i.bytes)) = some (some (.agg #[.int .i64 0, .int .i64 0, .int .i64 0]), 3, 24) := by kernel_rfl
/-- One row more. -/
theorem gate_add {W : World} {B m : Nat} {v : Value} {acc : List Trio} (a : Trio) (hown : W.ownsRow B 121 3 v m (trios acc)) (hB : B ≤ W.heap.size) (hm : m ≤ 1000000) :
    ∃ A c w', (Builtin.append_ #[36, 36] 36 #[v, .slice (some ⟨W.heap.size, 0, none⟩) 1 1]).run Tryz.prog (W.alloc (.cells #[.int .i64 a.x, .int .i64 a.y, .int .i64 a.z] 121)) = .ok (.slice A (m + 1) c) w' ∧ w'.ownsRow B 121 3 (.slice A (m + 1) c) (m + 1) (trios (acc ++ [a])) ∧ But (fun k => v.ownBlock = some k) W w' ∧ (∀ k, (Value.slice A (m + 1) c).ownBlock = some k → v.ownBlock = some k ∨ W.heap.size ≤ k) ∧ W.heap.size + 1 ≤ w'.heap.size := by
  have hr : Rd (W.alloc (.cells #[.int .i64 a.x, .int .i64 a.y, .int .i64 a.z] 121)) (W.heap.size + 1) 3 (some ⟨W.heap.size, 0, none⟩) 1 a.cells := ⟨rfl, fun _ => ⟨_, rfl, by simp, rd_atGt (heap_new W _)⟩⟩
  obtain ⟨v', w', hrun, hown', hg, hp⟩ := append_fresh (P := Tryz.prog) (ty := 36) (c := 1) infoGate Tryz.underlying36 rfl (by omega) B v m _ (own_kept hown fun q hq _ => Below.heap_alloc W _ _ hq) hr (cells_oneT a) (by unfold maxLen; omega) (by omega) (by simp; omega)
  obtain ⟨A, c, rfl⟩ := own_form hown'
  have hb := But.of_grown hg
  refine ⟨A, c, w', hrun, ?_, ((But.of_below ((Below.refl _ _).alloc (Nat.le_refl _) _)).trans (hb.wide fun k _ hk => hk)), fun k hk => ?_, by have := hb.size; simpa using this⟩
  · rw [trios_append]
    have : trios [a] = a.cells := by simp [trios]
    rw [this]; exact hown'
  · rcases hp with h | h
    · exact .inl (by rw [← h]; exact hk)
    · rw [h] at hk
      injection hk with hk
      simp at hk
      exact .inr (by omega)

/-- What comes of the reference's SetGate. -/
def RefSet (w : World) (B : Nat) (l : List Trio) (E : Int) (e : Ending) (w' : World) : Prop :=
  ∃ A c, e = .returned (.tuple #[.slice A l.length c, .int .i64 E]) ∧ w'.ownsRow B 121 3 (.slice A l.length c) l.length (trios l) ∧ Below w.heap.size w w'
set_option maxRecDepth 100000 in
set_option maxHeartbeats 1000000 in
theorem refSet_lo (l : List Trio) (en pe s : Int) (A : Option Addr) (n c B : Nat) (w : World) (h : w.ownsRow B 121 3 (.slice A n c) n (trios l)) (h1 : en < 1) :
    Calls Tryz.prog 59 #[.slice A n c, .agg #[.int .i64 en, .int .i64 pe, .int .i64 s]] w (RefSet w B l 1) := by
  have HO := Lib.hid h
  have hl : l.length = n := by have := h.1; rw [trios_len] at this; omega
  subst hl
  clear h
  go_enter Tryz.func59, Tryz.ntmps59
  go_wp2_with fail
  go_ret2
  exact ⟨A, c, rfl, own_kept HO.out fun q hq _ => Below.heap_alloc _ _ _ hq, (Below.refl _ _).alloc (Nat.le_refl _) _⟩
set_option maxRecDepth 100000 in
set_option maxHeartbeats 1000000 in
theorem refSet_hi (l : List Trio) (en pe s : Int) (A : Option Addr) (n c B : Nat) (w : World) (h : w.ownsRow B 121 3 (.slice A n c) n (trios l)) (h1 : ¬ en < 1) (h2 : 9 < en) :
    Calls Tryz.prog 59 #[.slice A n c, .agg #[.int .i64 en, .int .i64 pe, .int .i64 s]] w (RefSet w B l 1) := by
  have HO := Lib.hid h
  have hl : l.length = n := by have := h.1; rw [trios_len] at this; omega
  subst hl
  clear h
  go_enter Tryz.func59, Tryz.ntmps59
  go_wp2_with fail
  go_ret2
  exact ⟨A, c, rfl, own_kept HO.out fun q hq _ => Below.heap_alloc _ _ _ hq, (Below.refl _ _).alloc (Nat.le_refl _) _⟩
set_option maxRecDepth 100000 in
set_option maxHeartbeats 1000000 in
theorem refSet_p (l : List Trio) (en pe s : Int) (A : Option Addr) (n c B : Nat) (w : World) (h : w.ownsRow B 121 3 (.slice A n c) n (trios l)) (h1 : ¬ en < 1) (h2 : ¬ 9 < en) (kv : ∀ w, Calls Tryz.prog 105 #[.int .i64 pe] w fun e w' => e = .returned (.bool false) ∧ w = w') :
    Calls Tryz.prog 59 #[.slice A n c, .agg #[.int .i64 en, .int .i64 pe, .int .i64 s]] w (RefSet w B l 1) := by
  have HO := Lib.hid h
  have hl : l.length = n := by have := h.1; rw [trios_len] at this; omega
  subst hl
  clear h
  go_enter Tryz.func59, Tryz.ntmps59
  go_wp2_with fail
  refine (kv _).mono ?_
  rintro e w1 ⟨rfl, rfl⟩
  go_wp2_with fail
  go_ret2
  exact ⟨A, c, rfl, own_kept HO.out fun q hq _ => Below.heap_alloc _ _ _ hq, (Below.refl _ _).alloc (Nat.le_refl _) _⟩
set_option maxRecDepth 100000 in
set_option maxHeartbeats 1000000 in
theorem refSet_s0 (l : List Trio) (en pe s : Int) (A : Option Addr) (n c B : Nat) (w : World) (h : w.ownsRow B 121 3 (.slice A n c) n (trios l)) (h1 : ¬ en < 1) (h2 : ¬ 9 < en) (kv : ∀ w, Calls Tryz.prog 105 #[.int .i64 pe] w fun e w' => e = .returned (.bool true) ∧ w = w') (h3 : s < 0) :
    Calls Tryz.prog 59 #[.slice A n c, .agg #[.int .i64 en, .int .i64 pe, .int .i64 s]] w (RefSet w B l 1) := by
  have HO := Lib.hid h
  have hl : l.length = n := by have := h.1; rw [trios_len] at this; omega
  subst hl
  clear h
  go_enter Tryz.func59, Tryz.ntmps59
  go_wp2_with fail
  refine (kv _).mono ?_
  rintro e w1 ⟨rfl, rfl⟩
  go_wp2_with fail
  go_ret2
  exact ⟨A, c, rfl, own_kept HO.out fun q hq _ => Below.heap_alloc _ _ _ hq, (Below.refl _ _).alloc (Nat.le_refl _) _⟩
set_option maxRecDepth 100000 in
set_option maxHeartbeats 1000000 in
theorem refSet_s2 (l : List Trio) (en pe s : Int) (A : Option Addr) (n c B : Nat) (w : World) (h : w.ownsRow B 121 3 (.slice A n c) n (trios l)) (h1 : ¬ en < 1) (h2 : ¬ 9 < en) (kv : ∀ w, Calls Tryz.prog 105 #[.int .i64 pe] w fun e w' => e = .returned (.bool true) ∧ w = w') (h3 : ¬ s < 0) (h4 : 2 < s) :
    Calls Tryz.prog 59 #[.slice A n c, .agg #[.int .i64 en, .int .i64 pe, .int .i64 s]] w (RefSet w B l 1) := by
  have HO := Lib.hid h
  have hl : l.length = n := by have := h.1; rw [trios_len] at this; omega
  subst hl
  clear h
  go_enter Tryz.func59, Tryz.ntmps59
  go_wp2_with fail
  refine (kv _).mono ?_
  rintro e w1 ⟨rfl, rfl⟩
  go_wp2_with fail
  go_ret2
  exact ⟨A, c, rfl, own_kept HO.out fun q hq _ => Below.heap_alloc _ _ _ hq, (Below.refl _ _).alloc (Nat.le_refl _) _⟩
set_option maxRecDepth 100000 in
set_option maxHeartbeats 1000000 in
theorem refSet_locked (l : List Trio) (en pe s st : Int) (A : Option Addr) (n c B : Nat) (w : World) (h : w.ownsRow B 121 3 (.slice A n c) n (trios l)) (h1 : ¬ en < 1) (h2 : ¬ 9 < en) (kv : ∀ w, Calls Tryz.prog 105 #[.int .i64 pe] w fun e w' => e = .returned (.bool true) ∧ w = w') (h3 : ¬ s < 0) (h4 : ¬ 2 < s) (ks : ∀ W, Below w.heap.size w W → Calls Tryz.prog 161 #[.slice A n c, .int .i64 en, .int .i64 pe] W fun e w' => e = .returned (.int .i64 st) ∧ W = w') (hs : st = 2) :
    Calls Tryz.prog 59 #[.slice A n c, .agg #[.int .i64 en, .int .i64 pe, .int .i64 s]] w (RefSet w B l 11) := by
  have HO := Lib.hid h
  have KS := Lib.hid ks
  have hl : l.length = n := by have := h.1; rw [trios_len] at this; omega
  subst hl
  subst hs
  clear h ks
  go_enter Tryz.func59, Tryz.ntmps59
  go_wp2_with fail
  refine (kv _).mono ?_
  rintro e w1 ⟨rfl, rfl⟩
  go_wp2_with fail
  refine (KS.out _ ((Below.refl _ _).alloc (Nat.le_refl _) _)).mono ?_
  rintro e w1 ⟨rfl, rfl⟩
  go_wp2_with fail
  go_ret2
  exact ⟨A, c, rfl, own_kept HO.out fun q hq _ => Below.heap_alloc _ _ _ hq, (Below.refl _ _).alloc (Nat.le_refl _) _⟩
set_option maxRecDepth 100000 in
set_option maxHeartbeats 1000000 in
theorem refSet_early (l : List Trio) (en pe s st : Int) (A : Option Addr) (n c B : Nat) (w : World) (h : w.ownsRow B 121 3 (.slice A n c) n (trios l)) (h1 : ¬ en < 1) (h2 : ¬ 9 < en) (kv : ∀ w, Calls Tryz.prog 105 #[.int .i64 pe] w fun e w' => e = .returned (.bool true) ∧ w = w') (h3 : ¬ s < 0) (h4 : ¬ 2 < s) (ks : ∀ W, Below w.heap.size w W → Calls Tryz.prog 161 #[.slice A n c, .int .i64 en, .int .i64 pe] W fun e w' => e = .returned (.int .i64 st) ∧ W = w') (hs : ¬ st = 2) (hs2 : s = 2) (hs3 : ¬ st = 1) :
    Calls Tryz.prog 59 #[.slice A n c, .agg #[.int .i64 en, .int .i64 pe, .int .i64 s]] w (RefSet w B l 11) := by
  have HO := Lib.hid h
  have KS := Lib.hid ks
  have hl : l.length = n := by have := h.1; rw [trios_len] at this; omega
  subst hl
  subst hs2
  have t1 : (st == 2) = false := by simp [hs]
  have t2 : (st != 1) = true := by simp [hs3]
  clear h ks
  go_enter Tryz.func59, Tryz.ntmps59
  go_wp2_with fail
  refine (kv _).mono ?_
  rintro e w1 ⟨rfl, rfl⟩
  go_wp2_with fail
  refine (KS.out _ ((Below.refl _ _).alloc (Nat.le_refl _) _)).mono ?_
  rintro e w1 ⟨rfl, rfl⟩
  go_wp2_with fail
  go_ret2
  exact ⟨A, c, rfl, own_kept HO.out fun q hq _ => Below.heap_alloc _ _ _ hq, (Below.refl _ _).alloc (Nat.le_refl _) _⟩
end Go.Proofs.YtmgncoialppmpaaGreat
