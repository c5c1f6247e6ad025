/-
  Several texts, one behind the other: what each holds stands ahead of it.
-/
import Derived.Test.YtmgncoialppmpaaGreatMany13
import Derived.Test.YtmgncoialppmpaaGreatMany16
import Derived.Test.YtmgncoialppmpaaGreatTomePost
import Derived.Test.YtmgncoialppmpaaGreatTomeAmend
import Derived.Test.YtmgncoialppmpaaGreatMany9
import Derived.Test.YtmgncoialppmpaaGreatChartGet
import Derived.StillTailTactics
import Derived.Test.YtmgncoialppmpaaGreatMany11
import Derived.Laws.EntriesVeiled

/-
  Contracts of rules' questions that try it on a copy of the book: posts, amends, voids; and accountsAreLive.
-/
namespace Go.Proofs.YtmgncoialppmpaaGreat
open Go.RowKit

/-- The wish has a book of its own. -/
def TriesEnd (w : World) (q : Nat) (cp gp bp : Value) (id : Int) (j o : JR) (N : List Jrn) (w' : World) : Prop :=
  But (fun k => k = q) w w' ∧ ∃ d v l, WishAt w' q cp gp bp id j o (.pointer (some ⟨d, 0, none⟩)) ∧ TomeAt w' w.heap.size d v l ∧ l.map JR.j = N
theorem set_then {w : World} {q : Nat} {cp gp bp tv : Value} {id : Int} {j o : JR} (h : WishAt w q cp gp bp id j o tv) (u : Value) : WishAt (w.setCell ⟨q, 16, none⟩ u) q cp gp bp id j o u := ⟨set_here h.blk⟩

/-- Behind the copy, and the call upon it. -/
theorem tries_end {w w1 w2 w' : World} {q d : Nat} {cp gp bp : Value} {id : Int} {j o : JR} {v1 : Value} {l1 : List JR} {N : List Jrn} (hb1 : Below w.heap.size w w1) (hbt : But (fun k => k = q) w1 w2) (hW : WishAt w2 q cp gp bp id j o (.pointer (some ⟨d, 0, none⟩))) (hT : TomeAt w2 w.heap.size d v1 l1) (hq : q < w.heap.size) (hto : TomeTo w2.drew w.heap.size d v1 l1 N w') : TriesEnd w q cp gp bp id j o N w' := by
  obtain ⟨v', l', h1, h2, h3, h4⟩ := hto
  have hd := hT.low
  have hv : ∀ k, v1.ownBlock = some k → w.heap.size ≤ k := fun k hk => own_ge hT.own k hk
  have hz : w.heap.size ≤ w2.drew.heap.size := Nat.le_trans hb1.size hbt.size
  refine ⟨?_, d, v', l', hW.kept ?_, h1, h2⟩
  · have g1 : But (fun k => k = q) w w2.drew := (But.of_below hb1).trans (hbt.trans ⟨rfl, rfl, rfl, Nat.le_refl _, fun _ _ _ => rfl⟩)
    refine g1.more h3 fun k hk hk2 => ?_
    rcases hk2 with rfl | hk2
    · omega
    · have := hv k hk2; omega
  · refine (h3.block q (Nat.lt_of_lt_of_le hq hz) ?_)
    rintro (rfl | hk)
    · omega
    · have := hv q hk; omega
theorem then_but (w : World) (q : Nat) (u : Value) : But (fun k => k = q) w (w.setCell ⟨q, 16, none⟩ u) := ⟨rfl, rfl, rfl, by simp, fun k _ hk => Below.heap_setCell _ _ _ _ (fun e => hk e)⟩

set_option maxRecDepth 100000 in
set_option maxHeartbeats 2000000 in
theorem posts_any (q B c Br : Nat) (v : Value) (l : List JR) (cp gp tv : Value) (id : Int) (j o : JR) (w : World) (h : WishAt w q cp gp (.pointer (some ⟨c, 0, none⟩)) id j o tv) (hT : TomeAt w B c v l) (hR : Rd w Br 3 j.A j.j.lines.length (lins j.j.lines)) (hBr : Br ≤ q) (h0 : j.A = none → j.c = 0) (hN : j.j.lines.length ≤ maxLen) (hS : j.j.ref.size ≤ maxLen) :
    Calls Tryz.prog 74 #[.pointer (some ⟨q, 0, none⟩)] w fun e w' => e = .returned (.int .i64 (postE (l.map JR.j) j.j)) ∧ TriesEnd w q cp gp (.pointer (some ⟨c, 0, none⟩)) id j o (postL (l.map JR.j) j.j) w' := by
  obtain ⟨p0, p1, p2, p3, p16⟩ := h.head
  have hqc := h.lt
  have kc := Lib.hid (copyB_any B c v l w hT)
  have HW := Lib.hid h; have HR := Lib.hid hR
  clear h hT hR
  obtain ⟨E, hE⟩ : ∃ E, postE (l.map JR.j) j.j = E := ⟨_, rfl⟩
  obtain ⟨N, hN2⟩ : ∃ N, postL (l.map JR.j) j.j = N := ⟨_, rfl⟩
  rw [hE, hN2]
  have HEE := Lib.hid hE; have HNN := Lib.hid hN2
  clear hE hN2
  go_enter Tryz.func74, Tryz.ntmps74
  go_wp2_with fail
  refine kc.out.mono ?_
  rintro e w1 ⟨d, v1, l1, rfl, hl1, hT1, hb1⟩
  have hW1 := HW.out.below hb1
  have f16 := hW1.warm 16
  have hz1 := hb1.size
  have hq1 := hW1.lt
  obtain ⟨_, _, _, _, q16⟩ := hW1.head
  obtain ⟨w2, hw2⟩ : ∃ w2, w1.setCell ⟨q, 16, none⟩ (.pointer (some ⟨d, 0, none⟩)) = w2 := ⟨_, rfl⟩
  have hW2 : WishAt w2 q cp gp (.pointer (some ⟨c, 0, none⟩)) id j o (.pointer (some ⟨d, 0, none⟩)) := by rw [← hw2]; exact set_then hW1 _
  have hbt2 : But (fun k => k = q) w1 w2 := by rw [← hw2]; exact then_but _ _ _
  have hT2 : TomeAt w2 w.heap.size d v1 l1 := hT1.but hbt2 fun k hk e => by have := hT1.ge k hk; omega
  have hRd2 : Rd w2 Br 3 j.A j.j.lines.length (lins j.j.lines) := HR.out.below ((hb1.mono (by omega)).trans (hbt2.below (fun k _ hk => by omega) (by omega)))
  have kp := Lib.hid (post_any w.heap.size d v1 l1 j.j j.A j.c Br w2.drew (hT2.below (Below.refl _ _).drew) (hRd2.below (Below.refl _ _).drew) (by show Br ≤ w2.heap.size; have := hbt2.size; omega) h0 hN hS)
  rw [hl1, HEE.out, HNN.out] at kp
  unfold Jrn.val at kp
  obtain ⟨y0, y1, y2, y3, y16⟩ := hW2.head
  obtain ⟨y4, y5, y6, y7, y8, y9⟩ := hW2.jrn
  have HEND : Hid (∀ w', TomeTo w2.drew w.heap.size d v1 l1 N w' → TriesEnd w q cp gp (.pointer (some ⟨c, 0, none⟩)) id j o N w') := fun w' ht => tries_end hb1 hbt2 hW2 hT2 hqc ht
  have HW2 := Lib.hid hw2
  clear hb1 hbt2 hW2 hT2 hRd2 hT1 hW1 hl1 hw2 h0 hN hS kc
  go_wp2_with fail
  rw [HW2.out]
  go_still_tail 8, (by kernel_rfl)
  go_wp2_with fail
  refine kp.out.mono ?_
  rintro e w3 ⟨rfl, hto⟩
  have HE := Lib.hid (HEND.out _ hto)
  clear hto
  go_wp2_with fail
  go_ret
  exact ⟨rfl, HE.out⟩
set_option maxRecDepth 100000 in
set_option maxHeartbeats 2000000 in
theorem amends_any (q B c Br : Nat) (v : Value) (l : List JR) (cp gp tv : Value) (id : Int) (j o : JR) (w : World) (h : WishAt w q cp gp (.pointer (some ⟨c, 0, none⟩)) id j o tv) (hT : TomeAt w B c v l) (hR : Rd w Br 3 j.A j.j.lines.length (lins j.j.lines)) (hBr : Br ≤ q) (h0 : j.A = none → j.c = 0) (hN : j.j.lines.length ≤ maxLen) (hS : j.j.ref.size ≤ maxLen) :
    Calls Tryz.prog 84 #[.pointer (some ⟨q, 0, none⟩)] w fun e w' => e = .returned (.int .i64 (amendE (l.map JR.j) j.j)) ∧ TriesEnd w q cp gp (.pointer (some ⟨c, 0, none⟩)) id j o (amendL (l.map JR.j) j.j) w' := by
  obtain ⟨p0, p1, p2, p3, p16⟩ := h.head
  have hqc := h.lt
  have kc := Lib.hid (copyB_any B c v l w hT)
  have HW := Lib.hid h; have HR := Lib.hid hR
  clear h hT hR
  obtain ⟨E, hE⟩ : ∃ E, amendE (l.map JR.j) j.j = E := ⟨_, rfl⟩
  obtain ⟨N, hN2⟩ : ∃ N, amendL (l.map JR.j) j.j = N := ⟨_, rfl⟩
  rw [hE, hN2]
  have HEE := Lib.hid hE; have HNN := Lib.hid hN2
  clear hE hN2
  go_enter Tryz.func84, Tryz.ntmps84
  go_wp2_with fail
  refine kc.out.mono ?_
  rintro e w1 ⟨d, v1, l1, rfl, hl1, hT1, hb1⟩
  have hW1 := HW.out.below hb1
  have f16 := hW1.warm 16
  have hz1 := hb1.size
  have hq1 := hW1.lt
  obtain ⟨_, _, _, _, q16⟩ := hW1.head
  obtain ⟨w2, hw2⟩ : ∃ w2, w1.setCell ⟨q, 16, none⟩ (.pointer (some ⟨d, 0, none⟩)) = w2 := ⟨_, rfl⟩
  have hW2 : WishAt w2 q cp gp (.pointer (some ⟨c, 0, none⟩)) id j o (.pointer (some ⟨d, 0, none⟩)) := by rw [← hw2]; exact set_then hW1 _
  have hbt2 : But (fun k => k = q) w1 w2 := by rw [← hw2]; exact then_but _ _ _
  have hT2 : TomeAt w2 w.heap.size d v1 l1 := hT1.but hbt2 fun k hk e => by have := hT1.ge k hk; omega
  have hRd2 : Rd w2 Br 3 j.A j.j.lines.length (lins j.j.lines) := HR.out.below ((hb1.mono (by omega)).trans (hbt2.below (fun k _ hk => by omega) (by omega)))
  have kp := Lib.hid (amend_any w.heap.size d v1 l1 j.j j.A j.c Br w2.drew (hT2.below (Below.refl _ _).drew) (hRd2.below (Below.refl _ _).drew) (by show Br ≤ w2.heap.size; have := hbt2.size; omega) h0 hN hS)
  rw [hl1, HEE.out, HNN.out] at kp
  unfold Jrn.val at kp
  obtain ⟨y0, y1, y2, y3, y16⟩ := hW2.head
  obtain ⟨y4, y5, y6, y7, y8, y9⟩ := hW2.jrn
  have HEND : Hid (∀ w', TomeTo w2.drew w.heap.size d v1 l1 N w' → TriesEnd w q cp gp (.pointer (some ⟨c, 0, none⟩)) id j o N w') := fun w' ht => tries_end hb1 hbt2 hW2 hT2 hqc ht
  have HW2 := Lib.hid hw2
  clear hb1 hbt2 hW2 hT2 hRd2 hT1 hW1 hl1 hw2 h0 hN hS kc
  go_wp2_with fail
  rw [HW2.out]
  go_still_tail 8, (by kernel_rfl)
  go_wp2_with fail
  refine kp.out.mono ?_
  rintro e w3 ⟨rfl, hto⟩
  have HE := Lib.hid (HEND.out _ hto)
  clear hto
  go_wp2_with fail
  go_ret
  exact ⟨rfl, HE.out⟩

set_option maxRecDepth 100000 in
set_option maxHeartbeats 2000000 in
theorem voids_any (q B c : Nat) (v : Value) (l : List JR) (cp gp tv : Value) (id : Int) (j o : JR) (w : World) (h : WishAt w q cp gp (.pointer (some ⟨c, 0, none⟩)) id j o tv) (hT : TomeAt w B c v l) :
    Calls Tryz.prog 86 #[.pointer (some ⟨q, 0, none⟩)] w fun e w' => e = .returned (.int .i64 (liveE (l.map JR.j) id)) ∧ TriesEnd w q cp gp (.pointer (some ⟨c, 0, none⟩)) id j o (voidL (l.map JR.j) id) w' := by
  obtain ⟨p0, p1, p2, p3, p16⟩ := h.head
  have hqc := h.lt
  have kc := Lib.hid (copyB_any B c v l w hT)
  have HW := Lib.hid h
  clear h hT
  obtain ⟨E, hE⟩ : ∃ E, liveE (l.map JR.j) id = E := ⟨_, rfl⟩
  obtain ⟨N, hN2⟩ : ∃ N, voidL (l.map JR.j) id = N := ⟨_, rfl⟩
  rw [hE, hN2]
  have HEE := Lib.hid hE; have HNN := Lib.hid hN2
  clear hE hN2
  go_enter Tryz.func86, Tryz.ntmps86
  go_wp2_with fail
  refine kc.out.mono ?_
  rintro e w1 ⟨d, v1, l1, rfl, hl1, hT1, hb1⟩
  have hW1 := HW.out.below hb1
  have f16 := hW1.warm 16
  have hz1 := hb1.size
  have hq1 := hW1.lt
  obtain ⟨_, _, _, _, q16⟩ := hW1.head
  obtain ⟨w2, hw2⟩ : ∃ w2, w1.setCell ⟨q, 16, none⟩ (.pointer (some ⟨d, 0, none⟩)) = w2 := ⟨_, rfl⟩
  have hW2 : WishAt w2 q cp gp (.pointer (some ⟨c, 0, none⟩)) id j o (.pointer (some ⟨d, 0, none⟩)) := by rw [← hw2]; exact set_then hW1 _
  have hbt2 : But (fun k => k = q) w1 w2 := by rw [← hw2]; exact then_but _ _ _
  have hT2 : TomeAt w2 w.heap.size d v1 l1 := hT1.but hbt2 fun k hk e => by have := hT1.ge k hk; omega
  have kp := Lib.hid (void_any w.heap.size d v1 l1 id w2.drew (hT2.below (Below.refl _ _).drew))
  rw [hl1, HEE.out, HNN.out] at kp
  obtain ⟨y0, y1, y2, y3, y16⟩ := hW2.head
  have HEND : Hid (∀ w', TomeTo w2.drew w.heap.size d v1 l1 N w' → TriesEnd w q cp gp (.pointer (some ⟨c, 0, none⟩)) id j o N w') := fun w' ht => tries_end hb1 hbt2 hW2 hT2 hqc ht
  have HW2 := Lib.hid hw2
  clear hb1 hbt2 hW2 hT2 hT1 hW1 hl1 hw2 kc
  go_wp2_with fail
  rw [HW2.out]
  go_still_tail 8, (by kernel_rfl)
  go_wp2_with fail
  refine kp.out.mono ?_
  rintro e w3 ⟨rfl, hto⟩
  have HE := Lib.hid (HEND.out _ hto)
  clear hto
  go_wp2_with fail
  go_ret
  exact ⟨rfl, HE.out⟩
end Go.Proofs.YtmgncoialppmpaaGreat

/-
  Contract of rules' (*wish).accountsAreLive.
-/
namespace Go.Proofs.YtmgncoialppmpaaGreat
open Go.RowKit

/-- The codes that have been written so far. -/
def codeAt (L : List Lin) (k i : Nat) : Int := if i < k then ((L[i]?).map Lin.acct).getD 0 else 0
theorem codes_all (L : List Lin) : (List.range L.length).map (codeAt L L.length) = accts L := by
  apply List.ext_getElem?
  intro i
  rcases Nat.lt_or_ge i L.length with h | h
  · simp [codeAt, accts, h]
  · simp [accts, List.getElem?_eq_none h]
    omega
theorem codes_step {L : List Lin} {k : Nat} {x : Lin} (hx : L[k]? = some x) : ∀ i, (if i = k then x.acct else codeAt L k i) = codeAt L (k + 1) i := by
  intro i
  unfold codeAt
  by_cases h : i = k
  · subst h
    rw [if_pos rfl, if_pos (Nat.lt_succ_self _), hx]
    rfl
  · rw [if_neg h]
    by_cases h2 : i < k
    · rw [if_pos h2, if_pos (by omega)]
    · rw [if_neg h2, if_neg (by omega)]

set_option maxRecDepth 100000 in
set_option maxHeartbeats 2000000 in
theorem accountsAreLive_any (q c B Br : Nat) (v : Value) (l : List Acc) (gp bp tv : Value) (id : Int) (j o : JR) (w : World) (h : WishAt w q (.pointer (some ⟨c, 0, none⟩)) gp bp id j o tv) (hC : ChartAt w B c v l) (hR : Rd w Br 3 j.A j.j.lines.length (lins j.j.lines)) (hBr : Br ≤ w.heap.size) (hn : j.j.lines.length ≤ 100000) :
    Calls Tryz.prog 71 #[.pointer (some ⟨q, 0, none⟩)] w fun e w' => e = .returned (.int .i64 (liveECh l (accts j.j.lines))) ∧ Below w.heap.size w w' := by
  obtain ⟨p0, _, _, _, _⟩ := h.head
  obtain ⟨_, _, _, _, p8, _⟩ := h.jrn
  have hqz := h.lt
  obtain ⟨L, hL⟩ : ∃ L, j.j.lines = L := ⟨_, rfl⟩
  rw [hL] at p8 hR hn
  rw [hL]
  obtain ⟨n, hN⟩ : ∃ n, L.length = n := ⟨_, rfl⟩
  rw [hN] at p8 hR hn
  have hmk := fun W => make_row (P := Tryz.prog) (q := .i64) (k := .i64) (n := n) infoInt Tryz.underlying53 (by omega) W
  obtain ⟨W1, hW1⟩ : ∃ W1, w.alloc (.cells (madeCells #[.int .i64 0] n) 3) = W1 := ⟨_, rfl⟩
  have hb1 : Below w.heap.size w W1 := by rw [← hW1]; exact (Below.refl _ _).alloc (Nat.le_refl _) _
  have hnr : NRow 3 .i64 W1 w.heap.size n (fun _ => 0) := by rw [← hW1]; exact NRow.new w _ _ n
  have r0 : W1.cell? ⟨q, 8, none⟩ = some (.slice j.A n j.c) := (hb1.cell (by exact hqz)).trans p8
  have HW1 := Lib.hid hW1; have HB1 := Lib.hid hb1; have HNR := Lib.hid hnr
  have HW := Lib.hid h; have HC := Lib.hid hC; have HR := Lib.hid hR; have HN := Lib.hid hN
  clear hW1 hb1 hnr h hC hR hL hN r0
  go_enter Tryz.func71, Tryz.ntmps71
  go_wp2_with fail
  rw [HW1.out]
  go_loopw [19, 4, 5] (fun iv _ _ wr => ∃ k : Nat, k ≤ n ∧ iv = .int .i64 k ∧ NRow 3 .i64 wr w.heap.size n (codeAt L k) ∧ Below w.heap.size w wr) (fun iv _ _ _ => n - (intOf iv).toNat)
  case atStart => exact ⟨0, Nat.zero_le _, rfl, HNR.out.congr fun i _ => by simp [codeAt], HB1.out⟩
  case round =>
    obtain ⟨k, hk, rfl, hnr, hbel⟩ := hrel
    have hzr := hbel.size
    by_cases hlt : k < n
    · have hkn : (k : Int) < (n : Int) := by omega
      have hRr := HR.out.far hbel hBr
      obtain ⟨ad, x, e1, hbk, hx, s1, s2, s3⟩ := hRr.lin hlt
      rw [e1] at HR
      have s2' := cell_behind s2 (by omega)
      have s3' := cell_behind s3 (by omega)
      have hc := hnr.cell hlt
      have hlr := hnr.lt
      have fz := hnr.warm k
      have HNRr := Lib.hid hnr
      have HX := Lib.hid (codes_step hx)
      have HB := Lib.hid hbel
      have HNS : Hid (∀ u, NRow 3 .i64 ((wr.setCell ⟨w.heap.size, k, none⟩ (.int .i64 x.acct)).alloc u) w.heap.size n (codeAt L (k + 1))) := fun u =>
        ((hnr.set k x.acct).kept (Below.heap_alloc _ _ _ (by simpa using hlr))).congr fun i _ => HX.out i
      clear s2 s3 hx hnr hbel hRr
      obtain ⟨x1, x2, x3⟩ := x
      dsimp only at *
      go_wp2_with fail
      exact ⟨⟨k + 1, by omega, by go_num, HNS.out _, (HB.out.setCell (Nat.le_refl _) _).alloc (by simpa using HB.out.size) _⟩, by simp [intOf]; omega⟩
    · obtain rfl : k = n := by omega
      have hCr := HC.out.below hbel
      have hrd : Rd wr wr.heap.size 1 (some ⟨w.heap.size, 0, none⟩) k (ints .i64 (accts L)) := by
        have := hnr.rd (B := wr.heap.size) hnr.lt
        rwa [← HN.out, codes_all, HN.out] at this
      have kl := Lib.hid (live_anyCh B c v l (accts L) _ k k wr.heap.size wr hCr hrd (Nat.le_refl _) (by omega))
      have p0r : wr.cell? ⟨q, 0, none⟩ = some (.pointer (some ⟨c, 0, none⟩)) := (hbel.cell (by exact hqz)).trans p0
      have HB := Lib.hid hbel
      clear hnr hbel hCr hrd
      go_wp2_with fail
      refine kl.out.mono ?_
      rintro e w3 ⟨rfl, hb3⟩
      have HB3 : Hid (Below w.heap.size w w3) := HB.out.trans (hb3.mono HB.out.size)
      clear hb3
      go_wp2_with fail
      go_ret
      exact ⟨rfl, HB3.out⟩
end Go.Proofs.YtmgncoialppmpaaGreat

/-
  Contract of rules' ask: one question behind the other, up to the first error.
-/
namespace Go.Proofs.YtmgncoialppmpaaGreat
open Go.RowKit

/-- A question that is asked. -/
def Asks (F : FuncId) : Prop := F = 63 ∨ F = 70 ∨ F = 71 ∨ F = 64 ∨ F = 82 ∨ F = 72 ∨ F = 73 ∨ F = 83 ∨ F = 74 ∨ F = 84 ∨ F = 86 ∨ F = 75
def askV (p : Value) (F : FuncId) : Value := .func (.func F) #[p] #[]

set_option maxRecDepth 100000 in
set_option maxHeartbeats 4000000 in
theorem wishAsk_any (p : Value) (fs : List FuncId) (es : List Int) (n c B : Nat) (A : Option Addr) (w : World) (I : Nat → World → Prop) (post : World → Prop)
    (hlen : fs.length = n) (hes : es.length = n) (hn : n ≤ 100) (hfs : ∀ F ∈ fs, Asks F)
    (hrow : ∀ i w1, I i w1 → Rd w1 B 1 A n (fs.map (askV p))) (h0 : I 0 w)
    (hstep : ∀ i F x w1, fs[i]? = some F → es[i]? = some x → I i w1 → Calls Tryz.prog F #[p] w1 fun e w2 => e = .returned (.int .i64 x) ∧ (x = 0 → I (i + 1) w2) ∧ (x ≠ 0 → post w2))
    (hend : ∀ w1, I n w1 → post w1) :
    Calls Tryz.prog 62 #[.slice A n c] w fun e w' => e = .returned (.int .i64 (firstE es)) ∧ post w' := by
  have HROW := Lib.hid hrow; have HSTEP := Lib.hid hstep; have HEND := Lib.hid hend; have HFS := Lib.hid hfs; have H0 := Lib.hid h0
  clear hrow hstep hend hfs h0
  go_enter Tryz.func62, Tryz.ntmps62
  go_wp2_with fail
  go_loopw [8, 4, 5] (fun iv _ _ wr => ∃ k : Nat, k ≤ n ∧ iv = .int .i64 k ∧ Hid (firstE (es.take k) = 0) ∧ Hid (I k wr)) (fun iv _ _ _ => n - (intOf iv).toNat)
  case atStart => exact ⟨0, Nat.zero_le _, rfl, rfl, H0.out⟩
  case round =>
    obtain ⟨k, hk, rfl, hE, hI⟩ := hrel
    by_cases hlt : k < n
    · have hkn : (k : Int) < (n : Int) := by omega
      obtain ⟨ad, u, rfl, hb, hu, hcell⟩ := (HROW.out k wr hI.out).one hlt
      obtain ⟨F, hF⟩ : ∃ F, fs[k]? = some F := ⟨_, List.getElem?_eq_getElem (by omega)⟩
      obtain ⟨x, hx⟩ : ∃ x, es[k]? = some x := ⟨_, List.getElem?_eq_getElem (by omega)⟩
      have hu2 : u = askV p F := by
        rw [List.getElem?_map, hF] at hu
        injection hu with hu
        exact hu.symm
      subst hu2
      unfold askV at hcell
      have KF := Lib.hid (HSTEP.out k F x wr hF hx hI.out)
      have HT := Lib.hid (firstE_take hE.out hx)
      have hq := HFS.out F (List.mem_of_getElem? hF)
      clear hu hF hx hI hE
      unfold Asks at hq
      by_cases hx0 : x = 0
      · subst hx0
        rcases hq with rfl | rfl | rfl | rfl | rfl | rfl | rfl | rfl | rfl | rfl | rfl | rfl
        all_goals
          go_wp2_with fail
          refine KF.out.mono ?_
          rintro e w1 ⟨rfl, h1, _⟩
          have H1 := Lib.hid (h1 (by first | rfl | trivial))
          clear h1
          go_wp2_with fail
          exact ⟨⟨k + 1, by omega, by go_num, HT.out.1 (by first | rfl | trivial), H1.out⟩, by simp [intOf]; omega⟩
      · have ht : (x != 0) = true := by simpa using hx0
        have HX := Lib.hid (HT.out.2 hx0)
        have HX0 := Lib.hid hx0
        clear hx0
        rcases hq with rfl | rfl | rfl | rfl | rfl | rfl | rfl | rfl | rfl | rfl | rfl | rfl
        all_goals
          go_wp2_with fail
          refine KF.out.mono ?_
          rintro e w1 ⟨rfl, _, h1⟩
          have H1 := Lib.hid (h1 HX0.out)
          clear h1
          go_wp2_with fail
          go_ret
          exact ⟨ret_int HX.out.symm, H1.out⟩
    · obtain rfl : k = n := by omega
      rw [List.take_of_length_le (by omega)] at hE
      have HI := Lib.hid (HEND.out wr hI.out)
      clear hI
      go_wp2_with fail
      go_ret
      exact ⟨ret_int hE.out.symm, HI.out⟩
end Go.Proofs.YtmgncoialppmpaaGreat
