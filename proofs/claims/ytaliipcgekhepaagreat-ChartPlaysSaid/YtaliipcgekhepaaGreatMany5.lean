/-
  Several texts, one behind the other: what each holds stands ahead of it.
-/
import Derived.Test.YtaliipcgekhepaaGreatChartNew
import Derived.Test.YtaliipcgekhepaaGreatChartAll

/-
  The first call of chapter 3's statements; (*Chart).Copy.
-/
namespace Go.Proofs.YtaliipcgekhepaaGreat
open Go.RowKit

theorem ChartTo.low {w w' : World} {B B0 c : Nat} {v : Value} {l l' : List Acc} (h : ChartAt w B c v l) (ht : ChartTo w B c v l' w') (hB : B0 ≤ B) (hw : B0 ≤ w.heap.size) : Below B0 w w' := by
  obtain ⟨v', _, hb, _⟩ := ht
  exact hb.below (fun k _ hk => Nat.le_trans hB (h.ge k hk)) hw
/-- A chart that some call made behind B, whose cells nobody else has. -/
def Charted (w : World) (B c : Nat) (l : List Acc) : Prop := ∃ v, ChartAt w B c v l
theorem Charted.below {w w' : World} {B c : Nat} {l : List Acc} (h : Charted w B c l) (hb : Below w.heap.size w w') : Charted w' B c l := by
  obtain ⟨v, h⟩ := h; exact ⟨v, h.below hb⟩
theorem Charted.lt {w : World} {B c : Nat} {l : List Acc} (h : Charted w B c l) : c < w.heap.size := by
  obtain ⟨v, h⟩ := h; exact h.lt

set_option maxRecDepth 100000 in
theorem add_ch (B B0 c : Nat) (l : List Acc) (x k : Int) (w : World) (h : Charted w B c l) (hB : B0 ≤ B) (hw : B0 ≤ w.heap.size) :
    Calls Tryz.prog 9 #[.pointer (some ⟨c, 0, none⟩), .int .i64 x, .int .i64 k] w fun e w' => e = .returned (.int .i64 (addE l ⟨x, k, false⟩)) ∧ Charted w' B c (addL l ⟨x, k, false⟩) ∧ Below B0 w w' := by
  obtain ⟨v, h⟩ := h
  refine (add_any B c v l x k w h).mono ?_
  rintro e w' ⟨rfl, ht⟩
  have ht2 := ht
  obtain ⟨v', h1, _⟩ := ht2
  exact ⟨rfl, ⟨v', h1⟩, ChartTo.low h ht hB hw⟩
theorem retire_ch (B B0 c : Nat) (l : List Acc) (x : Int) (w : World) (h : Charted w B c l) (hB : B0 ≤ B) (hw : B0 ≤ w.heap.size) :
    Calls Tryz.prog 11 #[.pointer (some ⟨c, 0, none⟩), .int .i64 x] w fun e w' => e = .returned (.int .i64 (retE l x)) ∧ Charted w' B c (retL l x) ∧ Below B0 w w' := by
  obtain ⟨v, h⟩ := h
  refine (retire_any B c v l x w h).mono ?_
  rintro e w' ⟨rfl, ht⟩
  have ht2 := ht
  obtain ⟨v', h1, _⟩ := ht2
  exact ⟨rfl, ⟨v', h1⟩, ChartTo.low h ht hB hw⟩

set_option maxRecDepth 100000 in
set_option maxHeartbeats 1000000 in
theorem alive_any (w : World) : Calls Tryz.prog 4 #[] w fun e w' => e = .returned (.bool true) ∧ Below w.heap.size w w' := by
  have k0 := Lib.hid (new_any [] none 0 0 w.heap.size w Rd.nil_ (Nat.le_refl _) (by omega))
  go_enter Tryz.func4, Tryz.ntmps4
  go_wp2_with fail
  refine k0.out.mono ?_
  rintro e w1 ⟨hb1, ⟨hne, rfl⟩ | ⟨_, rfl, v, hc1⟩⟩
  · exact absurd rfl hne
  have HC1 : Hid (Charted w1 w.heap.size w.heap.size []) := ⟨v, hc1⟩
  have hz1 := hb1.size
  have HB1 := Lib.hid hb1
  clear hc1 hb1 k0
  go_wp2_with fail
  refine (add_ch _ w.heap.size _ _ 100 1 w1 HC1.out (Nat.le_refl _) hz1).mono ?_
  rintro e w2 ⟨rfl, hc2, hb2⟩
  have HB2 : Hid (Below w.heap.size w w2) := HB1.out.trans hb2
  have HC2 : Hid (Charted w2 w.heap.size w.heap.size [⟨100, 1, false⟩]) := hc2
  have hz2 := HB2.out.size
  clear hc2 hb2 HC1 HB1 hz1
  rw [show addE [] ⟨100, 1, false⟩ = 0 from by decide]
  go_wp2_with fail
  refine (add_ch _ w.heap.size _ _ 100 1 w2 HC2.out (Nat.le_refl _) hz2).mono ?_
  rintro e w3 ⟨rfl, hc3, hb3⟩
  have HB3 : Hid (Below w.heap.size w w3) := HB2.out.trans hb3
  have HC3 : Hid (Charted w3 w.heap.size w.heap.size [⟨100, 1, false⟩]) := hc3
  have hz3 := HB3.out.size
  clear hc3 hb3 HC2 HB2 hz2
  rw [show addE [⟨100, 1, false⟩] ⟨100, 1, false⟩ = 7 from by decide]
  go_wp2_with fail
  refine (retire_ch _ w.heap.size _ _ 100 w3 HC3.out (Nat.le_refl _) hz3).mono ?_
  rintro e w4 ⟨rfl, hc4, hb4⟩
  have HB4 : Hid (Below w.heap.size w w4) := HB3.out.trans hb4
  have HC4 : Hid (Charted w4 w.heap.size w.heap.size [⟨100, 1, true⟩]) := hc4
  have hz4 := HB4.out.size
  clear hc4 hb4 HC3 HB3 hz3
  rw [show retE [⟨100, 1, false⟩] 100 = 0 from by decide]
  go_wp2_with fail
  obtain ⟨v4, hv4⟩ := HC4.out
  refine (live_any _ _ v4 _ [100] _ _ _ (w4.heap.size + 1) _ (hv4.below ((Below.refl _ _).alloc (Nat.le_refl _) _)) (rd_one w4 (.int .i64 100) 3) (by simp) (by omega)).mono ?_
  rintro e w5 ⟨rfl, hb5⟩
  have HB5 : Hid (Below w.heap.size w w5) := (HB4.out.alloc (by omega) _).trans (hb5.mono (by simp; omega))
  have hz5 := HB5.out.size
  clear hb5 hv4 HC4 HB4 hz4
  rw [show liveE [⟨100, 1, true⟩] [100] = 5 from by decide]
  go_wp2_with fail
  refine (debit_any 5 w5).mono ?_
  rintro e w6 ⟨rfl, hb6⟩
  have HB6 : Hid (Below w.heap.size w w6) := HB5.out.trans (hb6.mono hz5)
  clear hb6
  go_wp2
  go_ret
  exact ⟨rfl, HB6.out⟩
end Go.Proofs.YtaliipcgekhepaaGreat

/-
  Contracts of (*Chart).Copy.
-/
namespace Go.Proofs.YtaliipcgekhepaaGreat
open Go.RowKit

set_option maxRecDepth 100000 in
theorem copy_any (B c : Nat) (v : Value) (l : List Acc) (w : World) (h : ChartAt w B c v l) :
    Calls Tryz.prog 12 #[.pointer (some ⟨c, 0, none⟩)] w fun e w' => ∃ d v', e = .returned (.pointer (some ⟨d, 0, none⟩)) ∧ ChartAt w' w.heap.size d v' l ∧ Below w.heap.size w w' := by
  have hc := h.cell
  obtain ⟨A, cap, rfl⟩ := h.form
  have kc := Lib.hid (clone_any B l.length cap A l w h.own (by have := h.good.len; omega))
  have HG := Lib.hid h.good
  have hclt := h.lt
  have hblk := Lib.hid h.blk
  clear h
  go_enter Tryz.func12, Tryz.ntmps12
  go_wp2_with fail
  refine kc.out.mono ?_
  rintro e w' ⟨A', c', rfl, hown, hb⟩
  have hz := hb.size
  have HO := Lib.hid hown
  have HB := Lib.hid hb
  clear hown hb
  go_wp2
  go_ret
  refine ⟨w'.heap.size, .slice A' l.length c', rfl, ⟨heap_new _ _, hz, own_kept HO.out fun q hq _ => Below.heap_alloc _ _ _ hq, HG.out⟩, HB.out.alloc hz _⟩

set_option maxRecDepth 100000 in
theorem copy_nil (w : World) : Calls Tryz.prog 12 #[.pointer none] w fun e w' => e = .returned (.pointer none) ∧ w = w' := by
  go_enter Tryz.func12, Tryz.ntmps12
  go_wp2
  go_ret
  exact ⟨rfl, rfl⟩
end Go.Proofs.YtaliipcgekhepaaGreat
