/-
  A chart in memory; what stays where some blocks are written; (*Chart).place.
-/
import Derived.Test.YtaliipcgekhepaaGreatChartFind
namespace Go.Proofs.YtaliipcgekhepaaGreat
open Go.RowKit

/-- All blocks but those of S stay. -/
structure But (S : Nat → Prop) (w w' : World) : Prop where
  os : w'.os = w.os
  tape : w'.tape = w.tape
  output : w'.output = w.output
  size : w.heap.size ≤ w'.heap.size
  block : ∀ k, k < w.heap.size → ¬ S k → w'.heap[k]? = w.heap[k]?
theorem But.refl (S : Nat → Prop) (w : World) : But S w w := ⟨rfl, rfl, rfl, Nat.le_refl _, fun _ _ _ => rfl⟩
theorem But.trans {S : Nat → Prop} {a b c : World} (h : But S a b) (k : But S b c) : But S a c :=
  ⟨k.os.trans h.os, k.tape.trans h.tape, k.output.trans h.output, Nat.le_trans h.size k.size, fun i hi hs => (k.block i (Nat.lt_of_lt_of_le hi h.size) hs).trans (h.block i hi hs)⟩
theorem But.wide {S T : Nat → Prop} {a b : World} (h : But S a b) (hs : ∀ k, k < a.heap.size → S k → T k) : But T a b := ⟨h.os, h.tape, h.output, h.size, fun i hi ht => h.block i hi fun hx => ht (hs i hi hx)⟩
theorem But.of_below {S : Nat → Prop} {a b : World} (h : Below a.heap.size a b) : But S a b := ⟨h.os, h.tape, h.output, h.size, fun i hi _ => h.block i hi⟩
theorem But.below {S : Nat → Prop} {a b : World} {B : Nat} (h : But S a b) (hs : ∀ k, k < a.heap.size → S k → B ≤ k) (hB : B ≤ a.heap.size) : Below B a b :=
  ⟨h.os, h.tape, h.output, h.size, fun i hi => h.block i (Nat.lt_of_lt_of_le hi hB) fun hx => by have := hs i (Nat.lt_of_lt_of_le hi hB) hx; omega⟩
/-- Of two ways one behind the other, the second of which writes blocks of its own beside. -/
theorem But.more {S T : Nat → Prop} {a b c : World} (h : But S a b) (k : But T b c) (hs : ∀ i, i < a.heap.size → T i → S i) : But S a c :=
  ⟨k.os.trans h.os, k.tape.trans h.tape, k.output.trans h.output, Nat.le_trans h.size k.size, fun i hi hn => (k.block i (Nat.lt_of_lt_of_le hi h.size) fun hx => hn (hs i hi hx)).trans (h.block i hi hn)⟩
theorem But.of_grown {a b : World} {row : Option Nat} (h : a.grownBy b row) : But (fun k => row = some k) a b := ⟨h.os, h.tape, h.output, h.size, fun i hi hn => h.block i hi fun e => hn e.symm⟩

/-- A chart: its variable, and its accounts in a row of its own. -/
structure ChartAt (w : World) (B c : Nat) (v : Value) (l : List Acc) : Prop where
  blk : w.heap[c]? = some (.cells #[v] 67 (0, 0))
  low : B ≤ c
  own : w.ownsRow B 34 3 v l.length (accs l)
  good : GoodA l
/-- The blocks of a chart. -/
def InChart (c : Nat) (v : Value) (k : Nat) : Prop := k = c ∨ v.ownBlock = some k
section
variable {w w' : World} {B c : Nat} {v : Value} {l : List Acc}
theorem ChartAt.cell (h : ChartAt w B c v l) : w.cell? ⟨c, 0, none⟩ = some v := by rw [cell_of h.blk]; rfl
theorem ChartAt.warm (h : ChartAt w B c v l) : w.frozen? ⟨c, 0, none⟩ = false := warm_of h.blk 0
theorem ChartAt.lt (h : ChartAt w B c v l) : c < w.heap.size := lt_of_blk h.blk
theorem ChartAt.kept (h : ChartAt w B c v l) (hk : ∀ k, k < w.heap.size → InChart c v k → w'.heap[k]? = w.heap[k]?) : ChartAt w' B c v l :=
  ⟨(hk c h.lt (.inl rfl)).trans h.blk, h.low, own_kept h.own fun k hk1 hk2 => hk k hk1 (.inr hk2), h.good⟩
theorem ChartAt.below (h : ChartAt w B c v l) (hb : Below w.heap.size w w') : ChartAt w' B c v l := h.kept fun k hk _ => hb.block k hk
theorem ChartAt.but {S : Nat → Prop} (h : ChartAt w B c v l) (hb : But S w w') (hs : ∀ k, InChart c v k → ¬ S k) : ChartAt w' B c v l := h.kept fun k hk hi => hb.block k hk (hs k hi)
theorem ChartAt.form (h : ChartAt w B c v l) : ∃ A cap, v = .slice A l.length cap := own_form h.own
theorem ChartAt.ge (h : ChartAt w B c v l) : ∀ k, InChart c v k → B ≤ k := by
  rintro k (rfl | hk)
  · exact h.low
  · exact own_ge h.own k hk
theorem ChartAt.ltB (h : ChartAt w B c v l) : ∀ k, InChart c v k → k < w.heap.size := by
  rintro k (rfl | hk)
  · exact h.lt
  · exact own_lt h.own k hk
theorem ChartAt.apart (h : ChartAt w B c v l) : v.ownBlock ≠ some c := own_ne h.own h.blk (by decide)
end

set_option maxRecDepth 100000 in
theorem place_any (B c : Nat) (v : Value) (l : List Acc) (x : Int) (w : World) (h : ChartAt w B c v l) :
    Calls Tryz.prog 27 #[.pointer (some ⟨c, 0, none⟩), .int .i64 x] w fun e w' => e = .returned (.tuple #[.int .i64 (posn l x : Nat), .bool (findA l x).isSome]) ∧ Below w.heap.size w w' := by
  have hc := h.cell
  obtain ⟨A, cap, rfl⟩ := h.form
  have ks := search_any l x A l.length cap _ w (rd_of_own h.own) (Nat.le_refl _) (by have := h.good.len; omega) h.good.1
  have HG := Lib.hid h
  clear h
  generalize (posn l x) = P at *
  generalize (findA l x).isSome = S at *
  go_enter Tryz.func27, Tryz.ntmps27
  go_wp2_with fail
  refine ks.mono ?_
  rintro e w' ⟨rfl, hb⟩
  go_wp2
  go_ret2
  exact ⟨rfl, hb⟩
end Go.Proofs.YtaliipcgekhepaaGreat
