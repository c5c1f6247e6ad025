/-
  Gates in memory; (*Gates).place.
-/
import Derived.Test.YtgoekobolomppaaGatesFind
import Derived.Test.YtgoekobolomppaaBut
namespace Go.Proofs.Ytgoekobolomppaa
open Go.RowKit

/-- Gates: their variable, and their rows in a row of its own. -/
structure GatesAt (w : World) (B c : Nat) (v : Value) (l : List Trio) : Prop where
  blk : w.heap[c]? = some (.cells #[v] 27 (0, 0))
  low : B ≤ c
  own : w.ownsRow B 53 3 v l.length (trios l)
  good : GoodT l
/-- The blocks of gates. -/
def InGates (c : Nat) (v : Value) (k : Nat) : Prop := k = c ∨ v.ownBlock = some k
section
variable {w w' : World} {B c : Nat} {v : Value} {l : List Trio}
theorem GatesAt.cell (h : GatesAt w B c v l) : w.cell? ⟨c, 0, none⟩ = some v := by rw [cell_of h.blk]; rfl
theorem GatesAt.warm (h : GatesAt w B c v l) : w.frozen? ⟨c, 0, none⟩ = false := warm_of h.blk 0
theorem GatesAt.lt (h : GatesAt w B c v l) : c < w.heap.size := lt_of_blk h.blk
theorem GatesAt.kept (h : GatesAt w B c v l) (hk : ∀ k, k < w.heap.size → InGates c v k → w'.heap[k]? = w.heap[k]?) : GatesAt w' B c v l :=
  ⟨(hk c h.lt (.inl rfl)).trans h.blk, h.low, own_kept h.own fun k hk1 hk2 => hk k hk1 (.inr hk2), h.good⟩
theorem GatesAt.below (h : GatesAt w B c v l) (hb : Below w.heap.size w w') : GatesAt w' B c v l := h.kept fun k hk _ => hb.block k hk
theorem GatesAt.but {S : Nat → Prop} (h : GatesAt w B c v l) (hb : But S w w') (hs : ∀ k, InGates c v k → ¬ S k) : GatesAt w' B c v l := h.kept fun k hk hi => hb.block k hk (hs k hi)
theorem GatesAt.form (h : GatesAt w B c v l) : ∃ A cap, v = .slice A l.length cap := own_form h.own
theorem GatesAt.ge (h : GatesAt w B c v l) : ∀ k, InGates c v k → B ≤ k := by
  rintro k (rfl | hk)
  · exact h.low
  · exact own_ge h.own k hk
theorem GatesAt.ltB (h : GatesAt w B c v l) : ∀ k, InGates c v k → k < w.heap.size := by
  rintro k (rfl | hk)
  · exact h.lt
  · exact own_lt h.own k hk
theorem GatesAt.apart (h : GatesAt w B c v l) : v.ownBlock ≠ some c := own_ne h.own h.blk (by decide)
end

set_option maxRecDepth 100000 in
theorem place_any (B c : Nat) (v : Value) (l : List Trio) (en pe : Int) (w : World) (h : GatesAt w B c v l) (ho : okT en pe = true) :
    Calls Try.prog 24 #[.pointer (some ⟨c, 0, none⟩), .int .i64 en, .int .i64 pe] w fun e w' => e = .returned (.tuple #[.int .i64 (posT l (en * 2000 + pe) : Nat), .bool (findT l (en * 2000 + pe)).isSome]) ∧ Below w.heap.size w w' := by
  have hc := h.cell
  obtain ⟨A, cap, rfl⟩ := h.form
  have ks := search_any l en pe ho A l.length cap _ w (rd_of_own h.own) (Nat.le_refl _) (by have := h.good.len; omega) h.good
  have HG := Lib.hid h
  clear h ho
  generalize (posT l (en * 2000 + pe)) = P at *
  generalize (findT l (en * 2000 + pe)).isSome = S at *
  go_enter Try.func24, Try.ntmps24
  go_wp2_with fail
  refine ks.mono ?_
  rintro e w' ⟨rfl, hb⟩
  go_wp2
  go_ret2
  exact ⟨rfl, hb⟩
end Go.Proofs.Ytgoekobolomppaa
