/-
  The book's own block. No code.
-/
import Derived.Test.YtgoekobolomppaaOwn
namespace Go.Proofs.Ytgoekobolomppaa
open Go.RowKit

/-- The book's variable: its twenty lists of lists. -/
def BookAt (w : World) (b : Nat) (F : Nat → Value) : Prop :=
  w.heap[b]? = some (.cells #[F 0, F 1, F 2, F 3, F 4, F 5, F 6, F 7, F 8, F 9, F 10, F 11, F 12, F 13, F 14, F 15, F 16, F 17, F 18, F 19] 41 (0, 0))
theorem BookAt.cell {w : World} {b : Nat} {F : Nat → Value} (h : BookAt w b F) {i : Nat} (hi : i < 20) : w.cell? ⟨b, i, none⟩ = some (F i) := by
  rw [cell_of h]
  rcases (show i = 0 ∨ i = 1 ∨ i = 2 ∨ i = 3 ∨ i = 4 ∨ i = 5 ∨ i = 6 ∨ i = 7 ∨ i = 8 ∨ i = 9 ∨ i = 10 ∨ i = 11 ∨ i = 12 ∨ i = 13 ∨ i = 14 ∨ i = 15 ∨ i = 16 ∨ i = 17 ∨ i = 18 ∨ i = 19 by omega) with rfl | rfl | rfl | rfl | rfl | rfl | rfl | rfl | rfl | rfl | rfl | rfl | rfl | rfl | rfl | rfl | rfl | rfl | rfl | rfl <;> rfl
theorem BookAt.warm {w : World} {b : Nat} {F : Nat → Value} (h : BookAt w b F) (i : Nat) : w.frozen? ⟨b, i, none⟩ = false := warm_of h i
theorem BookAt.lt {w : World} {b : Nat} {F : Nat → Value} (h : BookAt w b F) : b < w.heap.size := lt_of_blk h
theorem BookAt.set {w : World} {b : Nat} {F : Nat → Value} (h : BookAt w b F) {i : Nat} (hi : i < 20) (v : Value) : BookAt (w.setCell ⟨b, i, none⟩ v) b (upd F i v) := by
  unfold BookAt
  rw [set_here h]
  rcases (show i = 0 ∨ i = 1 ∨ i = 2 ∨ i = 3 ∨ i = 4 ∨ i = 5 ∨ i = 6 ∨ i = 7 ∨ i = 8 ∨ i = 9 ∨ i = 10 ∨ i = 11 ∨ i = 12 ∨ i = 13 ∨ i = 14 ∨ i = 15 ∨ i = 16 ∨ i = 17 ∨ i = 18 ∨ i = 19 by omega) with rfl | rfl | rfl | rfl | rfl | rfl | rfl | rfl | rfl | rfl | rfl | rfl | rfl | rfl | rfl | rfl | rfl | rfl | rfl | rfl <;> rfl
theorem BookAt.kept {w w' : World} {b : Nat} {F : Nat → Value} (h : BookAt w b F) (hk : w'.heap[b]? = w.heap[b]?) : BookAt w' b F := hk.trans h

theorem Only.book {S : List TypeId} {w w' : World} {b : Nat} {F : Nat → Value} (h : Only S w w') (hb : BookAt w b F) (he : ¬ 41 ∈ S) : BookAt w' b F := hb.kept (h b _ _ hb he)
end Go.Proofs.Ytgoekobolomppaa
