/-
  Contracts of LentLines, StaysLines.
-/
import Derived.Test.YtjnlfecfpeedoaaLins
namespace Go.Proofs.Ytjnlfecfpeedoaa
open Go.RowKit

theorem linsOne (l : List Lin) : ∀ u ∈ lins l, u.oneCell' = true := by
  intro u hu
  obtain ⟨a, _, hu⟩ := List.mem_flatMap.1 hu
  simp [Lin.cells] at hu
  rcases hu with rfl | rfl | rfl <;> rfl
end Go.Proofs.Ytjnlfecfpeedoaa
