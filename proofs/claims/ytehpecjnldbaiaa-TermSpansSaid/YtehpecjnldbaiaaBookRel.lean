/-
  A book that keeps the same list of ints some times over.
-/
import Derived.Test.YtehpecjnldbaiaaBookApart
namespace Go.Proofs.Ytehpecjnldbaiaa
open Go.RowKit

/-- What the statement's loop keeps. -/
structure SplitsRel (w2 : World) (b : Nat) (D : List Int) (k : Nat) (wr : World) (F V U : Nat → Value) : Prop where
  kept : KeptInts wr w2.heap.size b F k V U (fun _ => D)
  rest : ∀ j, j ≠ 2 → j ≠ 3 → F j = .slice none 0 0
  below : Below w2.heap.size w2 wr

theorem KeptInts.congr {w : World} {B b m : Nat} {F V U : Nat → Value} {L L' : Nat → List Int} (h : KeptInts w B b F m V U L) (e : ∀ i, i < m → L i = L' i) : KeptInts w B b F m V U L' :=
  ⟨h.1, h.2.1, h.2.2.1, h.2.2.2.1, h.2.2.2.2.1, ⟨fun i hi => by rw [← e i hi]; exact h.2.2.2.2.2.1.1 i hi, h.2.2.2.2.2.1.2⟩, ⟨fun i hi => by rw [← e i hi]; exact h.2.2.2.2.2.2.1 i hi, h.2.2.2.2.2.2.2⟩⟩

end Go.Proofs.Ytehpecjnldbaiaa
