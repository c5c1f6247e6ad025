/-
  Months' texts as bytes: their length; they rise.
-/
import Derived.Test.YtakjiehncoankaaDoorTermText
namespace Go.Proofs.YtakjiehncoankaaDoor
open Go.RowKit

def textS (p : Int) : ByteArray := ⟨(textB p).toArray⟩
theorem textV_eq (p : Int) : textV p = .string (textS p) := rfl
theorem textS_list (p : Int) : (textS p).toList = textB p := by unfold textS; simp
theorem textS_size {p : Int} (h : okP p = true) : (textS p).size = 7 := by
  unfold textS; simp [ByteArray.size, textB_len h]

theorem rise_all : ((List.range 1199).all fun p => Op.bytesLess (textB p) (textB (p + 1)) && !Op.bytesLess (textB (p + 1)) (textB p) && !(textB (p + 1) == textB p)) = true := by kernel_rfl
theorem rise {p : Int} (h0 : 0 ≤ p) (h1 : p < 1199) : Op.bytesLess (textS (p + 1)).toList (textS p).toList = false ∧ ((textS (p + 1)).toList == (textS p).toList) = false := by
  have := List.all_eq_true.1 rise_all p.toNat (by simp; omega)
  rw [textS_list, textS_list]
  rw [show ((p.toNat : Nat) : Int) = p by omega] at this
  simp at this
  refine ⟨this.1.2, by simpa using this.2⟩
end Go.Proofs.YtakjiehncoankaaDoor
