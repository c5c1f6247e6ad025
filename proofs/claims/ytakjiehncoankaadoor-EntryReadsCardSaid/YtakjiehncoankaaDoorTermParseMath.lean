/-
  A text is a month's where it can be read, and only there.
-/
import Derived.Test.YtakjiehncoankaaDoorTermParse2
namespace Go.Proofs.YtakjiehncoankaaDoor
open Go.RowKit

theorem back_all : ((List.range 1200).all fun p => parseOk (textB p) && (parseV (textB p) == (p : Int))) = true := by kernel_rfl
theorem back {p : Int} (h : okP p = true) : parseOk (textB p) = true ∧ parseV (textB p) = p := by
  have hb := okP_t h
  have := List.all_eq_true.1 back_all p.toNat (by simp; omega)
  rw [show ((p.toNat : Nat) : Int) = p by omega] at this
  simpa using this
theorem textB_inj {p q : Int} (hp : okP p = true) (hq : okP q = true) (h : textB p = textB q) : p = q := by
  rw [← (back hp).2, h, (back hq).2]

theorem seven {l : List UInt8} (h : l.length = 7) : ∃ a b c d e f g, l = [a, b, c, d, e, f, g] := by
  match l, h with
  | [a, b, c, d, e, f, g], _ => exact ⟨a, b, c, d, e, f, g, rfl⟩
theorem byte_eq {b : UInt8} {x : Int} (h : (b.toNat : Int) = x) : UInt8.ofNat x.toNat = b := by
  apply UInt8.toNat_inj.1
  have := UInt8.toNat_lt b
  rw [UInt8.toNat_ofNat_of_lt' (by simp [UInt8.size]; omega)]
  omega

theorem parse_is {l : List UInt8} (h : parseOk l = true) : okP (parseV l) = true ∧ textB (parseV l) = l := by
  have hv : parseV l = 12 * (numL (l.take 4) - 2000) + numL (l.drop 5) - 1 := by unfold parseV; rw [if_pos h]
  unfold parseOk at h
  rw [Bool.and_eq_true] at h
  obtain ⟨hF, hD⟩ := h
  have hD2 : 2000 ≤ numL (l.take 4) ∧ numL (l.take 4) ≤ 2099 ∧ 1 ≤ numL (l.drop 5) ∧ numL (l.drop 5) ≤ 12 := by unfold okD at hD; simpa using hD
  have hok : okP (parseV l) = true := by rw [hv]; unfold okP; simp; omega
  refine ⟨hok, ?_⟩
  have hY : yearV (parseV l) = numL (l.take 4) := by unfold yearV; rw [if_pos hok, hv]; omega
  have hM : monthV (parseV l) = numL (l.drop 5) := by unfold monthV; rw [if_pos hok, hv]; omega
  unfold textB textL
  rw [if_pos hok, hY, hM]
  clear hY hM hok hv hD
  obtain ⟨a, b, c, d, e, f, g, rfl⟩ := seven (formL_len hF)
  have da := formL_dig hF (j := 0) (by simp) (by omega)
  have db := formL_dig hF (j := 1) (by simp) (by omega)
  have dc := formL_dig hF (j := 2) (by simp) (by omega)
  have dd := formL_dig hF (j := 3) (by simp) (by omega)
  have df := formL_dig hF (j := 5) (by simp) (by omega)
  have dg := formL_dig hF (j := 6) (by simp) (by omega)
  have de := formL_four hF
  simp at da db dc dd df dg de
  have ny : numL [a, b, c, d] = 10 * (10 * (10 * ((a.toNat : Int) - 48) + ((b.toNat : Int) - 48)) + ((c.toNat : Int) - 48)) + ((d.toNat : Int) - 48) := by simp [numL]
  have nm : numL [f, g] = 10 * ((f.toNat : Int) - 48) + ((g.toNat : Int) - 48) := by simp [numL]
  simp only [List.take, List.drop] at hD2 ⊢
  rw [ny, nm] at *
  subst de
  simp [List.range, List.range.loop, dig]
  refine ⟨byte_eq ?_, byte_eq ?_, byte_eq ?_, byte_eq ?_, byte_eq ?_, byte_eq ?_⟩ <;> omega
theorem no_month {l : List UInt8} (h : parseOk l = false) {p : Int} (hp : okP p = true) : textB p ≠ l := by
  intro e
  rw [← e, (back hp).1] at h
  cases h
end Go.Proofs.YtakjiehncoankaaDoor
