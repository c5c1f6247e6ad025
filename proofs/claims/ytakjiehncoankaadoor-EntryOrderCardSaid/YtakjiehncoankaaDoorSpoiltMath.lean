/-
  Texts that lost a byte, or have another one. No code.
-/
import Derived.Test.YtakjiehncoankaaDoorEntryAlive
namespace Go.Proofs.YtakjiehncoankaaDoor
open Go.RowKit

theorem bs_take (T : List UInt8) (k : Nat) : (bs T).extract 0 k = bs (T.take k) := by
  apply ByteArray.ext
  apply Array.toList_inj.1
  rw [Lib.extract_data, bs_list, bs_list]
  simp
theorem bs_drop (T : List UInt8) (k : Nat) : (bs T).extract k T.length = bs (T.drop k) := by
  apply ByteArray.ext
  apply Array.toList_inj.1
  rw [Lib.extract_data, bs_list, bs_list]
  exact List.take_of_length_le (by rw [List.length_drop]; exact Nat.le_refl _)
theorem turn_at (at_ : Int) {n : Nat} (h0 : 0 < n) (h1 : n ≤ 1000000) : ∃ k : Nat, k < n ∧ (wrap64 (at_.tmod (n : Int) + n)).tmod (n : Int) = (k : Int) := by
  have h2 := Int.tmod_lt_of_pos at_ (b := (n : Int)) (by omega)
  have h3 : -(n : Int) < at_.tmod n := by
    have := Int.lt_tmod_of_pos at_ (b := (n : Int)) (by omega)
    omega
  rw [show wrap64 (at_.tmod (n : Int) + n) = at_.tmod (n : Int) + n from by unfold wrap64; omega]
  refine ⟨((at_.tmod (n : Int) + n).tmod (n : Int)).toNat, ?_, ?_⟩
  · have h4 := Int.tmod_lt_of_pos (at_.tmod (n : Int) + n) (b := (n : Int)) (by omega)
    have h5 := Int.tmod_nonneg (a := at_.tmod (n : Int) + n) (n : Int) (by omega)
    omega
  · have h5 := Int.tmod_nonneg (a := at_.tmod (n : Int) + n) (n : Int) (by omega)
    omega
theorem text_ne (j : Jrn) : textJ j ≠ [] := by
  intro h
  have := split_ne 32 (textJ j)
  have e : textJ j = Lib.itoa j.id ++ 32 :: Lib.join ([Lib.itoa j.ent, textB j.per, refT j.ref.data.toList, stateT j.void] ++ j.lines.map lineT) [32] := by
    unfold textJ partsJ
    exact join_cons2 32 _ _ _
  rw [e] at h
  simp at h
theorem text_le {j : Jrn} {n : Nat} (h64 : j.ok64) (hE : checkE j = 0) (_hn : j.lines.length = n) : (textJ j).length ≤ 1000 := by
  have := join_le [32] (partsJ j) (parts_le h64 (checkE_ref (checkE_ok hE).1))
  have h8 := checkE_len hE
  rw [partsJ_len] at this
  unfold textJ
  simp only [List.length_cons, List.length_nil] at this
  have h2 : (j.lines.length + 5) * (65 + 1) ≤ 13 * 66 := Nat.mul_le_mul_right _ (by omega)
  omega
theorem spoilt_del {j : Jrn} {k : Nat} (hk : k < (textJ j).length) : parseJ ((textJ j).take k ++ (textJ j).drop (k + 1)) ≠ some j := by
  intro h
  have h1 := congrArg List.length (parseJ_is h).2
  rw [List.length_append, List.length_take, List.length_drop] at h1
  omega
theorem spoilt_ins {j : Jrn} {k : Nat} {b x : UInt8} (hx : (textJ j)[k]? = some x) (hb : x ≠ b) : parseJ ((textJ j).take k ++ [b] ++ (textJ j).drop (k + 1)) ≠ some j := by
  intro h
  have h1 := (parseJ_is h).2
  have hk := (List.getElem?_eq_some_iff.1 hx).1
  rw [h1] at hx
  have : ((textJ j).take k ++ [b] ++ (textJ j).drop (k + 1))[k]? = some b := by
    rw [List.append_assoc, List.getElem?_append_right (by simp; omega)]
    simp [Nat.min_eq_left (Nat.le_of_lt hk)]
  rw [this] at hx
  injection hx with hx
  exact hb hx.symm

end Go.Proofs.YtakjiehncoankaaDoor
