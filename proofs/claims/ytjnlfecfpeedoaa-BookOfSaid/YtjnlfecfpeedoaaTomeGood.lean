/-
  Journals that stand beside each other: posted one behind the other they are all there. No code.
-/
import Derived.Test.YtjnlfecfpeedoaaTomeOf
namespace Go.Proofs.Ytjnlfecfpeedoaa
open Go.RowKit

structure GoodM (M : List Jrn) : Prop where
  rise : Rise Jrn.id M
  ok : ∀ j ∈ M, checkE j = 0
  len : M.length ≤ 200
  free : ∀ j ∈ M, takenJ M j = false
theorem GoodM.nil : GoodM [] := ⟨Rise.nil, by simp, by simp, by simp⟩
theorem leaves_of_taken {M : List Jrn} {j : Jrn} (h : takenJ M j = false) : ∀ b ∈ M, leavesRef j b = true := by
  unfold takenJ at h
  rw [Bool.not_eq_false', List.all_eq_true] at h
  exact h
theorem taken_of_leaves {M : List Jrn} {j : Jrn} (h : ∀ b ∈ M, leavesRef j b = true) : takenJ M j = false := by
  unfold takenJ
  rw [Bool.not_eq_false', List.all_eq_true]
  exact h
theorem leaves_self (j : Jrn) : leavesRef j j = true := by unfold leavesRef; simp
theorem leaves_symm {a b : Jrn} (h : leavesRef a b = true) : leavesRef b a = true := by
  unfold leavesRef holdsRef at *
  simp only [Bool.or_eq_true, Bool.not_eq_true', Bool.and_eq_false_iff, beq_eq_false_iff_ne, beq_iff_eq, Bool.not_eq_false'] at *
  by_cases h1 : b.void = true
  · exact .inl (.inl (.inl h1))
  by_cases h2 : a.void = true
  · exact .inr (.inl (.inr h2))
  by_cases h3 : a.id = b.id
  · exact .inl (.inl (.inr h3))
  by_cases h4 : a.ent = b.ent
  · by_cases h5 : a.ref.toList = b.ref.toList
    · rcases h with ((h | h) | h) | ((h | h) | h)
      · exact absurd h h2
      · exact absurd h.symm h3
      · exact absurd h4.symm h
      · exact .inr (.inl (.inl (h5 ▸ h)))
      · exact absurd h h1
      · exact absurd h5.symm h
    · exact .inr (.inr h5)
  · exact .inl (.inr h4)
theorem postE_zero {M : List Jrn} {j : Jrn} (h : postE M j = 0) : checkE j = 0 ∧ hasId M j.id = false ∧ takenJ M j = false ∧ M.length < 200 := by
  unfold postE at h
  split at h
  · rename_i h1
    split at h
    · cases h
    · rename_i h2
      split at h
      · cases h
      · rename_i h3
        split at h
        · cases h
        · exact ⟨h1, Bool.eq_false_iff.2 h2, Bool.eq_false_iff.2 h3, by omega⟩
  · rename_i h1; exact absurd h h1
theorem GoodM.put {M : List Jrn} {j : Jrn} (h : GoodM M) (hE : postE M j = 0) : GoodM (putK Jrn.id M j) := by
  obtain ⟨h1, h2, h3, h4⟩ := postE_zero hE
  have hl := leaves_of_taken h3
  refine ⟨h.rise.put j, fun b hb => ?_, ?_, fun b hb => taken_of_leaves fun x hx => ?_⟩
  · rcases mem_put hb with rfl | hb
    · exact h1
    · exact h.ok b hb
  · unfold hasId at h2
    rw [putK_len h.rise, h2]
    simp; omega
  · rcases mem_put hb with e1 | hb1 <;> rcases mem_put hx with e2 | hx1
    · rw [e1, e2]; exact leaves_self _
    · rw [e1]; exact hl x hx1
    · rw [e2]; exact leaves_symm (hl b hb1)
    · exact leaves_of_taken (h.free b hb1) x hx1
theorem hasId_out {M : List Jrn} {x : Int} (h : ∀ b ∈ M, b.id ≠ x) : hasId M x = false := by unfold hasId; rw [findK_out h]; rfl
theorem put_end {M : List Jrn} {j : Jrn} (h : ∀ b ∈ M, b.id < j.id) : putK Jrn.id M j = M ++ [j] := by
  have hn : (findK Jrn.id M j.id).isSome = false := by rw [findK_out fun b hb => by have := h b hb; omega]; rfl
  have hp : posK Jrn.id M j.id = M.length := posK_eq (Nat.le_refl _) (fun k a _ ha => h a (List.mem_of_getElem? ha)) fun a ha => by rw [List.getElem?_eq_none (Nat.le_refl _)] at ha; cases ha
  rw [putK_fresh hn, hp, List.take_length, List.drop_length]
/-- One behind the other, all are there. -/
theorem GoodM.of : ∀ (R P : List Jrn), GoodM (P ++ R) → ofE P R = 0 ∧ ofM P R = P ++ R
  | [], P, _ => by simp [ofE, ofM]
  | j :: R, P, h => by
    have hlt : ∀ b ∈ P, b.id < j.id := fun b hb => by
      have := h.rise
      unfold Rise at this
      rw [List.pairwise_append] at this
      exact this.2.2 b hb j (by simp)
    have hok := h.ok j (by simp)
    have ht : takenJ P j = false := taken_of_leaves fun b hb => leaves_of_taken (h.free j (by simp)) b (by simp [hb])
    have hl : ¬ 200 ≤ P.length := by have := h.len; simp at this; omega
    have h0 : postE P j = 0 := by
      unfold postE
      rw [if_pos hok, hasId_out fun b hb => by have := hlt b hb; omega, ht, if_neg hl]
      rfl
    have hp : postL P j = P ++ [j] := by unfold postL; rw [if_pos h0, put_end hlt]
    have ih := GoodM.of R (P ++ [j]) (by rw [List.append_assoc]; exact h)
    unfold ofE ofM
    rw [if_pos h0, if_pos h0, hp]
    rw [List.append_assoc] at ih
    exact ih
theorem rise_jr {l : List JR} (h : Rise Jrn.id (l.map JR.j)) : Rise JR.id l := (Rise.map (key := Jrn.id) (f := JR.j)).1 h
theorem put_jr (l : List JR) (a : JR) : (putK JR.id l a).map JR.j = putK Jrn.id (l.map JR.j) a.j := (putK_map (key := Jrn.id) JR.j l a).symm
theorem own_nil {w : World} {B n c size : Nat} {e : TypeId} {A : Option Addr} {xs : List Value} (h : w.ownsRow B e size (.slice A n c) n xs) : A = none → c = 0 := by
  intro e
  rcases h.2 with ⟨h1, _⟩ | ⟨g2, c2, cur, h1, _⟩
  · injection h1
  · injection h1 with h1; rw [e] at h1; cases h1
theorem checkE_max {j : Jrn} (h : checkE j = 0) : j.ref.size ≤ maxLen ∧ j.lines.length ≤ maxLen := by
  have := checkE_len h
  unfold maxLen
  omega
end Go.Proofs.Ytjnlfecfpeedoaa
