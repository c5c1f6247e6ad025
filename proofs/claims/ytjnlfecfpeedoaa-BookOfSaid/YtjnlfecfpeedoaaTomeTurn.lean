/-
  Journals posted in another order: the same book. No code.
-/
import Derived.Test.YtjnlfecfpeedoaaTomeGood
namespace Go.Proofs.Ytjnlfecfpeedoaa
open Go.RowKit

theorem put_perm {M : List Jrn} {j : Jrn} (hn : hasId M j.id = false) : (putK Jrn.id M j).Perm (j :: M) := by
  rw [putK_fresh hn]
  refine List.perm_middle.trans ?_
  rw [List.take_append_drop]
theorem of_good : ∀ (R P : List Jrn), GoodM P → ofE P R = 0 → GoodM (ofM P R) ∧ (ofM P R).Perm (P ++ R)
  | [], P, h, _ => by simp [ofM, h]
  | j :: R, P, h, h0 => by
    by_cases h1 : postE P j = 0
    · unfold ofE at h0
      rw [if_pos h1] at h0
      unfold ofM
      rw [if_pos h1]
      have hp : postL P j = putK Jrn.id P j := by unfold postL; rw [if_pos h1]
      rw [hp] at h0 ⊢
      obtain ⟨h2, h3⟩ := of_good R _ (h.put h1) h0
      refine ⟨h2, h3.trans ?_⟩
      refine ((put_perm (postE_zero h1).2.1).append_right R).trans ?_
      exact List.perm_middle.symm
    · unfold ofE at h0
      rw [if_neg h1] at h0
      exact absurd h0 h1
def Compat (a b : Jrn) : Prop := a.id ≠ b.id ∧ leavesRef a b = true
theorem Compat.symm {a b : Jrn} (h : Compat a b) : Compat b a := ⟨fun e => h.1 e.symm, leaves_symm h.2⟩
theorem GoodM.pair {M : List Jrn} (h : GoodM M) : M.Pairwise Compat := h.rise.imp_of_mem fun {a b} ha hb hlt => ⟨by intro e; have : a.id < b.id := hlt; omega, leaves_of_taken (h.free a ha) b hb⟩
theorem of_pair : ∀ (R P : List Jrn), GoodM P → (∀ j ∈ R, checkE j = 0) → R.Pairwise Compat → (∀ j ∈ R, ∀ b ∈ P, Compat j b) → P.length + R.length ≤ 200 → ofE P R = 0
  | [], P, _, _, _, _, _ => rfl
  | j :: R, P, h, hok, hp, hc, hl => by
    rw [List.pairwise_cons] at hp
    simp only [List.length_cons] at hl
    have h0 : postE P j = 0 := by
      unfold postE
      rw [if_pos (hok j (by simp)), hasId_out fun b hb e => (hc j (by simp) b hb).1 e.symm, taken_of_leaves fun b hb => (hc j (by simp) b hb).2]
      rw [if_neg (by decide), if_neg (by decide), if_neg (by omega)]
    have hpl : postL P j = putK Jrn.id P j := by unfold postL; rw [if_pos h0]
    unfold ofE
    rw [if_pos h0, hpl]
    refine of_pair R _ (h.put h0) (fun x hx => hok x (by simp [hx])) hp.2 (fun x hx b hb => ?_) ?_
    · rcases mem_put hb with e | hb
      · rw [e]; exact (hp.1 x hx).symm
      · exact hc x (by simp [hx]) b hb
    · rw [(put_perm (postE_zero h0).2.1).length_eq, List.length_cons]; omega
theorem of_turn {L L' : List Jrn} (hp : L'.Perm L) (h : ofE [] L = 0) : ofE [] L' = 0 ∧ ofM [] L' = ofM [] L := by
  obtain ⟨h1, h2⟩ := of_good L [] GoodM.nil h
  rw [List.nil_append] at h2
  have h3 : L'.Perm (ofM [] L) := hp.trans h2.symm
  have h0 : ofE [] L' = 0 := by
    refine of_pair L' [] GoodM.nil (fun j hj => h1.ok j (h3.subset hj)) ?_ (by simp) ?_
    · exact h1.pair.perm h3.symm Compat.symm
    · rw [h3.length_eq]; simp; exact h1.len
  obtain ⟨h4, h5⟩ := of_good L' [] GoodM.nil h0
  rw [List.nil_append] at h5
  refine ⟨h0, List.Perm.eq_of_pairwise (le := fun a b : Jrn => a.id < b.id) (fun a b _ _ e1 e2 => ?_) h4.rise h1.rise (h5.trans h3)⟩
  exfalso
  omega
theorem turn_perm (l : List Jrn) (k : Nat) : (l.drop k ++ l.take k).Perm l := by
  refine List.perm_append_comm.trans ?_
  rw [List.take_append_drop]
end Go.Proofs.Ytjnlfecfpeedoaa
