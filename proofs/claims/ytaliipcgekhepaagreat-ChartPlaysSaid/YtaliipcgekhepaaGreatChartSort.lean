/-
  Accounts in whatever order make one chart; how many of each kind there are. No code.
-/
import Derived.Test.YtaliipcgekhepaaGreatChartNew
namespace Go.Proofs.YtaliipcgekhepaaGreat
open Go.RowKit

theorem insA_perm (l : List Acc) (a : Acc) : (insA l a).Perm (a :: l) := by
  unfold insA
  have := (List.perm_middle (a := a) (l₁ := l.take (posn l a.code)) (l₂ := l.drop (posn l a.code)))
  rwa [List.take_append_drop] at this
theorem addE_zero {l : List Acc} {a : Acc} : addE l a = 0 ↔ okRow a.code a.kind = true ∧ ∀ b ∈ l, b.code ≠ a.code := by
  constructor
  · intro h
    obtain ⟨h1, h2⟩ := addE_ok h
    exact ⟨h1, find_none_mem h2⟩
  · rintro ⟨h1, h2⟩
    have : findA l a.code = none := by
      unfold findA
      rw [List.find?_eq_none]
      intro b hb
      simpa using h2 b hb
    simp [addE, h1, this]
theorem newR_zero : ∀ (xs l : List Acc), (newR l xs).2 = 0 ↔ (∀ a ∈ xs, okRow a.code a.kind = true) ∧ xs.Pairwise (fun a b => a.code ≠ b.code) ∧ ∀ a ∈ xs, ∀ b ∈ l, b.code ≠ a.code
  | [], l => by simp [newR]
  | a :: xs, l => by
    rw [newR]
    by_cases h : addE l a = 0
    · rw [if_pos h, newR_zero xs]
      obtain ⟨h1, h2⟩ := addE_zero.1 h
      rw [List.pairwise_cons]
      constructor
      · rintro ⟨h3, h4, h5⟩
        refine ⟨fun b hb => ?_, ⟨fun b hb => ?_, h4⟩, fun b hb c hc => ?_⟩
        · rcases List.mem_cons.1 hb with rfl | hb
          · exact h1
          · exact h3 b hb
        · exact h5 b hb a ((insA_perm l a).mem_iff.2 (by simp))
        · rcases List.mem_cons.1 hb with rfl | hb
          · exact h2 c hc
          · exact h5 b hb c ((insA_perm l a).mem_iff.2 (by simp [hc]))
      · rintro ⟨h3, ⟨h4, h5⟩, h6⟩
        refine ⟨fun b hb => h3 b (by simp [hb]), h5, fun b hb c hc => ?_⟩
        rcases List.mem_cons.1 ((insA_perm l a).mem_iff.1 hc) with rfl | hc
        · exact h4 b hb
        · exact h6 b (by simp [hb]) c hc
    · rw [if_neg h]
      constructor
      · intro h1; exact absurd h1 h
      · rintro ⟨h3, _, h6⟩
        exact absurd (addE_zero.2 ⟨h3 a (by simp), fun b hb => h6 a (by simp) b hb⟩) h
theorem newR_perm : ∀ (xs l : List Acc), (newR l xs).2 = 0 → (newR l xs).1.Perm (l ++ xs)
  | [], l, _ => by simp [newR]
  | a :: xs, l, h => by
    rw [newR] at h ⊢
    by_cases h0 : addE l a = 0
    · rw [if_pos h0] at h ⊢
      refine (newR_perm xs _ h).trans ?_
      refine ((insA_perm l a).append_right xs).trans ?_
      rw [List.cons_append]
      exact List.perm_middle.symm
    · rw [if_neg h0] at h; exact absurd h h0
theorem newE_zero (xs : List Acc) : newE xs = 0 ↔ (∀ a ∈ xs, okRow a.code a.kind = true) ∧ xs.Pairwise (fun a b => a.code ≠ b.code) := by
  unfold newE
  rw [newR_zero]
  simp
theorem newE_perm {xs ys : List Acc} (h : xs.Perm ys) : newE xs = 0 ↔ newE ys = 0 := by
  rw [newE_zero, newE_zero]
  constructor
  · rintro ⟨h1, h2⟩
    exact ⟨fun a ha => h1 a (h.mem_iff.2 ha), h2.perm h (fun h => h.symm)⟩
  · rintro ⟨h1, h2⟩
    exact ⟨fun a ha => h1 a (h.mem_iff.1 ha), h2.perm h.symm (fun h => h.symm)⟩
theorem newL_perm {xs : List Acc} (h : newE xs = 0) : (newL xs).Perm xs := by
  have := newR_perm xs [] h
  simpa [newL] using this
theorem newL_same {xs ys : List Acc} (h : xs.Perm ys) (hx : newE xs = 0) : newL xs = newL ys := by
  have hy := (newE_perm h).1 hx
  refine List.Perm.eq_of_pairwise (le := fun a b => a.code < b.code) ?_ (newL_good xs).1 (newL_good ys).1 ((newL_perm hx).trans (h.trans (newL_perm hy).symm))
  intro a b _ _ h1 h2
  exact absurd h1 (by omega)
theorem turn_perm (l : List Acc) (k : Nat) : l.Perm (l.drop k ++ l.take k) := by
  have := List.perm_append_comm (l₁ := l.take k) (l₂ := l.drop k)
  rwa [List.take_append_drop] at this
/-- How many there are of kinds 1 to j. -/
def kindN (l : List Acc) (j : Nat) : Nat := (l.filter fun a => decide (a.kind ≤ (j : Int))).length
theorem kindN_zero {l : List Acc} (h : ∀ a ∈ l, 1 ≤ a.kind) : kindN l 0 = 0 := by
  unfold kindN
  rw [List.length_eq_zero_iff, List.filter_eq_nil_iff]
  intro a ha
  have := h a ha
  simp; omega
theorem kindN_five {l : List Acc} (h : ∀ a ∈ l, a.kind ≤ 5) : kindN l 5 = l.length := by
  unfold kindN
  rw [List.filter_eq_self.2]
  intro a ha
  have := h a ha
  simp; omega
theorem kindN_succ : ∀ (l : List Acc) (j : Nat), kindN l (j + 1) = kindN l j + (kindL l [((j + 1 : Nat) : Int)]).length
  | [], j => rfl
  | a :: l, j => by
    have ih := kindN_succ l j
    unfold kindN kindL at *
    rw [List.length_map] at *
    simp only [List.filter_cons]
    rcases Int.lt_trichotomy a.kind ((j + 1 : Nat) : Int) with h | h | h
    · have h1 : decide (a.kind ≤ ((j + 1 : Nat) : Int)) = true := by simp; omega
      have h2 : decide (a.kind ≤ (j : Int)) = true := by simp; omega
      have h3 : [((j + 1 : Nat) : Int)].contains a.kind = false := by simp; omega
      rw [h1, h2, h3]
      simp only [if_true, List.length_cons, ih, Bool.false_eq_true, if_false]
      omega
    · have h1 : decide (a.kind ≤ ((j + 1 : Nat) : Int)) = true := by simp; omega
      have h2 : decide (a.kind ≤ (j : Int)) = false := by simp; omega
      have h3 : [((j + 1 : Nat) : Int)].contains a.kind = true := by simp; omega
      rw [h1, h2, h3]
      simp only [if_true, List.length_cons, ih, Bool.false_eq_true, if_false]
      omega
    · have h1 : decide (a.kind ≤ ((j + 1 : Nat) : Int)) = false := by simp; omega
      have h2 : decide (a.kind ≤ (j : Int)) = false := by simp; omega
      have h3 : [((j + 1 : Nat) : Int)].contains a.kind = false := by simp; omega
      rw [h1, h2, h3]
      simp only [ih, Bool.false_eq_true, if_false]
theorem kindL_none (l : List Acc) : kindL l [] = [] := by unfold kindL; simp
theorem kindL_all {l : List Acc} (h : ∀ a ∈ l, 1 ≤ a.kind ∧ a.kind ≤ 5) : (kindL l [1, 2, 3, 4, 5]).length = l.length := by
  unfold kindL
  rw [List.length_map, List.filter_eq_self.2]
  intro a ha
  have := h a ha
  simp; omega
/-- A slice's tail, of whatever elements. -/
theorem Rd.dropS {w : World} {B size n k : Nat} {ad : Addr} {xs : List Value} (h : Rd w B size (some ad) n xs) (hk : k < n) : Rd w B size (some (ad.add (k * size))) (n - k) (xs.drop (k * size)) := by
  have hl := h.1
  refine ⟨by rw [List.length_drop, hl, Nat.sub_mul], fun _ => ?_⟩
  obtain ⟨a2, e, hb, hc⟩ := h.2 (by omega)
  injection e with e
  subst e
  refine ⟨_, rfl, by rw [add_block]; exact hb, fun j u hu => ?_⟩
  rw [add_add]
  refine hc _ u ?_
  rw [← hu, List.getElem?_drop]
theorem Rd.takeS {w : World} {B size n k : Nat} {A : Option Addr} {xs : List Value} (h : Rd w B size A n xs) (hk : k ≤ n) : Rd w B size A k (xs.take (k * size)) := by
  have hl := h.1
  refine ⟨by rw [List.length_take, hl]; exact Nat.min_eq_left (Nat.mul_le_mul_right _ hk), fun h0 => ?_⟩
  obtain ⟨a2, e, hb, hc⟩ := h.2 (by omega)
  refine ⟨a2, e, hb, fun j u hu => hc j u ?_⟩
  rw [List.getElem?_take] at hu
  split at hu
  · exact hu
  · cases hu
end Go.Proofs.YtaliipcgekhepaaGreat
