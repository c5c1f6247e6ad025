/-
  Charts as lists of accounts: what is found, where one would stand, what is added, retired. No code.
-/
import Derived.Test.YthjpknipnmagkaaGreatMany3
namespace Go.Proofs.YthjpknipnmagkaaGreat
open Go.RowKit

def okRow (code kind : Int) : Bool := decide (1 ≤ code ∧ code ≤ 9999 ∧ 1 ≤ kind ∧ kind ≤ 5)
def posn (l : List Acc) (x : Int) : Nat := (l.takeWhile fun a => decide (a.code < x)).length
def findA (l : List Acc) (x : Int) : Option Acc := l.find? fun a => a.code == x
def insA (l : List Acc) (a : Acc) : List Acc := l.take (posn l a.code) ++ a :: l.drop (posn l a.code)
/-- Codes rise, and all is as it may be. -/
def GoodA (l : List Acc) : Prop := l.Pairwise (fun a b => a.code < b.code) ∧ ∀ a ∈ l, okRow a.code a.kind = true
def addE (l : List Acc) (a : Acc) : Int := if okRow a.code a.kind = true then (if (findA l a.code).isSome = true then 7 else 0) else 1
def addL (l : List Acc) (a : Acc) : List Acc := if addE l a = 0 then insA l a else l
def retE (l : List Acc) (x : Int) : Int := match findA l x with
  | none => 9
  | some a => if a.ret = true then 5 else 0
def retL (l : List Acc) (x : Int) : List Acc := l.map fun a => { a with ret := a.ret || a.code == x }
def liveE1 (l : List Acc) (x : Int) : Int := match findA l x with
  | none => 4
  | some a => if a.ret = true then 5 else 0
def liveECh (l : List Acc) : List Int → Int
  | [] => 0
  | x :: r => if liveE1 l x = 0 then liveECh l r else liveE1 l x
def kindL (l : List Acc) (ks : List Int) : List Int := (l.filter fun a => ks.contains a.kind).map (·.code)

theorem posn_le (l : List Acc) (x : Int) : posn l x ≤ l.length := by unfold posn; exact (List.takeWhile_prefix _).length_le
theorem posn_cons (a : Acc) (l : List Acc) (x : Int) : posn (a :: l) x = if a.code < x then posn l x + 1 else 0 := by
  unfold posn
  by_cases h : a.code < x <;> simp [List.takeWhile_cons, h]
theorem posn_lt : ∀ (l : List Acc) (x : Int) (k : Nat) (a : Acc), k < posn l x → l[k]? = some a → a.code < x
  | [], x, k, a, _, h2 => by simp at h2
  | b :: l, x, k, a, h1, h2 => by
    rw [posn_cons] at h1
    split at h1
    · cases k with
      | zero => simp at h2; subst h2; assumption
      | succ k => exact posn_lt l x k a (by omega) (by simpa using h2)
    · omega
theorem posn_at : ∀ (l : List Acc) (x : Int) (a : Acc), l[posn l x]? = some a → x ≤ a.code
  | [], x, a, h => by simp at h
  | b :: l, x, a, h => by
    rw [posn_cons] at h
    split at h
    · exact posn_at l x a (by simpa using h)
    · simp at h; subst h; omega
theorem posn_eq {l : List Acc} {x : Int} {i : Nat} (hi : i ≤ l.length) (h1 : ∀ k a, k < i → l[k]? = some a → a.code < x) (h2 : ∀ a, l[i]? = some a → x ≤ a.code) : posn l x = i := by
  rcases Nat.lt_trichotomy (posn l x) i with h | h | h
  · have hl : posn l x < l.length := by omega
    have := posn_at l x _ (List.getElem?_eq_getElem hl)
    have := h1 _ _ h (List.getElem?_eq_getElem hl)
    omega
  · exact h
  · have := posn_le l x
    have hl : i < l.length := by omega
    have := posn_lt l x i _ h (List.getElem?_eq_getElem hl)
    have := h2 _ (List.getElem?_eq_getElem hl)
    omega
theorem rise_ltCh {l : List Acc} (h : l.Pairwise fun a b => a.code < b.code) {i j : Nat} {a b : Acc} (hij : i < j) (hi : l[i]? = some a) (hj : l[j]? = some b) : a.code < b.code := by
  obtain ⟨h1, rfl⟩ := List.getElem?_eq_some_iff.1 hi
  obtain ⟨h2, rfl⟩ := List.getElem?_eq_some_iff.1 hj
  exact List.pairwise_iff_getElem.1 h i j h1 h2 hij
theorem rise_leCh {l : List Acc} (h : l.Pairwise fun a b => a.code < b.code) {i j : Nat} {a b : Acc} (hij : i ≤ j) (hi : l[i]? = some a) (hj : l[j]? = some b) : a.code ≤ b.code := by
  rcases Nat.lt_or_ge i j with h1 | h1
  · have := rise_ltCh h h1 hi hj; omega
  · obtain rfl : i = j := by omega
    rw [hi] at hj
    injection hj with hj
    rw [hj]; exact Int.le_refl _
/-- In a list that rises what is found stands at its place. -/
theorem find_atCh : ∀ {l : List Acc}, l.Pairwise (fun a b => a.code < b.code) → ∀ x, findA l x = (l[posn l x]?).bind fun a => if a.code = x then some a else none
  | [], _, x => rfl
  | b :: l, h, x => by
    rw [posn_cons]
    rw [List.pairwise_cons] at h
    unfold findA
    rw [List.find?_cons]
    rcases Int.lt_trichotomy b.code x with hb | hb | hb
    · have h1 : (b.code == x) = false := by simp; omega
      rw [h1, if_pos hb]
      exact find_atCh h.2 x
    · have h1 : (b.code == x) = true := by simp; omega
      rw [h1, if_neg (by omega)]
      simp [hb]
    · have h1 : (b.code == x) = false := by simp; omega
      rw [h1, if_neg (by omega)]
      have : l.find? (fun a => a.code == x) = none := by
        rw [List.find?_eq_none]
        intro a ha
        have := h.1 a ha
        simp; omega
      rw [this]
      simp; omega
theorem find_some_atCh {l : List Acc} (h : l.Pairwise fun a b => a.code < b.code) {x : Int} {a : Acc} (hf : findA l x = some a) : l[posn l x]? = some a ∧ a.code = x := by
  rw [find_atCh h] at hf
  cases hq : l[posn l x]? with
  | none => simp [hq] at hf
  | some b =>
    rw [hq] at hf
    by_cases hb : b.code = x
    · simp [hb] at hf; subst hf; exact ⟨rfl, hb⟩
    · simp [hb] at hf
theorem find_none_atCh {l : List Acc} (h : l.Pairwise fun a b => a.code < b.code) {x : Int} (hf : findA l x = none) {a : Acc} (ha : l[posn l x]? = some a) : x < a.code := by
  have h1 := posn_at l x a ha
  rw [find_atCh h, ha] at hf
  by_cases hb : a.code = x
  · simp [hb] at hf
  · omega
theorem find_none_memCh {l : List Acc} {x : Int} (hf : findA l x = none) : ∀ a ∈ l, a.code ≠ x := by
  intro a ha
  have := List.find?_eq_none.1 hf a ha
  simpa using this
theorem rise_lenCh : ∀ (l : List Acc) (lo : Int), l.Pairwise (fun a b => a.code < b.code) → (∀ a ∈ l, lo ≤ a.code ∧ a.code ≤ 9999) → lo ≤ 10000 → (l.length : Int) ≤ 10000 - lo
  | [], lo, _, _, h => by simp; omega
  | b :: l, lo, h, hr, _ => by
    rw [List.pairwise_cons] at h
    have hb := hr b (by simp)
    have := rise_lenCh l (b.code + 1) h.2 (fun a ha => ⟨by have := h.1 a ha; omega, (hr a (by simp [ha])).2⟩) (by omega)
    simp; omega
theorem okRow_t {c k : Int} (h : okRow c k = true) : 1 ≤ c ∧ c ≤ 9999 ∧ 1 ≤ k ∧ k ≤ 5 := by simpa [okRow] using h
theorem GoodA.len {l : List Acc} (h : GoodA l) : l.length ≤ 9999 := by
  have := rise_lenCh l 1 h.1 (fun a ha => by have := okRow_t (h.2 a ha); omega) (by omega)
  omega
theorem GoodA.nil : GoodA [] := ⟨List.Pairwise.nil, by simp⟩
theorem insA_len (l : List Acc) (a : Acc) : (insA l a).length = l.length + 1 := by
  have := posn_le l a.code
  simp [insA]; omega
theorem GoodA.ins {l : List Acc} {a : Acc} (h : GoodA l) (ho : okRow a.code a.kind = true) (hf : findA l a.code = none) : GoodA (insA l a) := by
  refine ⟨?_, fun b hb => ?_⟩
  · unfold insA
    rw [List.pairwise_append]
    refine ⟨h.1.sublist (List.take_sublist _ _), ?_, ?_⟩
    · rw [List.pairwise_cons]
      refine ⟨fun b hb => ?_, h.1.sublist (List.drop_sublist _ _)⟩
      obtain ⟨j, hj⟩ := List.mem_iff_getElem?.1 hb
      rw [List.getElem?_drop] at hj
      have hl := (List.getElem?_eq_some_iff.1 hj).1
      have hp : posn l a.code < l.length := by omega
      have h1 := find_none_atCh h.1 hf (List.getElem?_eq_getElem hp)
      have h2 := rise_leCh h.1 (Nat.le_add_right _ j) (List.getElem?_eq_getElem hp) hj
      omega
    · intro b hb c hc
      obtain ⟨j, hj⟩ := List.mem_iff_getElem?.1 hb
      rw [List.getElem?_take] at hj
      split at hj
      · have h1 := posn_lt l a.code j b ‹_› hj
        rcases List.mem_cons.1 hc with rfl | hc
        · exact h1
        · obtain ⟨q, hq⟩ := List.mem_iff_getElem?.1 hc
          rw [List.getElem?_drop] at hq
          exact rise_ltCh h.1 (by omega) hj hq
      · cases hj
  · unfold insA at hb
    rcases List.mem_append.1 hb with hb | hb
    · exact h.2 b (List.mem_of_mem_take hb)
    · rcases List.mem_cons.1 hb with rfl | hb
      · exact ho
      · exact h.2 b (List.mem_of_mem_drop hb)
theorem addE_ok {l : List Acc} {a : Acc} (h : addE l a = 0) : okRow a.code a.kind = true ∧ findA l a.code = none := by
  unfold addE at h
  split at h
  · rename_i h1
    refine ⟨h1, ?_⟩
    cases hf : findA l a.code with
    | none => rfl
    | some b => simp [hf] at h
  · omega
theorem GoodA.add {l : List Acc} (h : GoodA l) (a : Acc) : GoodA (addL l a) := by
  unfold addL
  split
  · rename_i h0
    obtain ⟨h1, h2⟩ := addE_ok h0
    exact h.ins h1 h2
  · exact h
theorem GoodA.ret {l : List Acc} (h : GoodA l) (x : Int) : GoodA (retL l x) := by
  refine ⟨?_, fun b hb => ?_⟩
  · unfold retL
    rw [List.pairwise_map]
    exact h.1
  · obtain ⟨a, ha, rfl⟩ := List.mem_map.1 hb
    exact h.2 a ha
theorem retL_len (l : List Acc) (x : Int) : (retL l x).length = l.length := by simp [retL]
theorem retL_none {l : List Acc} {x : Int} (h : findA l x = none) : retL l x = l := by
  unfold retL
  conv => rhs; rw [← List.map_id l]
  apply List.map_congr_left
  intro a ha
  have := find_none_memCh h a ha
  have h2 : (a.code == x) = false := by simp [this]
  simp [h2]
theorem retL_set {l : List Acc} (h : l.Pairwise fun a b => a.code < b.code) {x : Int} {a : Acc} (hf : findA l x = some a) : retL l x = l.set (posn l x) { a with ret := true } := by
  obtain ⟨h1, h2⟩ := find_some_atCh h hf
  apply List.ext_getElem?
  intro i
  unfold retL
  rw [List.getElem?_map, List.getElem?_set]
  by_cases e : posn l x = i
  · subst e
    rw [if_pos rfl, h1]
    have hl := (List.getElem?_eq_some_iff.1 h1).1
    simp [hl, h2]
  · rw [if_neg e]
    cases hq : l[i]? with
    | none => rfl
    | some b =>
      have : b.code ≠ x := by
        rcases Nat.lt_or_gt_of_ne e with h3 | h3
        · have := rise_ltCh h h3 h1 hq; omega
        · have := rise_ltCh h h3 hq h1; omega
      have h5 : (b.code == x) = false := by simp [this]
      simp [h5]
theorem retL_old {l : List Acc} (h : l.Pairwise fun a b => a.code < b.code) {x : Int} {a : Acc} (hf : findA l x = some a) (hr : a.ret = true) : retL l x = l := by
  rw [retL_set h hf]
  obtain ⟨h1, _⟩ := find_some_atCh h hf
  apply List.ext_getElem?
  intro i
  rw [List.getElem?_set]
  by_cases e : posn l x = i
  · subst e
    have hl := (List.getElem?_eq_some_iff.1 h1).1
    rw [if_pos rfl, if_pos hl, h1, ← hr]
  · rw [if_neg e]
end Go.Proofs.YthjpknipnmagkaaGreat

