/-
  Lists whose rows rise by a number: what is found, where one would stand, what is put in and taken out. No code.
-/
import Derived.Test.YtjlokkjbdgcooaaGreatOwn
namespace Go.Proofs.YtjlokkjbdgcooaaGreat
open Go.RowKit

section
variable {α β : Type} {key : α → Int}
def posK (key : α → Int) (l : List α) (x : Int) : Nat := (l.takeWhile fun a => decide (key a < x)).length
def findK (key : α → Int) (l : List α) (x : Int) : Option α := l.find? fun a => key a == x
def Rise (key : α → Int) (l : List α) : Prop := l.Pairwise fun a b => key a < key b
def restK (key : α → Int) (l : List α) (x : Int) : List α := l.drop (posK key l x + if (findK key l x).isSome = true then 1 else 0)
/-- A row put in, or in another one's place. -/
def putK (key : α → Int) (l : List α) (a : α) : List α := l.take (posK key l (key a)) ++ a :: restK key l (key a)
/-- A row taken out. -/
def dropK (key : α → Int) (l : List α) (x : Int) : List α := l.take (posK key l x) ++ restK key l x

theorem posK_le (l : List α) (x : Int) : posK key l x ≤ l.length := by unfold posK; exact (List.takeWhile_prefix _).length_le
theorem posK_cons (a : α) (l : List α) (x : Int) : posK key (a :: l) x = if key a < x then posK key l x + 1 else 0 := by
  unfold posK
  by_cases h : key a < x <;> simp [List.takeWhile_cons, h]
theorem posK_lt : ∀ (l : List α) (x : Int) (k : Nat) (a : α), k < posK key l x → l[k]? = some a → key a < x
  | [], x, k, a, _, h2 => by simp at h2
  | b :: l, x, k, a, h1, h2 => by
    rw [posK_cons] at h1
    split at h1
    · cases k with
      | zero => simp at h2; subst h2; assumption
      | succ k => exact posK_lt l x k a (by omega) (by simpa using h2)
    · omega
theorem posK_at : ∀ (l : List α) (x : Int) (a : α), l[posK key l x]? = some a → x ≤ key a
  | [], x, a, h => by simp at h
  | b :: l, x, a, h => by
    rw [posK_cons] at h
    split at h
    · exact posK_at l x a (by simpa using h)
    · simp at h; subst h; omega
theorem posK_eq {l : List α} {x : Int} {i : Nat} (hi : i ≤ l.length) (h1 : ∀ k a, k < i → l[k]? = some a → key a < x) (h2 : ∀ a, l[i]? = some a → x ≤ key a) : posK key l x = i := by
  rcases Nat.lt_trichotomy (posK key l x) i with h | h | h
  · have hl : posK key l x < l.length := by omega
    have := posK_at l x _ (List.getElem?_eq_getElem hl)
    have := h1 _ _ h (List.getElem?_eq_getElem hl)
    omega
  · exact h
  · have := posK_le (key := key) l x
    have hl : i < l.length := by omega
    have := posK_lt l x i _ h (List.getElem?_eq_getElem hl)
    have := h2 _ (List.getElem?_eq_getElem hl)
    omega
theorem Rise.lt {l : List α} (h : Rise key l) {i j : Nat} {a b : α} (hij : i < j) (hi : l[i]? = some a) (hj : l[j]? = some b) : key a < key b := by
  obtain ⟨h1, rfl⟩ := List.getElem?_eq_some_iff.1 hi
  obtain ⟨h2, rfl⟩ := List.getElem?_eq_some_iff.1 hj
  exact List.pairwise_iff_getElem.1 h i j h1 h2 hij
theorem Rise.le {l : List α} (h : Rise key l) {i j : Nat} {a b : α} (hij : i ≤ j) (hi : l[i]? = some a) (hj : l[j]? = some b) : key a ≤ key b := by
  rcases Nat.lt_or_ge i j with h1 | h1
  · have := h.lt h1 hi hj; omega
  · obtain rfl : i = j := by omega
    rw [hi] at hj
    injection hj with hj
    rw [hj]; exact Int.le_refl _
/-- In a list that rises what is found stands at its place. -/
theorem findK_at : ∀ {l : List α}, Rise key l → ∀ x, findK key l x = (l[posK key l x]?).bind fun a => if key a = x then some a else none
  | [], _, x => rfl
  | b :: l, h, x => by
    rw [posK_cons]
    unfold Rise at h
    rw [List.pairwise_cons] at h
    unfold findK
    rw [List.find?_cons]
    rcases Int.lt_trichotomy (key b) x with hb | hb | hb
    · have h1 : (key b == x) = false := by simp; omega
      rw [h1, if_pos hb]
      exact findK_at h.2 x
    · have h1 : (key b == x) = true := by simp; omega
      rw [h1, if_neg (by omega)]
      simp [hb]
    · have h1 : (key b == x) = false := by simp; omega
      rw [h1, if_neg (by omega)]
      have : l.find? (fun a => key a == x) = none := by
        rw [List.find?_eq_none]
        intro a ha
        have := h.1 a ha
        simp; omega
      rw [this]
      simp; omega
theorem findK_some {l : List α} (h : Rise key l) {x : Int} {a : α} (hf : findK key l x = some a) : l[posK key l x]? = some a ∧ key a = x := by
  rw [findK_at h] at hf
  cases hq : l[posK key l x]? with
  | none => simp [hq] at hf
  | some b =>
    rw [hq] at hf
    by_cases hb : key b = x
    · simp [hb] at hf; subst hf; exact ⟨rfl, hb⟩
    · simp [hb] at hf
theorem findK_none {l : List α} (h : Rise key l) {x : Int} (hf : findK key l x = none) {a : α} (ha : l[posK key l x]? = some a) : x < key a := by
  have h1 := posK_at l x a ha
  rw [findK_at h, ha] at hf
  by_cases hb : key a = x
  · simp [hb] at hf
  · omega
theorem findK_mem {l : List α} {x : Int} {a : α} (hf : findK key l x = some a) : a ∈ l ∧ key a = x := by
  refine ⟨List.mem_of_find?_eq_some hf, ?_⟩
  have := List.find?_some hf
  simpa using this
theorem findK_no {l : List α} {x : Int} (hf : findK key l x = none) : ∀ a ∈ l, key a ≠ x := by
  intro a ha
  have := List.find?_eq_none.1 hf a ha
  simpa using this
theorem findK_of {l : List α} (h : Rise key l) {i : Nat} {a : α} (ha : l[i]? = some a) : findK key l (key a) = some a := by
  cases hf : findK key l (key a) with
  | none => exact absurd rfl (findK_no hf a (List.mem_of_getElem? ha))
  | some b =>
    obtain ⟨h1, h2⟩ := findK_some h hf
    rcases Nat.lt_trichotomy (posK key l (key a)) i with h3 | h3 | h3
    · have := h.lt h3 h1 ha; omega
    · rw [h3, ha] at h1; exact h1.symm
    · have := h.lt h3 ha h1; omega
theorem posK_of {l : List α} (h : Rise key l) {i : Nat} {a : α} (ha : l[i]? = some a) : posK key l (key a) = i :=
  posK_eq (by have := (List.getElem?_eq_some_iff.1 ha).1; omega) (fun k b hk hb => h.lt hk hb ha) fun b hb => by rw [ha] at hb; injection hb with hb; rw [hb]; exact Int.le_refl _
theorem rest_gtK {l : List α} (h : Rise key l) (x : Int) : ∀ b ∈ restK key l x, x < key b := by
  intro b hb
  unfold restK at hb
  obtain ⟨j, hj⟩ := List.mem_iff_getElem?.1 hb
  rw [List.getElem?_drop] at hj
  have hl := (List.getElem?_eq_some_iff.1 hj).1
  have hp : posK key l x < l.length := by omega
  have hg := List.getElem?_eq_getElem hp
  cases hf : findK key l x with
  | none =>
    have h1 := findK_none h hf hg
    have h2 := h.le (by omega) hg hj
    omega
  | some a =>
    obtain ⟨h1, h2⟩ := findK_some h hf
    rw [hf] at hj
    have := h.lt (by simp; omega) h1 hj
    omega
theorem take_ltK (l : List α) (x : Int) : ∀ b ∈ l.take (posK key l x), key b < x := by
  intro b hb
  obtain ⟨j, hj⟩ := List.mem_iff_getElem?.1 hb
  rw [List.getElem?_take] at hj
  split at hj
  · exact posK_lt l _ j b ‹_› hj
  · cases hj
theorem Rise.rest {l : List α} (h : Rise key l) (x : Int) : Rise key (restK key l x) := h.sublist (List.drop_sublist _ _)
theorem Rise.put {l : List α} (h : Rise key l) (a : α) : Rise key (putK key l a) := by
  unfold putK Rise
  rw [List.pairwise_append, List.pairwise_cons]
  refine ⟨h.sublist (List.take_sublist _ _), ⟨rest_gtK h _, h.rest _⟩, fun b hb c hc => ?_⟩
  have h1 := take_ltK l (key a) b hb
  rcases List.mem_cons.1 hc with rfl | hc
  · exact h1
  · have := rest_gtK h _ c hc; omega
theorem Rise.drop {l : List α} (h : Rise key l) (x : Int) : Rise key (dropK key l x) := by
  unfold dropK Rise
  rw [List.pairwise_append]
  refine ⟨h.sublist (List.take_sublist _ _), h.rest _, fun b hb c hc => ?_⟩
  have h1 := take_ltK l x b hb
  have := rest_gtK h _ c hc; omega
theorem mem_rest {l : List α} {x : Int} {a : α} (h : a ∈ restK key l x) : a ∈ l := List.mem_of_mem_drop h
theorem mem_put {l : List α} {a b : α} (h : b ∈ putK key l a) : b = a ∨ b ∈ l := by
  unfold putK at h
  rcases List.mem_append.1 h with h | h
  · exact .inr (List.mem_of_mem_take h)
  · rcases List.mem_cons.1 h with h | h
    · exact .inl h
    · exact .inr (mem_rest h)
theorem mem_drop {l : List α} {x : Int} {b : α} (h : b ∈ dropK key l x) : b ∈ l := by
  unfold dropK at h
  rcases List.mem_append.1 h with h | h
  · exact List.mem_of_mem_take h
  · exact mem_rest h
theorem restK_some {l : List α} {x : Int} (h : (findK key l x).isSome = true) : restK key l x = l.drop (posK key l x + 1) := by unfold restK; rw [h]; rfl
theorem restK_none {l : List α} {x : Int} (h : (findK key l x).isSome = false) : restK key l x = l.drop (posK key l x) := by unfold restK; rw [h]; rfl
theorem findK_lt {l : List α} (h : Rise key l) {x : Int} (hf : (findK key l x).isSome = true) : posK key l x < l.length := by
  obtain ⟨a, ha⟩ := Option.isSome_iff_exists.1 hf
  exact (List.getElem?_eq_some_iff.1 (findK_some h ha).1).1
/-- In another one's place. -/
theorem putK_found {l : List α} (h : Rise key l) {a : α} (hf : (findK key l (key a)).isSome = true) : putK key l a = l.set (posK key l (key a)) a := by
  unfold putK
  rw [restK_some hf, List.set_eq_take_append_cons_drop, if_pos (findK_lt h hf)]
theorem putK_fresh {l : List α} {a : α} (hf : (findK key l (key a)).isSome = false) : putK key l a = l.take (posK key l (key a)) ++ a :: l.drop (posK key l (key a)) := by
  unfold putK
  rw [restK_none hf]
theorem putK_len {l : List α} (h : Rise key l) {a : α} : (putK key l a).length = if (findK key l (key a)).isSome = true then l.length else l.length + 1 := by
  split
  · rw [putK_found h ‹_›]; simp
  · have := posK_le (key := key) l (key a)
    have hn : (findK key l (key a)).isSome = false := Bool.eq_false_iff.2 ‹¬ _›
    rw [putK_fresh hn]; simp; omega
theorem dropK_found {l : List α} {x : Int} (hf : (findK key l x).isSome = true) : dropK key l x = l.take (posK key l x) ++ l.drop (posK key l x + 1) := by unfold dropK; rw [restK_some hf]
theorem dropK_none {l : List α} {x : Int} (hf : (findK key l x).isSome = false) : dropK key l x = l := by unfold dropK; rw [restK_none hf, List.take_append_drop]
/-- What is found behind a row that was put. -/
theorem find_app {l m : List α} {x : Int} : findK key (l ++ m) x = (findK key l x).or (findK key m x) := by unfold findK; rw [List.find?_append]
theorem findK_out {l : List α} {x : Int} (h : ∀ a ∈ l, key a ≠ x) : findK key l x = none := by
  unfold findK
  rw [List.find?_eq_none]
  intro a ha
  simpa using h a ha
theorem find_put_same {l : List α} (a : α) : findK key (putK key l a) (key a) = some a := by
  unfold putK
  rw [find_app, findK_out fun b hb => by have := take_ltK l (key a) b hb; omega]
  simp [findK]
theorem find_split {l : List α} (h : Rise key l) (y : Int) (x : Int) (hx : x ≠ y) : findK key l x = (findK key (l.take (posK key l y)) x).or (findK key (restK key l y) x) := by
  cases hf : findK key l y with
  | none =>
    rw [restK_none (by rw [hf]; rfl), ← find_app, List.take_append_drop]
  | some a =>
    obtain ⟨h1, h2⟩ := findK_some h hf
    have hl := (List.getElem?_eq_some_iff.1 h1).1
    rw [restK_some (by rw [hf]; rfl)]
    conv => lhs; rw [← List.take_append_drop (posK key l y) l, List.drop_eq_getElem_cons hl]
    rw [find_app]
    congr 1
    have : l[posK key l y] = a := by rw [List.getElem?_eq_getElem hl] at h1; injection h1
    unfold findK
    rw [List.find?_cons, this]
    have : (key a == x) = false := by simp; omega
    rw [this]
theorem find_put_other {l : List α} (h : Rise key l) (a : α) {x : Int} (hx : x ≠ key a) : findK key (putK key l a) x = findK key l x := by
  rw [find_split h (key a) x hx]
  unfold putK
  rw [find_app]
  congr 1
  unfold findK
  rw [List.find?_cons]
  have : (key a == x) = false := by simp; omega
  rw [this]
theorem find_drop_same {l : List α} (h : Rise key l) (x : Int) : findK key (dropK key l x) x = none := by
  refine findK_out fun b hb => ?_
  unfold dropK at hb
  rcases List.mem_append.1 hb with hb | hb
  · have := take_ltK l x b hb; omega
  · have := rest_gtK h x b hb; omega
theorem find_drop_other {l : List α} (h : Rise key l) (y : Int) {x : Int} (hx : x ≠ y) : findK key (dropK key l y) x = findK key l x := by
  rw [find_split h y x hx]
  unfold dropK
  rw [find_app]
/-- Rows under a map. -/
theorem posK_map (f : β → α) (l : List β) (x : Int) : posK key (l.map f) x = posK (fun b => key (f b)) l x := by
  induction l with
  | nil => rfl
  | cons b l ih => rw [List.map_cons, posK_cons, posK_cons, ih]
theorem findK_map (f : β → α) (l : List β) (x : Int) : findK key (l.map f) x = (findK (fun b => key (f b)) l x).map f := by
  unfold findK
  rw [List.find?_map]; rfl
theorem restK_map (f : β → α) (l : List β) (x : Int) : restK key (l.map f) x = (restK (fun b => key (f b)) l x).map f := by
  unfold restK
  rw [posK_map, findK_map, Option.isSome_map, List.map_drop]
theorem putK_map (f : β → α) (l : List β) (b : β) : putK key (l.map f) (f b) = (putK (fun b => key (f b)) l b).map f := by
  unfold putK
  rw [restK_map, posK_map, List.map_append, List.map_cons, List.map_take]
theorem dropK_map (f : β → α) (l : List β) (x : Int) : dropK key (l.map f) x = (dropK (fun b => key (f b)) l x).map f := by
  unfold dropK
  rw [restK_map, posK_map, List.map_append, List.map_take]
theorem Rise.map {f : β → α} {l : List β} : Rise key (l.map f) ↔ Rise (fun b => key (f b)) l := by
  unfold Rise
  rw [List.pairwise_map]
theorem Rise.nil : Rise key ([] : List α) := List.Pairwise.nil
theorem dropK_filter {l : List α} (h : Rise key l) (x : Int) : dropK key l x = l.filter fun a => key a != x := by
  have h1 : l.take (posK key l x) = (l.take (posK key l x)).filter fun a => key a != x := by
    rw [List.filter_eq_self.2]
    intro a ha
    have := take_ltK l x a ha
    simp; omega
  have h2 : restK key l x = (restK key l x).filter fun a => key a != x := by
    rw [List.filter_eq_self.2]
    intro a ha
    have := rest_gtK h x a ha
    simp; omega
  unfold dropK
  rw [h1, h2, ← List.filter_append]
  cases hf : findK key l x with
  | none => rw [restK_none (by rw [hf]; rfl), List.take_append_drop]
  | some a =>
    obtain ⟨h3, h4⟩ := findK_some h hf
    have hl := (List.getElem?_eq_some_iff.1 h3).1
    have he : l[posK key l x] = a := by rw [List.getElem?_eq_getElem hl] at h3; injection h3
    rw [restK_some (by rw [hf]; rfl)]
    conv => rhs; rw [← List.take_append_drop (posK key l x) l, List.drop_eq_getElem_cons hl, he]
    rw [List.filter_append, List.filter_append, List.filter_cons]
    simp [h4]
end
end Go.Proofs.YtjlokkjbdgcooaaGreat

