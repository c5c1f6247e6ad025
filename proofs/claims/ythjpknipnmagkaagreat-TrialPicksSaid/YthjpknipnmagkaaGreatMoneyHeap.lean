/-
  Contracts of the methods of money's heap of rests.
-/
import Derived.Test.YthjpknipnmagkaaGreatMany1
import Derived.Test.YthjpknipnmagkaaGreatMany19
import Derived.Test.YthjpknipnmagkaaGreatMany8
import Derived.BigQuiet
import Derived.BigRegion
namespace Go.Proofs.YthjpknipnmagkaaGreat.Mo
open Go.RowKit

/-- Which of two rests comes first: the greater one, the earlier one of equal ones. A rest: the part, what was cut off. -/
def restLt (a b : Int × Int) : Bool := decide (b.2 < a.2 ∨ a.2 = b.2 ∧ a.1 < b.1)

theorem restOrd : Hp.Ord restLt where
  irr a := by simp [restLt]
  asym a b := by simp [restLt]; omega
  neg a b c := by simp [restLt]; omega

set_option maxHeartbeats 400000 in
theorem len_any (A : Option Addr) (n c : Nat) (w : World) (_hn : n ≤ maxLen) :
    Calls Tryz.prog 284 #[.slice A n c] w fun e w' => e = .returned (.int .i64 n) ∧ w = w' := by
  unfold maxLen at _hn
  go_enter Tryz.func284, Tryz.ntmps284
  go_wp2
  go_ret
  exact ⟨rfl, rfl⟩

set_option maxHeartbeats 400000 in
theorem less_any (g n c i j : Nat) (x y : Int × Int) (w : World) (_hn : n ≤ maxLen) (hi : i < n) (hj : j < n)
    (hi0 : w.cell? ⟨g, i * 2, none⟩ = some (.int .i64 x.1)) (hi1 : w.cell? ⟨g, i * 2 + 1, none⟩ = some (.int .u64 x.2))
    (hj0 : w.cell? ⟨g, j * 2, none⟩ = some (.int .i64 y.1)) (hj1 : w.cell? ⟨g, j * 2 + 1, none⟩ = some (.int .u64 y.2)) :
    Calls Tryz.prog 285 #[.slice (some ⟨g, 0, none⟩) n c, .int .i64 i, .int .i64 j] w fun e w' => e = .returned (.bool (restLt x y)) ∧ ∃ k, w' = w.drewN k := by
  unfold maxLen at _hn
  have a1 : (i : Int) < (n : Int) := by omega
  have a2 : (j : Int) < (n : Int) := by omega
  go_enter Tryz.func285, Tryz.ntmps285
  go_wp2
  go_quiet (fail)
  go_wp2
  all_goals
    go_quiet (fail)
    go_wp2
    go_ret
    refine ⟨ret_bool ?_, _, World.drewN_drewN _ _ _⟩
    rw [Bool.eq_iff_iff]
    simp [restLt] at *
    omega

/-- The world behind an exchange of the two records at i and j. -/
def swapped (w : World) (g i j : Nat) (x y : Int × Int) : World :=
  (((w.setCell ⟨g, i * 2, none⟩ (.int .i64 y.1)).setCell ⟨g, i * 2 + 1, none⟩ (.int .u64 y.2)).setCell ⟨g, j * 2, none⟩ (.int .i64 x.1)).setCell ⟨g, j * 2 + 1, none⟩ (.int .u64 x.2)

set_option maxHeartbeats 400000 in
theorem swap_walk (g n c i j : Nat) (x y : Int × Int) (w : World) (_hn : n ≤ maxLen) (hi : i < n) (hj : j < n) (hne : ¬ j = i)
    (hi0 : w.cell? ⟨g, i * 2, none⟩ = some (.int .i64 x.1)) (hi1 : w.cell? ⟨g, i * 2 + 1, none⟩ = some (.int .u64 x.2))
    (hj0 : w.cell? ⟨g, j * 2, none⟩ = some (.int .i64 y.1)) (hj1 : w.cell? ⟨g, j * 2 + 1, none⟩ = some (.int .u64 y.2))
    (hf : ∀ o, w.frozen? ⟨g, o, none⟩ = false) :
    Calls Tryz.prog 286 #[.slice (some ⟨g, 0, none⟩) n c, .int .i64 i, .int .i64 j] w fun e w' => e = .returned (.tuple #[]) ∧ (swapped w g i j x y).drew = w' := by
  unfold maxLen at _hn
  have a1 : (i : Int) < (n : Int) := by omega
  have a2 : (j : Int) < (n : Int) := by omega
  have b1 : ¬ i = j := fun h => hne h.symm
  have b2 : ¬ j * 2 = i * 2 + 1 := by omega
  have b3 : ¬ j * 2 + 1 = i * 2 := by omega
  have b4 : ¬ i * 2 = j * 2 + 1 := by omega
  have b5 : ¬ i * 2 + 1 = j * 2 := by omega
  go_enter Tryz.func286, Tryz.ntmps286
  go_wp2
  go_region
  go_end0
  exact ⟨rfl, rfl⟩

set_option maxHeartbeats 400000 in
theorem swap_self_walk (g n c i : Nat) (x : Int × Int) (w : World) (_hn : n ≤ maxLen) (hi : i < n)
    (hi0 : w.cell? ⟨g, i * 2, none⟩ = some (.int .i64 x.1)) (hi1 : w.cell? ⟨g, i * 2 + 1, none⟩ = some (.int .u64 x.2))
    (hf : ∀ o, w.frozen? ⟨g, o, none⟩ = false) :
    Calls Tryz.prog 286 #[.slice (some ⟨g, 0, none⟩) n c, .int .i64 i, .int .i64 i] w fun e w' => e = .returned (.tuple #[]) ∧ (swapped w g i i x x).drew = w' := by
  unfold maxLen at _hn
  have a1 : (i : Int) < (n : Int) := by omega
  go_enter Tryz.func286, Tryz.ntmps286
  go_wp2
  go_region
  go_end0
  exact ⟨rfl, rfl⟩

/-- The cells of n records. -/
def flat (f : Nat → Int × Int) : Nat → List Value
  | 0 => []
  | n + 1 => flat f n ++ [.int .i64 (f n).1, .int .u64 (f n).2]

theorem flat_len (f : Nat → Int × Int) : ∀ n, (flat f n).length = n * 2
  | 0 => rfl
  | n + 1 => by simp [flat, flat_len f n]; omega
theorem flat_at (f : Nat → Int × Int) : ∀ n k, k < n → (flat f n)[k * 2]? = some (.int .i64 (f k).1) ∧ (flat f n)[k * 2 + 1]? = some (.int .u64 (f k).2)
  | 0, k, h => by omega
  | n + 1, k, h => by
    have hl := flat_len f n
    by_cases e : k = n
    · subst e
      simp only [flat]
      constructor
      · rw [List.getElem?_append_right (by omega), hl]; simp
      · rw [List.getElem?_append_right (by omega), hl]; simp
    · obtain ⟨h1, h2⟩ := flat_at f n k (by omega)
      simp only [flat]
      rw [List.getElem?_append_left (by omega), List.getElem?_append_left (by omega)]
      exact ⟨h1, h2⟩
theorem flat_eq {f : Nat → Int × Int} {n : Nat} {xs : List Value} (hl : xs.length = n * 2) (h : ∀ k, k < n → xs[k * 2]? = some (.int .i64 (f k).1) ∧ xs[k * 2 + 1]? = some (.int .u64 (f k).2)) : xs = flat f n := by
  apply List.ext_getElem?
  intro m
  by_cases hm : m < n * 2
  · have h1 := h (m / 2) (by omega)
    have h2 := flat_at f n (m / 2) (by omega)
    by_cases e : m % 2 = 0
    · rw [show m / 2 * 2 = m from by omega] at h1 h2
      rw [h1.1, h2.1]
    · rw [show m / 2 * 2 + 1 = m from by omega] at h1 h2
      rw [h1.2, h2.2]
  · rw [List.getElem?_eq_none (by omega), List.getElem?_eq_none (by rw [flat_len]; omega)]
theorem flat_congr {f g : Nat → Int × Int} {n : Nat} (h : ∀ k, k < n → f k = g k) : flat f n = flat g n :=
  flat_eq (flat_len f n) fun k hk => by have := flat_at f n k hk; rw [h k hk] at this; exact this

/-- The row of records in block g. -/
def RRow (w : World) (g cap n : Nat) (f : Nat → Int × Int) : Prop :=
  ∃ cur : Array Value, w.heap[g]? = some (.cells cur 285 (0, 0)) ∧ n ≤ cap ∧ cap ≤ maxLen ∧ cur.size = cap * 2 ∧
    ∀ k, k < n → cur[k * 2]? = some (.int .i64 (f k).1) ∧ cur[k * 2 + 1]? = some (.int .u64 (f k).2)

theorem RRow.cells {w : World} {g cap n k : Nat} {f : Nat → Int × Int} (h : RRow w g cap n f) (hk : k < n) :
    w.cell? ⟨g, k * 2, none⟩ = some (.int .i64 (f k).1) ∧ w.cell? ⟨g, k * 2 + 1, none⟩ = some (.int .u64 (f k).2) := by
  obtain ⟨cur, h1, _, _, _, h2⟩ := h
  obtain ⟨a, b⟩ := h2 k hk
  simp [World.cell?, h1, a, b]
theorem RRow.warm {w : World} {g cap n : Nat} {f : Nat → Int × Int} (h : RRow w g cap n f) : ∀ o, w.frozen? ⟨g, o, none⟩ = false := by
  obtain ⟨cur, h1, _⟩ := h
  intro o; simp [World.frozen?, h1]
theorem swapped_row {w : World} {g cap n i j : Nat} {f : Nat → Int × Int} (h : RRow w g cap n f) (hi : i < n) (hj : j < n) : RRow (swapped w g i j (f i) (f j)).drew g cap n (Hp.swap f i j) := by
  obtain ⟨cur, h1, h2, h3, h4, h5⟩ := h
  refine ⟨_, set_here (set_here (set_here (set_here h1))), h2, h3, by simpa using h4, fun k hk => ?_⟩
  have hk5 := h5 k hk
  by_cases ej : k = j
  · subst ej
    rw [Hp.swap_r]
    refine ⟨?_, ?_⟩
    · rw [Array.getElem?_setIfInBounds_ne (by omega), Array.getElem?_setIfInBounds_self_of_lt (by simp; omega)]
    · rw [Array.getElem?_setIfInBounds_self_of_lt (by simp; omega)]
  · by_cases ei : k = i
    · subst ei
      rw [Hp.swap_l]
      refine ⟨?_, ?_⟩
      · rw [Array.getElem?_setIfInBounds_ne (by omega), Array.getElem?_setIfInBounds_ne (by omega), Array.getElem?_setIfInBounds_ne (by omega), Array.getElem?_setIfInBounds_self_of_lt (by omega)]
      · rw [Array.getElem?_setIfInBounds_ne (by omega), Array.getElem?_setIfInBounds_ne (by omega), Array.getElem?_setIfInBounds_self_of_lt (by simp; omega)]
    · rw [Hp.swap_o f i j k ei ej]
      refine ⟨?_, ?_⟩
      · rw [Array.getElem?_setIfInBounds_ne (by omega), Array.getElem?_setIfInBounds_ne (by omega), Array.getElem?_setIfInBounds_ne (by omega), Array.getElem?_setIfInBounds_ne (by omega)]; exact hk5.1
      · rw [Array.getElem?_setIfInBounds_ne (by omega), Array.getElem?_setIfInBounds_ne (by omega), Array.getElem?_setIfInBounds_ne (by omega), Array.getElem?_setIfInBounds_ne (by omega)]; exact hk5.2
theorem swapped_kept {w : World} {g i j : Nat} {x y : Int × Int} : w.grownBy (swapped w g i j x y).drew (some g) := by
  refine ⟨rfl, rfl, rfl, by simp [swapped, World.setCell, World.drew], fun k hk hne => ?_⟩
  have : k ≠ g := fun e => hne (by rw [e])
  show (swapped w g i j x y).heap[k]? = _
  unfold swapped
  rw [Below.heap_setCell _ _ _ _ this, Below.heap_setCell _ _ _ _ this, Below.heap_setCell _ _ _ _ this, Below.heap_setCell _ _ _ _ this]

theorem less_row (g cap n i j : Nat) (f : Nat → Int × Int) (w : World) (h : RRow w g cap n f) (hi : i < n) (hj : j < n) :
    Calls Tryz.prog 285 #[.slice (some ⟨g, 0, none⟩) n cap, .int .i64 i, .int .i64 j] w fun e w' => e = .returned (.bool (restLt (f i) (f j))) ∧ ∃ k, w' = w.drewN k :=
  less_any g n cap i j (f i) (f j) w (by obtain ⟨_, _, a, b, _⟩ := h; omega) hi hj (h.cells hi).1 (h.cells hi).2 (h.cells hj).1 (h.cells hj).2
theorem swap_row (g cap n i j : Nat) (f : Nat → Int × Int) (w : World) (h : RRow w g cap n f) (hi : i < n) (hj : j < n) :
    Calls Tryz.prog 286 #[.slice (some ⟨g, 0, none⟩) n cap, .int .i64 i, .int .i64 j] w fun e w' => e = .returned (.tuple #[]) ∧ RRow w' g cap n (Hp.swap f i j) ∧ w.grownBy w' (some g) := by
  have hn : n ≤ maxLen := by obtain ⟨_, _, a, b, _⟩ := h; omega
  by_cases e : j = i
  · subst e
    refine (swap_self_walk g n cap j (f j) w hn hi (h.cells hi).1 (h.cells hi).2 h.warm).mono fun e w' ⟨he, hw⟩ => ⟨he, ?_, ?_⟩
    · subst hw; exact swapped_row h hi hj
    · subst hw; exact swapped_kept
  · refine (swap_walk g n cap i j (f i) (f j) w hn hi hj e (h.cells hi).1 (h.cells hi).2 (h.cells hj).1 (h.cells hj).2 h.warm).mono fun e w' ⟨he, hw⟩ => ⟨he, ?_, ?_⟩
    · subst hw; exact swapped_row h hi hj
    · subst hw; exact swapped_kept
end Go.Proofs.YthjpknipnmagkaaGreat.Mo

