/-
  Several texts, one behind the other: what each holds stands ahead of it.
-/
import Derived.Test.YtjlokkjbdgcooaaGreatMany1
import Derived.Test.YtjlokkjbdgcooaaGreatMany2
import Derived.BigQuiet
import Derived.BigRegion

/-
  Contracts of the methods of money's heap of rests.
-/
namespace Go.Proofs.YtjlokkjbdgcooaaGreat.Mo
open Go.RowKit

/-- Which of two rests comes first: the greater one, the earlier one of equal ones. A rest: the part, what was cut off. -/
def restLt (a b : Int × Int) : Bool := decide (b.2 < a.2 ∨ a.2 = b.2 ∧ a.1 < b.1)

theorem restOrd : Hp.Ord restLt where
  irr a := by simp [restLt]
  asym a b := by simp [restLt]; omega
  neg a b c := by simp [restLt]; omega

set_option maxHeartbeats 400000 in
theorem len_any (A : Option Addr) (n c : Nat) (w : World) (_hn : n ≤ maxLen) :
    Calls Tryz.prog 292 #[.slice A n c] w fun e w' => e = .returned (.int .i64 n) ∧ w = w' := by
  unfold maxLen at _hn
  go_enter Tryz.func292, Tryz.ntmps292
  go_wp2
  go_ret
  exact ⟨rfl, rfl⟩

set_option maxHeartbeats 400000 in
theorem less_any (g n c i j : Nat) (x y : Int × Int) (w : World) (_hn : n ≤ maxLen) (hi : i < n) (hj : j < n)
    (hi0 : w.cell? ⟨g, i * 2, none⟩ = some (.int .i64 x.1)) (hi1 : w.cell? ⟨g, i * 2 + 1, none⟩ = some (.int .u64 x.2))
    (hj0 : w.cell? ⟨g, j * 2, none⟩ = some (.int .i64 y.1)) (hj1 : w.cell? ⟨g, j * 2 + 1, none⟩ = some (.int .u64 y.2)) :
    Calls Tryz.prog 293 #[.slice (some ⟨g, 0, none⟩) n c, .int .i64 i, .int .i64 j] w fun e w' => e = .returned (.bool (restLt x y)) ∧ ∃ k, w' = w.drewN k := by
  unfold maxLen at _hn
  have a1 : (i : Int) < (n : Int) := by omega
  have a2 : (j : Int) < (n : Int) := by omega
  go_enter Tryz.func293, Tryz.ntmps293
  go_wp2
  go_quiet (fail)
  go_wp2
  all_goals
    go_quiet (fail)
    go_wp2
    go_ret
    refine ⟨ret_bool ?_, _, World.drewN_drewN _ _ _⟩
    rw [Bool.eq_iff_iff]
    simp [restLt] at *
    omega

/-- The world behind an exchange of the two records at i and j. -/
def swapped (w : World) (g i j : Nat) (x y : Int × Int) : World :=
  (((w.setCell ⟨g, i * 2, none⟩ (.int .i64 y.1)).setCell ⟨g, i * 2 + 1, none⟩ (.int .u64 y.2)).setCell ⟨g, j * 2, none⟩ (.int .i64 x.1)).setCell ⟨g, j * 2 + 1, none⟩ (.int .u64 x.2)

set_option maxHeartbeats 400000 in
theorem swap_walk (g n c i j : Nat) (x y : Int × Int) (w : World) (_hn : n ≤ maxLen) (hi : i < n) (hj : j < n) (hne : ¬ j = i)
    (hi0 : w.cell? ⟨g, i * 2, none⟩ = some (.int .i64 x.1)) (hi1 : w.cell? ⟨g, i * 2 + 1, none⟩ = some (.int .u64 x.2))
    (hj0 : w.cell? ⟨g, j * 2, none⟩ = some (.int .i64 y.1)) (hj1 : w.cell? ⟨g, j * 2 + 1, none⟩ = some (.int .u64 y.2))
    (hf : ∀ o, w.frozen? ⟨g, o, none⟩ = false) :
    Calls Tryz.prog 294 #[.slice (some ⟨g, 0, none⟩) n c, .int .i64 i, .int .i64 j] w fun e w' => e = .returned (.tuple #[]) ∧ (swapped w g i j x y).drew = w' := by
  unfold maxLen at _hn
  have a1 : (i : Int) < (n : Int) := by omega
  have a2 : (j : Int) < (n : Int) := by omega
  have b1 : ¬ i = j := fun h => hne h.symm
  have b2 : ¬ j * 2 = i * 2 + 1 := by omega
  have b3 : ¬ j * 2 + 1 = i * 2 := by omega
  have b4 : ¬ i * 2 = j * 2 + 1 := by omega
  have b5 : ¬ i * 2 + 1 = j * 2 := by omega
  go_enter Tryz.func294, Tryz.ntmps294
  go_wp2
  go_region
  go_end0
  exact ⟨rfl, rfl⟩

set_option maxHeartbeats 400000 in
theorem swap_self_walk (g n c i : Nat) (x : Int × Int) (w : World) (_hn : n ≤ maxLen) (hi : i < n)
    (hi0 : w.cell? ⟨g, i * 2, none⟩ = some (.int .i64 x.1)) (hi1 : w.cell? ⟨g, i * 2 + 1, none⟩ = some (.int .u64 x.2))
    (hf : ∀ o, w.frozen? ⟨g, o, none⟩ = false) :
    Calls Tryz.prog 294 #[.slice (some ⟨g, 0, none⟩) n c, .int .i64 i, .int .i64 i] w fun e w' => e = .returned (.tuple #[]) ∧ (swapped w g i i x x).drew = w' := by
  unfold maxLen at _hn
  have a1 : (i : Int) < (n : Int) := by omega
  go_enter Tryz.func294, Tryz.ntmps294
  go_wp2
  go_region
  go_end0
  exact ⟨rfl, rfl⟩

/-- The cells of n records. -/
def flat (f : Nat → Int × Int) : Nat → List Value
  | 0 => []
  | n + 1 => flat f n ++ [.int .i64 (f n).1, .int .u64 (f n).2]

theorem flat_len (f : Nat → Int × Int) : ∀ n, (flat f n).length = n * 2
  | 0 => rfl
  | n + 1 => by simp [flat, flat_len f n]; omega
theorem flat_at (f : Nat → Int × Int) : ∀ n k, k < n → (flat f n)[k * 2]? = some (.int .i64 (f k).1) ∧ (flat f n)[k * 2 + 1]? = some (.int .u64 (f k).2)
  | 0, k, h => by omega
  | n + 1, k, h => by
    have hl := flat_len f n
    by_cases e : k = n
    · subst e
      simp only [flat]
      constructor
      · rw [List.getElem?_append_right (by omega), hl]; simp
      · rw [List.getElem?_append_right (by omega), hl]; simp
    · obtain ⟨h1, h2⟩ := flat_at f n k (by omega)
      simp only [flat]
      rw [List.getElem?_append_left (by omega), List.getElem?_append_left (by omega)]
      exact ⟨h1, h2⟩
theorem flat_eq {f : Nat → Int × Int} {n : Nat} {xs : List Value} (hl : xs.length = n * 2) (h : ∀ k, k < n → xs[k * 2]? = some (.int .i64 (f k).1) ∧ xs[k * 2 + 1]? = some (.int .u64 (f k).2)) : xs = flat f n := by
  apply List.ext_getElem?
  intro m
  by_cases hm : m < n * 2
  · have h1 := h (m / 2) (by omega)
    have h2 := flat_at f n (m / 2) (by omega)
    by_cases e : m % 2 = 0
    · rw [show m / 2 * 2 = m from by omega] at h1 h2
      rw [h1.1, h2.1]
    · rw [show m / 2 * 2 + 1 = m from by omega] at h1 h2
      rw [h1.2, h2.2]
  · rw [List.getElem?_eq_none (by omega), List.getElem?_eq_none (by rw [flat_len]; omega)]
theorem flat_congr {f g : Nat → Int × Int} {n : Nat} (h : ∀ k, k < n → f k = g k) : flat f n = flat g n :=
  flat_eq (flat_len f n) fun k hk => by have := flat_at f n k hk; rw [h k hk] at this; exact this

/-- The row of records in block g. -/
def RRow (w : World) (g cap n : Nat) (f : Nat → Int × Int) : Prop :=
  ∃ cur : Array Value, w.heap[g]? = some (.cells cur 293 (0, 0)) ∧ n ≤ cap ∧ cap ≤ maxLen ∧ cur.size = cap * 2 ∧
    ∀ k, k < n → cur[k * 2]? = some (.int .i64 (f k).1) ∧ cur[k * 2 + 1]? = some (.int .u64 (f k).2)

theorem RRow.cells {w : World} {g cap n k : Nat} {f : Nat → Int × Int} (h : RRow w g cap n f) (hk : k < n) :
    w.cell? ⟨g, k * 2, none⟩ = some (.int .i64 (f k).1) ∧ w.cell? ⟨g, k * 2 + 1, none⟩ = some (.int .u64 (f k).2) := by
  obtain ⟨cur, h1, _, _, _, h2⟩ := h
  obtain ⟨a, b⟩ := h2 k hk
  simp [World.cell?, h1, a, b]
theorem RRow.warm {w : World} {g cap n : Nat} {f : Nat → Int × Int} (h : RRow w g cap n f) : ∀ o, w.frozen? ⟨g, o, none⟩ = false := by
  obtain ⟨cur, h1, _⟩ := h
  intro o; simp [World.frozen?, h1]
theorem swapped_row {w : World} {g cap n i j : Nat} {f : Nat → Int × Int} (h : RRow w g cap n f) (hi : i < n) (hj : j < n) : RRow (swapped w g i j (f i) (f j)).drew g cap n (Hp.swap f i j) := by
  obtain ⟨cur, h1, h2, h3, h4, h5⟩ := h
  refine ⟨_, set_here (set_here (set_here (set_here h1))), h2, h3, by simpa using h4, fun k hk => ?_⟩
  have hk5 := h5 k hk
  by_cases ej : k = j
  · subst ej
    rw [Hp.swap_r]
    refine ⟨?_, ?_⟩
    · rw [Array.getElem?_setIfInBounds_ne (by omega), Array.getElem?_setIfInBounds_self_of_lt (by simp; omega)]
    · rw [Array.getElem?_setIfInBounds_self_of_lt (by simp; omega)]
  · by_cases ei : k = i
    · subst ei
      rw [Hp.swap_l]
      refine ⟨?_, ?_⟩
      · rw [Array.getElem?_setIfInBounds_ne (by omega), Array.getElem?_setIfInBounds_ne (by omega), Array.getElem?_setIfInBounds_ne (by omega), Array.getElem?_setIfInBounds_self_of_lt (by omega)]
      · rw [Array.getElem?_setIfInBounds_ne (by omega), Array.getElem?_setIfInBounds_ne (by omega), Array.getElem?_setIfInBounds_self_of_lt (by simp; omega)]
    · rw [Hp.swap_o f i j k ei ej]
      refine ⟨?_, ?_⟩
      · rw [Array.getElem?_setIfInBounds_ne (by omega), Array.getElem?_setIfInBounds_ne (by omega), Array.getElem?_setIfInBounds_ne (by omega), Array.getElem?_setIfInBounds_ne (by omega)]; exact hk5.1
      · rw [Array.getElem?_setIfInBounds_ne (by omega), Array.getElem?_setIfInBounds_ne (by omega), Array.getElem?_setIfInBounds_ne (by omega), Array.getElem?_setIfInBounds_ne (by omega)]; exact hk5.2
theorem swapped_kept {w : World} {g i j : Nat} {x y : Int × Int} : w.grownBy (swapped w g i j x y).drew (some g) := by
  refine ⟨rfl, rfl, rfl, by simp [swapped, World.setCell, World.drew], fun k hk hne => ?_⟩
  have : k ≠ g := fun e => hne (by rw [e])
  show (swapped w g i j x y).heap[k]? = _
  unfold swapped
  rw [Below.heap_setCell _ _ _ _ this, Below.heap_setCell _ _ _ _ this, Below.heap_setCell _ _ _ _ this, Below.heap_setCell _ _ _ _ this]

theorem less_row (g cap n i j : Nat) (f : Nat → Int × Int) (w : World) (h : RRow w g cap n f) (hi : i < n) (hj : j < n) :
    Calls Tryz.prog 293 #[.slice (some ⟨g, 0, none⟩) n cap, .int .i64 i, .int .i64 j] w fun e w' => e = .returned (.bool (restLt (f i) (f j))) ∧ ∃ k, w' = w.drewN k :=
  less_any g n cap i j (f i) (f j) w (by obtain ⟨_, _, a, b, _⟩ := h; omega) hi hj (h.cells hi).1 (h.cells hi).2 (h.cells hj).1 (h.cells hj).2
theorem swap_row (g cap n i j : Nat) (f : Nat → Int × Int) (w : World) (h : RRow w g cap n f) (hi : i < n) (hj : j < n) :
    Calls Tryz.prog 294 #[.slice (some ⟨g, 0, none⟩) n cap, .int .i64 i, .int .i64 j] w fun e w' => e = .returned (.tuple #[]) ∧ RRow w' g cap n (Hp.swap f i j) ∧ w.grownBy w' (some g) := by
  have hn : n ≤ maxLen := by obtain ⟨_, _, a, b, _⟩ := h; omega
  by_cases e : j = i
  · subst e
    refine (swap_self_walk g n cap j (f j) w hn hi (h.cells hi).1 (h.cells hi).2 h.warm).mono fun e w' ⟨he, hw⟩ => ⟨he, ?_, ?_⟩
    · subst hw; exact swapped_row h hi hj
    · subst hw; exact swapped_kept
  · refine (swap_walk g n cap i j (f i) (f j) w hn hi hj e (h.cells hi).1 (h.cells hi).2 (h.cells hj).1 (h.cells hj).2 h.warm).mono fun e w' ⟨he, hw⟩ => ⟨he, ?_, ?_⟩
    · subst hw; exact swapped_row h hi hj
    · subst hw; exact swapped_kept
end Go.Proofs.YtjlokkjbdgcooaaGreat.Mo

/-
  Contracts of container/heap's up and down over money's heap of rests.
-/
namespace Go.Proofs.YtjlokkjbdgcooaaGreat.Mo
open Go.RowKit

/-- The variable in block b holds the slice over the row in block g. -/
def Box (w : World) (b g n cap : Nat) : Prop := w.heap[b]? = some (.cells #[.slice (some ⟨g, 0, none⟩) n cap] 289 (0, 0)) ∧ b ≠ g
theorem Box.cell {w : World} {b g n cap : Nat} (h : Box w b g n cap) : w.cell? ⟨b, 0, none⟩ = some (.slice (some ⟨g, 0, none⟩) n cap) := by simp [World.cell?, h.1]
theorem Box.lt {w : World} {b g n cap : Nat} (h : Box w b g n cap) : b < w.heap.size := by
  rcases Nat.lt_or_ge b w.heap.size with hlt | hge
  · exact hlt
  · have := h.1; rw [Array.getElem?_eq_none hge] at this; cases this
theorem Box.grown {w w' : World} {b g n cap : Nat} (h : Box w b g n cap) (hg : w.grownBy w' (some g)) : Box w' b g n cap :=
  ⟨(hg.block b h.lt (fun e => h.2 (by injection e))).trans h.1, h.2⟩

theorem method_less (b : Nat) (w : World) (v : Value) (hc : w.cell? ⟨b, 0, none⟩ = some v) :
    (method 458 294 (.pointer (some ⟨b, 0, none⟩)) "Less").run Tryz.prog w = .ok (293, v) w := method_through (by kernel_rfl) Tryz.underlying294 (by simp [go_sem, hc])
theorem method_swap (b : Nat) (w : World) (v : Value) (hc : w.cell? ⟨b, 0, none⟩ = some v) :
    (method 458 294 (.pointer (some ⟨b, 0, none⟩)) "Swap").run Tryz.prog w = .ok (294, v) w := method_through (by kernel_rfl) Tryz.underlying294 (by simp [go_sem, hc])
theorem method_len (b : Nat) (w : World) (v : Value) (hc : w.cell? ⟨b, 0, none⟩ = some v) :
    (method 458 294 (.pointer (some ⟨b, 0, none⟩)) "Len").run Tryz.prog w = .ok (292, v) w := method_through (by kernel_rfl) Tryz.underlying294 (by simp [go_sem, hc])
theorem method_push (b : Nat) (w : World) :
    (method 458 294 (.pointer (some ⟨b, 0, none⟩)) "Push").run Tryz.prog w = .ok (296, .pointer (some ⟨b, 0, none⟩)) w := by kernel_rfl
theorem method_pop (b : Nat) (w : World) :
    (method 458 294 (.pointer (some ⟨b, 0, none⟩)) "Pop").run Tryz.prog w = .ok (295, .pointer (some ⟨b, 0, none⟩)) w := by kernel_rfl

theorem RRow.drewN {w : World} {g cap n : Nat} {f : Nat → Int × Int} (h : RRow w g cap n f) (k : Nat) : RRow (w.drewN k) g cap n f := h
theorem Box.drewN {w : World} {b g n cap : Nat} (h : Box w b g n cap) (k : Nat) : Box (w.drewN k) b g n cap := h
theorem grown_drewN {a w : World} {row : Option Nat} (h : a.grownBy w row) (n : Nat) : a.grownBy (w.drewN n) row := ⟨h.os, h.tape, h.output, h.size, h.block⟩

set_option maxRecDepth 100000 in
set_option maxHeartbeats 400000 in
theorem up_any (b g n cap j : Nat) (f : Nat → Int × Int) (w : World) (hb : Box w b g n cap) (hr : RRow w g cap n f) (hu : Hp.Up restLt n j f) (hj : j < n) :
    Calls Tryz.prog 188 #[.iface 294 (.pointer (some ⟨b, 0, none⟩)), .int .i64 j] w fun e w' => e = .returned (.tuple #[]) ∧
      ∃ f', RRow w' g cap n f' ∧ Hp.Heap restLt n f' ∧ Hp.Perm n f f' ∧ w.grownBy w' (some g) := by
  have hn : n ≤ maxLen := by obtain ⟨_, _, a, b, _⟩ := hr; omega
  unfold maxLen at hn
  go_enter Tryz.func188, Tryz.ntmps188
  go_wp2_with fail
  go_loopw [1] (fun x wr => ∃ k f', k < n ∧ x = .int .i64 (k : Nat) ∧ RRow wr g cap n f' ∧ Hp.Up restLt n k f' ∧ Hp.Perm n f f' ∧ w.grownBy wr (some g)) (fun x _ => (intOf x).toNat)
  case atStart => exact ⟨j, f, hj, rfl, hr, hu, Hp.Perm.refl _ _, World.grownBy.refl _ _⟩
  case round =>
    obtain ⟨k, f1, hk, rfl, hr1, hu1, hp1, hg1⟩ := hrel
    by_cases h0 : k = 0
    · subst h0
      go_wp2_with fail
      go_end0
      exact ⟨rfl, f1, hr1, hu1.done (.inl rfl), hp1, hg1⟩
    · have he : ((k : Int) - 1) / 2 = (((k - 1) / 2 : Nat) : Int) := by omega
      have hlt : (k - 1) / 2 < k := by omega
      have H1 := Lib.hid (hu1.done (lt := restLt))
      have H2 := Lib.hid (hu1.step restOrd (by omega) hk)
      generalize (k - 1) / 2 = i at *
      have hne : ((i : Int) == (k : Int)) = false := by simp; omega
      have hbx := (hb.grown hg1).cell
      have hml := method_less b wr _ hbx
      go_wp2_with fail
      refine (less_row g cap n k i f1 wr hr1 hk (by omega)).mono ?_
      rintro e w' ⟨rfl, m, rfl⟩
      cases hl : restLt (f1 k) (f1 i)
      · go_wp2_with fail
        go_end0
        exact ⟨rfl, f1, hr1, H1.out (.inr hl), hp1, grown_drewN hg1 m⟩
      · have hms := method_swap b (wr.drewN m) _ hbx
        have Hl := Lib.hid hl
        clear hl hml
        go_wp2_with fail
        refine (swap_row g cap n i k f1 _ (hr1.drewN m) (by omega) hk).mono ?_
        rintro e w' ⟨rfl, hr2, hg2⟩
        go_wp2_with fail
        exact ⟨⟨i, Hp.swap f1 i k, by omega, rfl, hr2, H2.out Hl.out, hp1.trans (Hp.Perm.swap_ f1 (by omega) hk), (grown_drewN hg1 m).trans hg2⟩, by simp [intOf]; omega⟩

def SomeBool (e : Ending) : Prop := ∃ x, e = .returned (.bool x)

set_option maxRecDepth 100000 in
set_option maxHeartbeats 1000000 in
/-- 'down' from i0 on, in the first N places of the row. -/
theorem down_any (b g n cap N i0 : Nat) (f : Nat → Int × Int) (w : World) (hb : Box w b g n cap) (hr : RRow w g cap n f) (hu : Hp.Down restLt N i0 f) (hN : N ≤ n) (hi0 : i0 < n) (hsm : n < 1000000) :
    Calls Tryz.prog 187 #[.iface 294 (.pointer (some ⟨b, 0, none⟩)), .int .i64 i0, .int .i64 N] w fun e w' => SomeBool e ∧
      ∃ f', RRow w' g cap n f' ∧ Hp.Heap restLt N f' ∧ Hp.Perm N f f' ∧ w.grownBy w' (some g) := by
  go_enter Tryz.func187, Tryz.ntmps187
  go_wp2_with fail
  go_loopw [7] (fun x wr => ∃ k f', k < n ∧ x = .int .i64 (k : Nat) ∧ RRow wr g cap n f' ∧ Hp.Down restLt N k f' ∧ Hp.Perm N f f' ∧ w.grownBy wr (some g)) (fun x _ => n - (intOf x).toNat)
  case atStart => exact ⟨i0, f, hi0, rfl, hr, hu, Hp.Perm.refl _ _, World.grownBy.refl _ _⟩
  case round =>
    obtain ⟨k, f1, hk, rfl, hr1, hu1, hp1, hg1⟩ := hrel
    have hbx := (hb.grown hg1).cell
    obtain ⟨j1, hj1⟩ : ∃ j1, j1 = 2 * k + 1 := ⟨_, rfl⟩
    obtain ⟨j2, hj2⟩ : ∃ j2, j2 = j1 + 1 := ⟨_, rfl⟩
    have e1 : 2 * (k : Int) + 1 = (j1 : Int) := by omega
    have e2 : (j1 : Int) + 1 = (j2 : Int) := by omega
    have J1 := Lib.hid hj1
    have J2 := Lib.hid hj2
    clear hj1 hj2
    have hk1 : k < j1 := by have := J1.out; omega
    have hsm1 : j1 < 2000001 := by have := J1.out; omega
    have hsm2 : j2 < 2000002 := by have := J2.out; omega
    by_cases h1 : N ≤ j1
    · go_wp2_with fail
      go_ret
      refine ⟨⟨_, rfl⟩, f1, hr1, hu1.done ?_, hp1, hg1⟩
      intro q h0 hq hp
      have := J1.out; omega
    · have hml := method_less b wr _ hbx
      by_cases h2 : j2 < N
      · go_wp2_with fail
        refine (less_row g cap n j2 j1 f1 wr hr1 (by omega) (by omega)).mono ?_
        rintro e w' ⟨rfl, m, rfl⟩
        have hml2 := method_less b (wr.drewN m) _ hbx
        cases hl : restLt (f1 j2) (f1 j1)
        · have Hl := Lib.hid hl
          clear hl
          go_wp2_with fail
          have hm : ∀ q, 0 < q → q < N → (q - 1) / 2 = k → restLt (f1 q) (f1 j1) = false := by
            have a1 := J1.out
            have a2 := J2.out
            intro q h0 hq hp
            rcases (show q = j1 ∨ q = j2 by omega) with rfl | rfl
            · exact restOrd.irr _
            · exact Hl.out
          have HM := Lib.hid hm
          clear hm
          refine (less_row g cap n j1 k f1 _ (hr1.drewN m) (by omega) hk).mono ?_
          rintro e w' ⟨rfl, m2, rfl⟩
          cases hl2 : restLt (f1 j1) (f1 k)
          · have Hl2 := Lib.hid hl2
            clear hl2
            go_wp2_with fail
            go_ret
            exact ⟨⟨_, rfl⟩, f1, hr1, hu1.done (fun q h0 hq hp => restOrd.neg _ _ _ (HM.out q h0 hq hp) Hl2.out), hp1, grown_drewN hg1 _⟩
          · have Hl2 := Lib.hid hl2
            clear hl2
            have hms := method_swap b ((wr.drewN m).drewN m2) _ hbx
            rw [World.drewN_drewN] at hms
            go_wp2_with fail
            refine (swap_row g cap n k j1 f1 _ (hr1.drewN _) hk (by omega)).mono ?_
            rintro e w' ⟨rfl, hr2, hg2⟩
            go_wp2_with fail
            exact ⟨⟨j1, Hp.swap f1 k j1, by omega, rfl, hr2, hu1.step restOrd (by omega) (by omega) (by have := J1.out; have := J2.out; omega) Hl2.out HM.out, hp1.trans (Hp.Perm.swap_ f1 (by omega) (by omega)), (grown_drewN hg1 _).trans hg2⟩, by simp [intOf]; omega⟩
        · have Hl := Lib.hid hl
          clear hl
          go_wp2_with fail
          have hm : ∀ q, 0 < q → q < N → (q - 1) / 2 = k → restLt (f1 q) (f1 j2) = false := by
            have a1 := J1.out
            have a2 := J2.out
            intro q h0 hq hp
            rcases (show q = j1 ∨ q = j2 by omega) with rfl | rfl
            · exact restOrd.asym _ _ Hl.out
            · exact restOrd.irr _
          have HM := Lib.hid hm
          clear hm
          refine (less_row g cap n j2 k f1 _ (hr1.drewN m) (by omega) hk).mono ?_
          rintro e w' ⟨rfl, m2, rfl⟩
          cases hl2 : restLt (f1 j2) (f1 k)
          · have Hl2 := Lib.hid hl2
            clear hl2
            go_wp2_with fail
            go_ret
            exact ⟨⟨_, rfl⟩, f1, hr1, hu1.done (fun q h0 hq hp => restOrd.neg _ _ _ (HM.out q h0 hq hp) Hl2.out), hp1, grown_drewN hg1 _⟩
          · have Hl2 := Lib.hid hl2
            clear hl2
            have hms := method_swap b ((wr.drewN m).drewN m2) _ hbx
            rw [World.drewN_drewN] at hms
            go_wp2_with fail
            refine (swap_row g cap n k j2 f1 _ (hr1.drewN _) hk (by omega)).mono ?_
            rintro e w' ⟨rfl, hr2, hg2⟩
            go_wp2_with fail
            exact ⟨⟨j2, Hp.swap f1 k j2, by omega, rfl, hr2, hu1.step restOrd (by omega) (by omega) (by have := J1.out; have := J2.out; omega) Hl2.out HM.out, hp1.trans (Hp.Perm.swap_ f1 (by omega) (by omega)), (grown_drewN hg1 _).trans hg2⟩, by simp [intOf]; omega⟩
      · go_wp2_with fail
        have hm : ∀ q, 0 < q → q < N → (q - 1) / 2 = k → restLt (f1 q) (f1 j1) = false := by
          have a1 := J1.out
          have a2 := J2.out
          intro q h0 hq hp
          rcases (show q = j1 ∨ q = j2 by omega) with rfl | rfl
          · exact restOrd.irr _
          · omega
        have HM := Lib.hid hm
        clear hm
        refine (less_row g cap n j1 k f1 _ hr1 (by omega) hk).mono ?_
        rintro e w' ⟨rfl, m2, rfl⟩
        cases hl2 : restLt (f1 j1) (f1 k)
        · have Hl2 := Lib.hid hl2
          clear hl2
          go_wp2_with fail
          go_ret
          exact ⟨⟨_, rfl⟩, f1, hr1, hu1.done (fun q h0 hq hp => restOrd.neg _ _ _ (HM.out q h0 hq hp) Hl2.out), hp1, grown_drewN hg1 _⟩
        · have Hl2 := Lib.hid hl2
          clear hl2
          have hms := method_swap b (wr.drewN m2) _ hbx
          go_wp2_with fail
          refine (swap_row g cap n k j1 f1 _ (hr1.drewN _) hk (by omega)).mono ?_
          rintro e w' ⟨rfl, hr2, hg2⟩
          go_wp2_with fail
          exact ⟨⟨j1, Hp.swap f1 k j1, by omega, rfl, hr2, hu1.step restOrd (by omega) (by omega) (by have := J1.out; have := J2.out; omega) Hl2.out HM.out, hp1.trans (Hp.Perm.swap_ f1 (by omega) (by omega)), (grown_drewN hg1 _).trans hg2⟩, by simp [intOf]; omega⟩
end Go.Proofs.YtjlokkjbdgcooaaGreat.Mo
