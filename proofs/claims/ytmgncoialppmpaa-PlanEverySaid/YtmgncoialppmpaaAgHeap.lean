/-
  Contracts of the methods of agenda's queue.
-/
import Derived.Test.YtmgncoialppmpaaMany10
namespace Go.Proofs.Ytmgncoialppmpaa
open Go.RowKit Go.Sort

theorem grown_of_below {w w' : World} {o : Option Nat} (h : Below w.heap.size w w') : w.grownBy w' o := ⟨h.os, h.tape, h.output, h.size, fun k hk _ => h.block k hk⟩
theorem below_grow {w : World} {q : Nat} {os : Array Obj} : Below w.heap.size w (grow (w.drewN q) os) :=
  below_regrown w (w.drawn + q) os
set_option maxHeartbeats 400000 in
theorem lenI_any (A : Option Addr) (n c : Nat) (w : World) (_hn : n ≤ maxLen) :
    Calls Try.prog 78 #[.slice A n c] w fun e w' => e = .returned (.int .i64 n) ∧ w = w' := by
  unfold maxLen at _hn
  go_enter Try.func78, Try.ntmps78
  go_wp2
  go_ret
  exact ⟨rfl, rfl⟩

set_option maxRecDepth 100000 in
set_option maxHeartbeats 2000000 in
theorem less_any (g n c i j : Nat) (x y : Itm) (w : World) (_hn : n ≤ maxLen) (hi : i < n) (hj : j < n)
    (hi0 : w.cell? ⟨g, i * 3, none⟩ = some (.int .i64 x.per)) (hi1 : w.cell? ⟨g, i * 3 + 1, none⟩ = some (.int .i64 x.rk)) (hi2 : w.cell? ⟨g, i * 3 + 2, none⟩ = some (.int .i64 x.id))
    (hj0 : w.cell? ⟨g, j * 3, none⟩ = some (.int .i64 y.per)) (hj1 : w.cell? ⟨g, j * 3 + 1, none⟩ = some (.int .i64 y.rk)) (hj2 : w.cell? ⟨g, j * 3 + 2, none⟩ = some (.int .i64 y.id)) :
    Calls Try.prog 79 #[.slice (some ⟨g, 0, none⟩) n c, .int .i64 i, .int .i64 j] w fun e w' => e = .returned (.bool (itmLt x y)) ∧ Below w.heap.size w w' := by
  unfold maxLen at _hn
  have a1 : (i : Int) < (n : Int) := by omega
  have a2 : (j : Int) < (n : Int) := by omega
  replace hi0 := cell_regrown hi0; replace hi1 := cell_regrown hi1; replace hi2 := cell_regrown hi2
  replace hj0 := cell_regrown hj0; replace hj1 := cell_regrown hj1; replace hj2 := cell_regrown hj2
  have HE := Lib.hid (ordI_lt x y)
  have Q1 := Lib.hid (regrown_calls (w := w) fun w1 _ => (order_any x y w1).mono fun e w' h => ⟨h.1, by obtain ⟨_, q, os, rfl⟩ := h; exact below_grow⟩)
  generalize ordI x y = z at *
  generalize itmLt x y = b at *
  go_enter Try.func79, Try.ntmps79
  go_wp2_with fail
  refine wp_region_quiet_below (by kernel_rfl) (by kernel_rfl) ?_
  repeat (quiet_step (fail))
  quiet_step (exact Q1.out _ _)
  repeat (quiet_step (fail))
  refine wpQuiet_nil ?_
  intro _ hw'
  obtain ⟨⟨dq, osq⟩, hw''⟩ := hw'
  subst hw''
  go_wp2_with fail
  go_ret
  exact ⟨ret_bool HE.out, below_regrown w dq osq⟩

set_option maxHeartbeats 1000000 in
theorem swap_walk (g n c i j : Nat) (x y : Itm) (w : World) (_hn : n ≤ maxLen) (hi : i < n) (hj : j < n) (hne : ¬ j = i)
    (hi0 : w.cell? ⟨g, i * 3, none⟩ = some (.int .i64 x.per)) (hi1 : w.cell? ⟨g, i * 3 + 1, none⟩ = some (.int .i64 x.rk)) (hi2 : w.cell? ⟨g, i * 3 + 2, none⟩ = some (.int .i64 x.id))
    (hj0 : w.cell? ⟨g, j * 3, none⟩ = some (.int .i64 y.per)) (hj1 : w.cell? ⟨g, j * 3 + 1, none⟩ = some (.int .i64 y.rk)) (hj2 : w.cell? ⟨g, j * 3 + 2, none⟩ = some (.int .i64 y.id))
    (hf : ∀ o, w.frozen? ⟨g, o, none⟩ = false) :
    Calls Try.prog 80 #[.slice (some ⟨g, 0, none⟩) n c, .int .i64 i, .int .i64 j] w fun e w' => e = .returned (.tuple #[]) ∧ (swapped w g i j x y).drew = w' := by
  unfold maxLen at _hn
  have a1 : (i : Int) < (n : Int) := by omega
  have a2 : (j : Int) < (n : Int) := by omega
  have b1 : ¬ i = j := fun h => hne h.symm
  have c1 : ¬ j * 3 = i * 3 + 1 := by omega
  have c2 : ¬ j * 3 = i * 3 + 2 := by omega
  have c3 : ¬ j * 3 + 1 = i * 3 := by omega
  have c4 : ¬ j * 3 + 1 = i * 3 + 2 := by omega
  have c5 : ¬ j * 3 + 2 = i * 3 := by omega
  have c6 : ¬ j * 3 + 2 = i * 3 + 1 := by omega
  have d1 : ¬ i * 3 = j * 3 + 1 := by omega
  have d2 : ¬ i * 3 = j * 3 + 2 := by omega
  have d3 : ¬ i * 3 + 1 = j * 3 := by omega
  have d4 : ¬ i * 3 + 1 = j * 3 + 2 := by omega
  have d5 : ¬ i * 3 + 2 = j * 3 := by omega
  have d6 : ¬ i * 3 + 2 = j * 3 + 1 := by omega
  go_enter Try.func80, Try.ntmps80
  go_wp2
  go_region
  go_end0
  exact ⟨rfl, rfl⟩

set_option maxHeartbeats 1000000 in
theorem swap_self_walk (g n c i : Nat) (x : Itm) (w : World) (_hn : n ≤ maxLen) (hi : i < n)
    (hi0 : w.cell? ⟨g, i * 3, none⟩ = some (.int .i64 x.per)) (hi1 : w.cell? ⟨g, i * 3 + 1, none⟩ = some (.int .i64 x.rk)) (hi2 : w.cell? ⟨g, i * 3 + 2, none⟩ = some (.int .i64 x.id))
    (hf : ∀ o, w.frozen? ⟨g, o, none⟩ = false) :
    Calls Try.prog 80 #[.slice (some ⟨g, 0, none⟩) n c, .int .i64 i, .int .i64 i] w fun e w' => e = .returned (.tuple #[]) ∧ (swapped w g i i x x).drew = w' := by
  unfold maxLen at _hn
  have a1 : (i : Int) < (n : Int) := by omega
  go_enter Try.func80, Try.ntmps80
  go_wp2
  go_region
  go_end0
  exact ⟨rfl, rfl⟩

theorem less_row (g cap n i j : Nat) (f : Nat → Itm) (w : World) (h : RRow w g cap n f) (hi : i < n) (hj : j < n) :
    Calls Try.prog 79 #[.slice (some ⟨g, 0, none⟩) n cap, .int .i64 i, .int .i64 j] w fun e w' => e = .returned (.bool (itmLt (f i) (f j))) ∧ Below w.heap.size w w' :=
  less_any g n cap i j (f i) (f j) w (by obtain ⟨_, _, a, b, _⟩ := h; omega) hi hj (h.cells hi).1 (h.cells hi).2.1 (h.cells hi).2.2 (h.cells hj).1 (h.cells hj).2.1 (h.cells hj).2.2
theorem swap_row (g cap n i j : Nat) (f : Nat → Itm) (w : World) (h : RRow w g cap n f) (hi : i < n) (hj : j < n) :
    Calls Try.prog 80 #[.slice (some ⟨g, 0, none⟩) n cap, .int .i64 i, .int .i64 j] w fun e w' => e = .returned (.tuple #[]) ∧ RRow w' g cap n (Hp.swap f i j) ∧ w.grownBy w' (some g) := by
  have hn : n ≤ maxLen := by obtain ⟨_, _, a, b, _⟩ := h; omega
  by_cases e : j = i
  · subst e
    refine (swap_self_walk g n cap j (f j) w hn hi (h.cells hi).1 (h.cells hi).2.1 (h.cells hi).2.2 h.warm).mono fun e w' ⟨he, hw⟩ => ⟨he, ?_, ?_⟩
    · rw [← hw]; exact swapped_row h hi hj
    · rw [← hw]; exact swapped_kept
  · refine (swap_walk g n cap i j (f i) (f j) w hn hi hj e (h.cells hi).1 (h.cells hi).2.1 (h.cells hi).2.2 (h.cells hj).1 (h.cells hj).2.1 (h.cells hj).2.2 h.warm).mono fun e w' ⟨he, hw⟩ => ⟨he, ?_, ?_⟩
    · rw [← hw]; exact swapped_row h hi hj
    · rw [← hw]; exact swapped_kept
end Go.Proofs.Ytmgncoialppmpaa

