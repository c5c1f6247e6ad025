/-
  Contract of the statements' Small, at one journal.
-/
import Derived.Test.YtakjiehncoankaaDoorEntryAlive
namespace Go.Proofs.YtakjiehncoankaaDoor
open Go.RowKit Go.Sort

def smallB (j : Jrn) (n : Nat) : Bool := decide (j.ref.size ≤ 60) && decide (n ≤ 30)
set_option maxRecDepth 100000 in
set_option maxHeartbeats 1000000 in
theorem small_one (j : Jrn) (A : Option Addr) (n c b : Nat) (w : World) (h : JAt w b j A n c) :
    Calls Tryd.prog 5 #[.slice (some ⟨b, 0, none⟩) 1 1] w fun e w' => e = .returned (.bool (smallB j n)) ∧ w = w' := by
  obtain ⟨_, _, _, c3, c4, _⟩ := six_cells h
  have HS : Hid (smallB j n = (decide (j.ref.size ≤ 60) && decide (n ≤ 30))) := rfl
  rw [HS.out]
  generalize j.ref = ref at *
  clear h HS
  by_cases h1 : 60 < ref.size
  · rw [show decide (ref.size ≤ 60) = false by simp; omega, Bool.false_and]
    go_enter Tryd.func5, Tryd.ntmps5
    go_wp2_with fail
    refine wp_loop_rounds 2 ?_
    rw [rounds_succ]
    go_wp2_with fail
    go_ret
    exact ⟨rfl, rfl⟩
  by_cases h2 : 30 < n
  · rw [show decide (n ≤ 30) = false by simp; omega, Bool.and_false]
    go_enter Tryd.func5, Tryd.ntmps5
    go_wp2_with fail
    refine wp_loop_rounds 2 ?_
    rw [rounds_succ]
    go_wp2_with fail
    go_ret
    exact ⟨rfl, rfl⟩
  · rw [show decide (n ≤ 30) = true by simp; omega, show decide (ref.size ≤ 60) = true by simp; omega]
    go_enter Tryd.func5, Tryd.ntmps5
    go_wp2_with fail
    refine wp_loop_rounds 2 ?_
    rw [rounds_succ]
    go_wp2_with fail
    rw [rounds_succ]
    go_wp2_with fail
    go_ret
    exact ⟨rfl, rfl⟩
/-- Small at the call's own block. -/
theorem small_two (j : Jrn) (A : Option Addr) (n c : Nat) (w : World) (o : Obj) (T : TypeId) (hT : T = 24) :
    Calls Tryd.prog 5 #[.slice (some ⟨w.heap.size + 1, 0, none⟩) 1 1] ((w.alloc o).alloc (.cells #[.int .i64 j.id, .int .i64 j.ent, .int .i64 j.per, .string j.ref, .slice A n c, .bool j.void] T)) fun e w' => e = .returned (.bool (smallB j n)) ∧ (w.alloc o).alloc (.cells #[.int .i64 j.id, .int .i64 j.ent, .int .i64 j.per, .string j.ref, .slice A n c, .bool j.void] T) = w' := by
  subst hT
  refine small_one j A n c (w.heap.size + 1) _ ?_
  have := heap_new (w.alloc o) (.cells #[.int .i64 j.id, .int .i64 j.ent, .int .i64 j.per, .string j.ref, .slice A n c, .bool j.void] 24)
  rw [show (w.alloc o).heap.size = w.heap.size + 1 by simp] at this
  exact this
end Go.Proofs.YtakjiehncoankaaDoor
