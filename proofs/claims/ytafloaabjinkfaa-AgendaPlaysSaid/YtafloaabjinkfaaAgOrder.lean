/-
  Contract of agenda's order.
-/
import Derived.Test.YtafloaabjinkfaaAgCmp
namespace Go.Proofs.Ytafloaabjinkfaa
open Go.RowKit Go.Sort

theorem grow_two (w : World) (a b : Obj) (q : Nat) (os : Array Obj) : ∃ q' os', grow (((w.alloc a).alloc b).drewN q) os = grow (w.drewN q') os' := by
  refine ⟨q, #[a] ++ #[b] ++ os, ?_⟩
  rw [show ((w.alloc a).alloc b).drewN q = ((w.drewN q).alloc a).alloc b from rfl, alloc_eq_grow, alloc_eq_grow, grow_grow, grow_grow, Array.append_assoc]
theorem rd_three (w : World) (a b c : Int) : Rd (w.alloc (.cells #[.int .i64 a, .int .i64 b, .int .i64 c] 3)) (w.heap.size + 1) 1 (some ⟨w.heap.size, 0, none⟩) 3 (ints .i64 [a, b, c]) :=
  ⟨rfl, fun _ => ⟨_, rfl, by simp, cells_new w (ints .i64 [a, b, c]) 3⟩⟩
set_option maxRecDepth 100000 in
set_option maxHeartbeats 2000000 in
theorem order_any (x y : Itm) (w : World) : Calls Try.prog 23 #[.agg #[.int .i64 x.per, .int .i64 x.rk, .int .i64 x.id], .agg #[.int .i64 y.per, .int .i64 y.rk, .int .i64 y.id]] w fun e w' => e = .returned (.int .i64 (ordI x y)) ∧ ∃ q os, w' = grow (w.drewN q) os := by
  obtain ⟨W1, hW1⟩ : ∃ W1, (w.alloc (.cells #[.int .i64 x.per, .int .i64 x.rk, .int .i64 x.id] 33)).alloc (.cells #[.int .i64 y.per, .int .i64 y.rk, .int .i64 y.id] 33) = W1 := ⟨_, rfl⟩
  have hx : W1.heap[w.heap.size]? = some (.cells #[.int .i64 x.per, .int .i64 x.rk, .int .i64 x.id] 33 (0, 0)) := by
    rw [← hW1, Below.heap_alloc _ _ _ (by simp)]; exact heap_new w _
  have hy : W1.heap[w.heap.size + 1]? = some (.cells #[.int .i64 y.per, .int .i64 y.rk, .int .i64 y.id] 33 (0, 0)) := by
    rw [← hW1]
    have := heap_new (w.alloc (.cells #[.int .i64 x.per, .int .i64 x.rk, .int .i64 x.id] 33)) (.cells #[.int .i64 y.per, .int .i64 y.rk, .int .i64 y.id] 33)
    simpa using this
  obtain ⟨x0, x1, x2⟩ := cells3_regrown hx
  obtain ⟨y0, y1, y2⟩ := cells3_regrown hy
  have HG : Hid (∀ q os, ∃ q' os', grow (W1.drewN q) os = grow (w.drewN q') os') := fun q os => by rw [← hW1]; exact grow_two w _ _ q os
  have HW := Lib.hid hW1
  have K1 := Lib.hid (drewN_calls (cmp_any x.per y.per) W1)
  have K2 := Lib.hid (drewN_calls (cmp_any y.rk x.rk) W1)
  have K3 := Lib.hid (drewN_calls (cmp_any x.id y.id) W1)
  have KO := Lib.hid (or_any [cmpI x.per y.per, cmpI y.rk x.rk, cmpI x.id y.id])
  clear hW1 hx hy
  unfold ordI
  go_enter Try.func23, Try.ntmps23
  go_wp2_with fail
  rw [HW.out]
  go_wp2_with fail
  refine wp_region_drew_tail 15 (by kernel_rfl) (by kernel_rfl) ?_
  simp only [List.take_succ_cons, List.take_zero, List.drop_succ_cons, List.drop_zero]
  repeat (quiet_step (fail))
  quiet_step (exact K1.out _)
  repeat (quiet_step (fail))
  quiet_step (exact K2.out _)
  repeat (quiet_step (fail))
  quiet_step (exact K3.out _)
  repeat (quiet_step (fail))
  refine wpQuiet_nil ?_
  rintro w' ⟨q, rfl⟩
  go_wp2_with fail
  trace_state
  refine (KO.out _ 3 3 _ _ (rd_three (W1.drewN q) _ _ _) (by omega)).mono ?_
  rintro e w2 ⟨rfl, rfl⟩
  go_wp2_with fail
  trace_state
  go_ret
  refine ⟨rfl, ?_⟩
  rw [alloc_eq_grow]
  exact HG.out q _
end Go.Proofs.Ytafloaabjinkfaa
