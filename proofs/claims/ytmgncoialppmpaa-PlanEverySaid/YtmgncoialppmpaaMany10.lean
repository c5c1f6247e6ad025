/-
  Several texts, one behind the other: what each holds stands ahead of it.
-/
import Derived.Test.YtmgncoialppmpaaMany9
import Derived.Test.YtmgncoialppmpaaQuietTail
import Derived.BigQuiet
import Derived.BigRegion

/-
  Contracts of cmp.Compare, cmp.Or at integers.
-/
namespace Go.Proofs.Ytmgncoialppmpaa
open Go.RowKit Go.Sort

def cmpI (x y : Int) : Int := if x < y then -1 else if y < x then 1 else 0
set_option maxRecDepth 100000 in
set_option maxHeartbeats 400000 in
theorem isNaN_any (x : Int) (w : World) : Calls Try.prog 84 #[.int .i64 x] w fun e w' => e = .returned (.bool false) ∧ w = w' := by
  have t1 : (x != x) = false := by simp
  go_enter Try.func84, Try.ntmps84
  go_wp2_with fail
  go_ret
  exact ⟨rfl, rfl⟩
set_option maxRecDepth 100000 in
set_option maxHeartbeats 400000 in
theorem cmp_any (x y : Int) (w : World) : Calls Try.prog 83 #[.int .i64 x, .int .i64 y] w fun e w' => e = .returned (.int .i64 (cmpI x y)) ∧ w = w' := by
  unfold cmpI
  have k1 := Lib.hid (isNaN_any x)
  have k2 := Lib.hid (isNaN_any y)
  go_enter Try.func83, Try.ntmps83
  by_cases h1 : x < y
  · rw [if_pos h1]
    go_wp2_with fail
    refine (k1.out _).mono ?_
    rintro e w1 ⟨rfl, rfl⟩
    go_wp2_with fail
    refine (k2.out _).mono ?_
    rintro e w1 ⟨rfl, rfl⟩
    go_wp2_with fail
    go_ret
    exact ⟨rfl, rfl⟩
  · rw [if_neg h1]
    by_cases h2 : y < x
    · rw [if_pos h2]
      have h2' : x > y := h2
      go_wp2_with fail
      refine (k1.out _).mono ?_
      rintro e w1 ⟨rfl, rfl⟩
      go_wp2_with fail
      refine (k2.out _).mono ?_
      rintro e w1 ⟨rfl, rfl⟩
      go_wp2_with fail
      go_ret
      exact ⟨rfl, rfl⟩
    · rw [if_neg h2]
      have h2' : ¬ x > y := h2
      go_wp2_with fail
      refine (k1.out _).mono ?_
      rintro e w1 ⟨rfl, rfl⟩
      go_wp2_with fail
      refine (k2.out _).mono ?_
      rintro e w1 ⟨rfl, rfl⟩
      go_wp2_with fail
      go_ret
      exact ⟨rfl, rfl⟩

/-- The first one that is not 0. -/
def orI : List Int → Int
  | [] => 0
  | x :: r => if x = 0 then orI r else x
theorem orI_take : ∀ {l : List Int} {k : Nat} {x : Int}, orI (l.take k) = 0 → l[k]? = some x → (x = 0 → orI (l.take (k + 1)) = 0) ∧ (x ≠ 0 → orI l = x)
  | [], k, x, _, h => by simp at h
  | y :: l, 0, x, _, h => by
    simp at h; subst h
    exact ⟨fun h => by simp [orI, h], fun h => by simp [orI, h]⟩
  | y :: l, k + 1, x, h0, h => by
    rw [List.take_succ_cons, orI] at h0
    by_cases hy : y = 0
    · rw [if_pos hy] at h0
      obtain ⟨h1, h2⟩ := orI_take (l := l) (k := k) h0 (by simpa using h)
      exact ⟨fun hx => by rw [List.take_succ_cons, orI, if_pos hy]; exact h1 hx, fun hx => by rw [orI, if_pos hy]; exact h2 hx⟩
    · rw [if_neg hy] at h0; exact absurd h0 hy
set_option maxRecDepth 100000 in
set_option maxHeartbeats 400000 in
theorem or_any (es : List Int) (A : Option Addr) (n c B : Nat) (w : World) (h : Rd w B 1 A n (ints .i64 es)) (hn : n ≤ 1000) :
    Calls Try.prog 82 #[.slice A n c] w fun e w' => e = .returned (.int .i64 (orI es)) ∧ w = w' := by
  have HL := Lib.hid h.ints_len
  have HR := Lib.hid h
  clear h
  go_enter Try.func82, Try.ntmps82
  go_wp2_with fail
  go_loopw [8, 5] (fun iv _ wr => ∃ k : Nat, k ≤ n ∧ iv = .int .i64 k ∧ Hid (orI (es.take k) = 0) ∧ wr = w) (fun iv _ _ => n - (intOf iv).toNat)
  case atStart => exact ⟨0, Nat.zero_le _, rfl, rfl, rfl⟩
  case round =>
    obtain ⟨k, hk, rfl, hE, rfl⟩ := hrel
    by_cases hlt : k < n
    · have hkn : (k : Int) < (n : Int) := by omega
      obtain ⟨ad, rfl, hb, hc⟩ := HR.out.int hlt
      have hL := HL.out
      obtain ⟨x, hx⟩ : ∃ x, es[k]? = some x := ⟨_, List.getElem?_eq_getElem (by omega)⟩
      rw [hx] at hc
      have HT := Lib.hid (orI_take hE.out hx)
      clear hx hE hL
      by_cases hx0 : x = 0
      · subst hx0
        have ht : ((0 : Int) != 0) = false := rfl
        go_wp2_with fail
        exact ⟨⟨k + 1, by omega, by go_num, HT.out.1 (by first | rfl | trivial), by first | rfl | trivial⟩, by simp [intOf]; omega⟩
      · have ht : (x != 0) = true := by simpa using hx0
        have HX := Lib.hid (HT.out.2 hx0)
        clear hx0
        go_wp2_with fail
        go_ret
        exact ⟨ret_int HX.out.symm, rfl⟩
    · obtain rfl : k = n := by omega
      rw [List.take_of_length_le (by have := HL.out; omega)] at hE
      go_wp2_with fail
      go_ret
      exact ⟨ret_int hE.out.symm, rfl⟩

/-- How two items stand. -/
def ordI (x y : Itm) : Int := orI [cmpI x.per y.per, cmpI y.rk x.rk, cmpI x.id y.id]
theorem ordI_lt (x y : Itm) : decide (ordI x y < 0) = itmLt x y := by
  rw [Bool.eq_iff_iff]
  simp only [ordI, orI, cmpI, itmLt, decide_eq_true_eq]
  by_cases a1 : x.per < y.per
  · simp [a1]
  · by_cases a2 : y.per < x.per
    · simp [a1, a2]; omega
    · by_cases b1 : y.rk < x.rk
      · simp [a1, a2, b1]; omega
      · by_cases b2 : x.rk < y.rk
        · simp [a1, a2, b1, b2]; omega
        · by_cases c1 : x.id < y.id
          · simp [a1, a2, b1, b2, c1]; omega
          · by_cases c2 : y.id < x.id
            · simp [a1, a2, b1, b2, c1, c2]
            · simp [a1, a2, b1, b2, c1, c2]
theorem cells3_regrown {w : World} {b : Nat} {t : TypeId} {x y z : Value} (h : w.heap[b]? = some (.cells #[x, y, z] t (0, 0))) : w.cell? ⟨b, 0, none⟩ = some x ∧ w.cell? ⟨b, 1, none⟩ = some y ∧ w.cell? ⟨b, 2, none⟩ = some z := by
  rw [cell_of h, cell_of h, cell_of h]
  exact ⟨rfl, rfl, rfl⟩
theorem drewN_calls {P : Program} {f : FuncId} {args : Array Value} {v : Value} (h : ∀ w, Calls P f args w fun e w' => e = .returned v ∧ w = w') (w : World) (q : Nat) :
    Calls P f args (w.drewN q) fun e w'' => e = .returned v ∧ ∃ m, w'' = w.drewN m :=
  (h _).mono fun _ _ ⟨he, hw⟩ => ⟨he, q, hw.symm⟩
end Go.Proofs.Ytmgncoialppmpaa

/-
  Contract of agenda's order.
-/
namespace Go.Proofs.Ytmgncoialppmpaa
open Go.RowKit Go.Sort

theorem grow_two (w : World) (a b : Obj) (q : Nat) (os : Array Obj) : ∃ q' os', grow (((w.alloc a).alloc b).drewN q) os = grow (w.drewN q') os' := by
  refine ⟨q, #[a] ++ #[b] ++ os, ?_⟩
  rw [show ((w.alloc a).alloc b).drewN q = ((w.drewN q).alloc a).alloc b from rfl, alloc_eq_grow, alloc_eq_grow, grow_grow, grow_grow, Array.append_assoc]
theorem rd_three (w : World) (a b c : Int) : Rd (w.alloc (.cells #[.int .i64 a, .int .i64 b, .int .i64 c] 3)) (w.heap.size + 1) 1 (some ⟨w.heap.size, 0, none⟩) 3 (ints .i64 [a, b, c]) :=
  ⟨rfl, fun _ => ⟨_, rfl, by simp, cells_new w (ints .i64 [a, b, c]) 3⟩⟩
set_option maxRecDepth 100000 in
set_option maxHeartbeats 2000000 in
theorem order_any (x y : Itm) (w : World) : Calls Try.prog 81 #[.agg #[.int .i64 x.per, .int .i64 x.rk, .int .i64 x.id], .agg #[.int .i64 y.per, .int .i64 y.rk, .int .i64 y.id]] w fun e w' => e = .returned (.int .i64 (ordI x y)) ∧ ∃ q os, w' = grow (w.drewN q) os := by
  obtain ⟨W1, hW1⟩ : ∃ W1, (w.alloc (.cells #[.int .i64 x.per, .int .i64 x.rk, .int .i64 x.id] 62)).alloc (.cells #[.int .i64 y.per, .int .i64 y.rk, .int .i64 y.id] 62) = W1 := ⟨_, rfl⟩
  have hx : W1.heap[w.heap.size]? = some (.cells #[.int .i64 x.per, .int .i64 x.rk, .int .i64 x.id] 62 (0, 0)) := by
    rw [← hW1, Below.heap_alloc _ _ _ (by simp)]; exact heap_new w _
  have hy : W1.heap[w.heap.size + 1]? = some (.cells #[.int .i64 y.per, .int .i64 y.rk, .int .i64 y.id] 62 (0, 0)) := by
    rw [← hW1]
    have := heap_new (w.alloc (.cells #[.int .i64 x.per, .int .i64 x.rk, .int .i64 x.id] 62)) (.cells #[.int .i64 y.per, .int .i64 y.rk, .int .i64 y.id] 62)
    simpa using this
  obtain ⟨x0, x1, x2⟩ := cells3_regrown hx
  obtain ⟨y0, y1, y2⟩ := cells3_regrown hy
  have HG : Hid (∀ q os, ∃ q' os', grow (W1.drewN q) os = grow (w.drewN q') os') := fun q os => by rw [← hW1]; exact grow_two w _ _ q os
  have HW := Lib.hid hW1
  have K1 := Lib.hid (drewN_calls (cmp_any x.per y.per) W1)
  have K2 := Lib.hid (drewN_calls (cmp_any y.rk x.rk) W1)
  have K3 := Lib.hid (drewN_calls (cmp_any x.id y.id) W1)
  have KO := Lib.hid (or_any [cmpI x.per y.per, cmpI y.rk x.rk, cmpI x.id y.id])
  clear hW1 hx hy
  unfold ordI
  go_enter Try.func81, Try.ntmps81
  go_wp2_with fail
  rw [HW.out]
  go_wp2_with fail
  refine wp_region_drew_tail 15 (by kernel_rfl) (by kernel_rfl) ?_
  simp only [List.take_succ_cons, List.take_zero, List.drop_succ_cons, List.drop_zero]
  repeat (quiet_step (fail))
  quiet_step (exact K1.out _)
  repeat (quiet_step (fail))
  quiet_step (exact K2.out _)
  repeat (quiet_step (fail))
  quiet_step (exact K3.out _)
  repeat (quiet_step (fail))
  refine wpQuiet_nil ?_
  rintro w' ⟨q, rfl⟩
  go_wp2_with fail
  trace_state
  refine (KO.out _ 3 3 _ _ (rd_three (W1.drewN q) _ _ _) (by omega)).mono ?_
  rintro e w2 ⟨rfl, rfl⟩
  go_wp2_with fail
  trace_state
  go_ret
  refine ⟨rfl, ?_⟩
  rw [alloc_eq_grow]
  exact HG.out q _
end Go.Proofs.Ytmgncoialppmpaa
