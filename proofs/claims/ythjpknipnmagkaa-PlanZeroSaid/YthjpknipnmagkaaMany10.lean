/-
  Several texts, one behind the other: what each holds stands ahead of it.
-/
import Derived.Test.YthjpknipnmagkaaMany9
import Derived.Test.YthjpknipnmagkaaQuietTail
import Derived.BigQuiet
import Derived.BigRegion

/-
  Contracts of cmp.Compare, cmp.Or at integers.
-/
namespace Go.Proofs.Ythjpknipnmagkaa
open Go.RowKit Go.Sort

def cmpI (x y : Int) : Int := if x < y then -1 else if y < x then 1 else 0
set_option maxRecDepth 100000 in
set_option maxHeartbeats 400000 in
theorem isNaN_any (x : Int) (w : World) : Calls Try.prog 77 #[.int .i64 x] w fun e w' => e = .returned (.bool false) ∧ w = w' := by
  have t1 : (x != x) = false := by simp
  go_enter Try.func77, Try.ntmps77
  go_wp2_with fail
  go_ret
  exact ⟨rfl, rfl⟩
set_option maxRecDepth 100000 in
set_option maxHeartbeats 400000 in
theorem cmp_any (x y : Int) (w : World) : Calls Try.prog 51 #[.int .i64 x, .int .i64 y] w fun e w' => e = .returned (.int .i64 (cmpI x y)) ∧ w = w' := by
  unfold cmpI
  have k1 := Lib.hid (isNaN_any x)
  have k2 := Lib.hid (isNaN_any y)
  go_enter Try.func51, Try.ntmps51
  by_cases h1 : x < y
  · rw [if_pos h1]
    go_wp2_with fail
    refine (k1.out _).mono ?_
    rintro e w1 ⟨rfl, rfl⟩
    go_wp2_with fail
    refine (k2.out _).mono ?_
    rintro e w1 ⟨rfl, rfl⟩
    go_wp2_with fail
    go_ret
    exact ⟨rfl, rfl⟩
  · rw [if_neg h1]
    by_cases h2 : y < x
    · rw [if_pos h2]
      have h2' : x > y := h2
      go_wp2_with fail
      refine (k1.out _).mono ?_
      rintro e w1 ⟨rfl, rfl⟩
      go_wp2_with fail
      refine (k2.out _).mono ?_
      rintro e w1 ⟨rfl, rfl⟩
      go_wp2_with fail
      go_ret
      exact ⟨rfl, rfl⟩
    · rw [if_neg h2]
      have h2' : ¬ x > y := h2
      go_wp2_with fail
      refine (k1.out _).mono ?_
      rintro e w1 ⟨rfl, rfl⟩
      go_wp2_with fail
      refine (k2.out _).mono ?_
      rintro e w1 ⟨rfl, rfl⟩
      go_wp2_with fail
      go_ret
      exact ⟨rfl, rfl⟩

/-- The first one that is not 0. -/
def orI : List Int → Int
  | [] => 0
  | x :: r => if x = 0 then orI r else x
theorem orI_take : ∀ {l : List Int} {k : Nat} {x : Int}, orI (l.take k) = 0 → l[k]? = some x → (x = 0 → orI (l.take (k + 1)) = 0) ∧ (x ≠ 0 → orI l = x)
  | [], k, x, _, h => by simp at h
  | y :: l, 0, x, _, h => by
    simp at h; subst h
    exact ⟨fun h => by simp [orI, h], fun h => by simp [orI, h]⟩
  | y :: l, k + 1, x, h0, h => by
    rw [List.take_succ_cons, orI] at h0
    by_cases hy : y = 0
    · rw [if_pos hy] at h0
      obtain ⟨h1, h2⟩ := orI_take (l := l) (k := k) h0 (by simpa using h)
      exact ⟨fun hx => by rw [List.take_succ_cons, orI, if_pos hy]; exact h1 hx, fun hx => by rw [orI, if_pos hy]; exact h2 hx⟩
    · rw [if_neg hy] at h0; exact absurd h0 hy
set_option maxRecDepth 100000 in
set_option maxHeartbeats 400000 in
theorem or_any (es : List Int) (A : Option Addr) (n c B : Nat) (w : World) (h : Rd w B 1 A n (ints .i64 es)) (hn : n ≤ 1000) :
    Calls Try.prog 175 #[.slice A n c] w fun e w' => e = .returned (.int .i64 (orI es)) ∧ w = w' := by
  have HL := Lib.hid h.ints_len
  have HR := Lib.hid h
  clear h
  go_enter Try.func175, Try.ntmps175
  go_wp2_with fail
  go_loopw [8, 5] (fun iv _ wr => ∃ k : Nat, k ≤ n ∧ iv = .int .i64 k ∧ Hid (orI (es.take k) = 0) ∧ wr = w) (fun iv _ _ => n - (intOf iv).toNat)
  case atStart => exact ⟨0, Nat.zero_le _, rfl, rfl, rfl⟩
  case round =>
    obtain ⟨k, hk, rfl, hE, rfl⟩ := hrel
    by_cases hlt : k < n
    · have hkn : (k : Int) < (n : Int) := by omega
      obtain ⟨ad, rfl, hb, hc⟩ := HR.out.int hlt
      have hL := HL.out
      obtain ⟨x, hx⟩ : ∃ x, es[k]? = some x := ⟨_, List.getElem?_eq_getElem (by omega)⟩
      rw [hx] at hc
      have HT := Lib.hid (orI_take hE.out hx)
      clear hx hE hL
      by_cases hx0 : x = 0
      · subst hx0
        have ht : ((0 : Int) != 0) = false := rfl
        go_wp2_with fail
        exact ⟨⟨k + 1, by omega, by go_num, HT.out.1 (by first | rfl | trivial), by first | rfl | trivial⟩, by simp [intOf]; omega⟩
      · have ht : (x != 0) = true := by simpa using hx0
        have HX := Lib.hid (HT.out.2 hx0)
        clear hx0
        go_wp2_with fail
        go_ret
        exact ⟨ret_int HX.out.symm, rfl⟩
    · obtain rfl : k = n := by omega
      rw [List.take_of_length_le (by have := HL.out; omega)] at hE
      go_wp2_with fail
      go_ret
      exact ⟨ret_int hE.out.symm, rfl⟩

/-- How two items stand. -/
def ordI (x y : Itm) : Int := orI [cmpI x.per y.per, cmpI y.rk x.rk, cmpI x.id y.id]
theorem ordI_lt (x y : Itm) : decide (ordI x y < 0) = itmLt x y := by
  rw [Bool.eq_iff_iff]
  simp only [ordI, orI, cmpI, itmLt, decide_eq_true_eq]
  by_cases a1 : x.per < y.per
  · simp [a1]
  · by_cases a2 : y.per < x.per
    · simp [a1, a2]; omega
    · by_cases b1 : y.rk < x.rk
      · simp [a1, a2, b1]; omega
      · by_cases b2 : x.rk < y.rk
        · simp [a1, a2, b1, b2]; omega
        · by_cases c1 : x.id < y.id
          · simp [a1, a2, b1, b2, c1]; omega
          · by_cases c2 : y.id < x.id
            · simp [a1, a2, b1, b2, c1, c2]
            · simp [a1, a2, b1, b2, c1, c2]
theorem cells3_regrown {w : World} {b : Nat} {t : TypeId} {x y z : Value} (h : w.heap[b]? = some (.cells #[x, y, z] t (0, 0))) : w.cell? ⟨b, 0, none⟩ = some x ∧ w.cell? ⟨b, 1, none⟩ = some y ∧ w.cell? ⟨b, 2, none⟩ = some z := by
  rw [cell_of h, cell_of h, cell_of h]
  exact ⟨rfl, rfl, rfl⟩
theorem drewN_calls {P : Program} {f : FuncId} {args : Array Value} {v : Value} (h : ∀ w, Calls P f args w fun e w' => e = .returned v ∧ w = w') (w : World) (q : Nat) :
    Calls P f args (w.drewN q) fun e w'' => e = .returned v ∧ ∃ m, w'' = w.drewN m :=
  (h _).mono fun _ _ ⟨he, hw⟩ => ⟨he, q, hw.symm⟩
end Go.Proofs.Ythjpknipnmagkaa

/-
  Contract of agenda's order.
-/
namespace Go.Proofs.Ythjpknipnmagkaa
open Go.RowKit Go.Sort

theorem grow_two (w : World) (a b : Obj) (q : Nat) (os : Array Obj) : ∃ q' os', grow (((w.alloc a).alloc b).drewN q) os = grow (w.drewN q') os' := by
  refine ⟨q, #[a] ++ #[b] ++ os, ?_⟩
  rw [show ((w.alloc a).alloc b).drewN q = ((w.drewN q).alloc a).alloc b from rfl, alloc_eq_grow, alloc_eq_grow, grow_grow, grow_grow, Array.append_assoc]
theorem rd_three (w : World) (a b c : Int) : Rd (w.alloc (.cells #[.int .i64 a, .int .i64 b, .int .i64 c] 3)) (w.heap.size + 1) 1 (some ⟨w.heap.size, 0, none⟩) 3 (ints .i64 [a, b, c]) :=
  ⟨rfl, fun _ => ⟨_, rfl, by simp, cells_new w (ints .i64 [a, b, c]) 3⟩⟩
set_option maxRecDepth 100000 in
set_option maxHeartbeats 2000000 in
theorem order_any (x y : Itm) (w : World) : Calls Try.prog 174 #[.agg #[.int .i64 x.per, .int .i64 x.rk, .int .i64 x.id], .agg #[.int .i64 y.per, .int .i64 y.rk, .int .i64 y.id]] w fun e w' => e = .returned (.int .i64 (ordI x y)) ∧ ∃ q os, w' = grow (w.drewN q) os := by
  obtain ⟨W1, hW1⟩ : ∃ W1, (w.alloc (.cells #[.int .i64 x.per, .int .i64 x.rk, .int .i64 x.id] 86)).alloc (.cells #[.int .i64 y.per, .int .i64 y.rk, .int .i64 y.id] 86) = W1 := ⟨_, rfl⟩
  have hx : W1.heap[w.heap.size]? = some (.cells #[.int .i64 x.per, .int .i64 x.rk, .int .i64 x.id] 86 (0, 0)) := by
    rw [← hW1, Below.heap_alloc _ _ _ (by simp)]; exact heap_new w _
  have hy : W1.heap[w.heap.size + 1]? = some (.cells #[.int .i64 y.per, .int .i64 y.rk, .int .i64 y.id] 86 (0, 0)) := by
    rw [← hW1]
    have := heap_new (w.alloc (.cells #[.int .i64 x.per, .int .i64 x.rk, .int .i64 x.id] 86)) (.cells #[.int .i64 y.per, .int .i64 y.rk, .int .i64 y.id] 86)
    simpa using this
  obtain ⟨x0, x1, x2⟩ := cells3_regrown hx
  obtain ⟨y0, y1, y2⟩ := cells3_regrown hy
  have HG : Hid (∀ q os, ∃ q' os', grow (W1.drewN q) os = grow (w.drewN q') os') := fun q os => by rw [← hW1]; exact grow_two w _ _ q os
  have HW := Lib.hid hW1
  have K1 := Lib.hid (drewN_calls (cmp_any x.per y.per) W1)
  have K2 := Lib.hid (drewN_calls (cmp_any y.rk x.rk) W1)
  have K3 := Lib.hid (drewN_calls (cmp_any x.id y.id) W1)
  have KO := Lib.hid (or_any [cmpI x.per y.per, cmpI y.rk x.rk, cmpI x.id y.id])
  clear hW1 hx hy
  unfold ordI
  go_enter Try.func174, Try.ntmps174
  go_wp2_with fail
  rw [HW.out]
  go_wp2_with fail
  refine wp_region_drew_tail 15 (by kernel_rfl) (by kernel_rfl) ?_
  simp only [List.take_succ_cons, List.take_zero, List.drop_succ_cons, List.drop_zero]
  repeat (quiet_step (fail))
  quiet_step (exact K1.out _)
  repeat (quiet_step (fail))
  quiet_step (exact K2.out _)
  repeat (quiet_step (fail))
  quiet_step (exact K3.out _)
  repeat (quiet_step (fail))
  refine wpQuiet_nil ?_
  rintro w' ⟨q, rfl⟩
  go_wp2_with fail
  trace_state
  refine (KO.out _ 3 3 _ _ (rd_three (W1.drewN q) _ _ _) (by omega)).mono ?_
  rintro e w2 ⟨rfl, rfl⟩
  go_wp2_with fail
  trace_state
  go_ret
  refine ⟨rfl, ?_⟩
  rw [alloc_eq_grow]
  exact HG.out q _
end Go.Proofs.Ythjpknipnmagkaa

/-
  Contracts of the methods of agenda's queue.
-/
namespace Go.Proofs.Ythjpknipnmagkaa
open Go.RowKit Go.Sort

theorem grown_of_below {w w' : World} {o : Option Nat} (h : Below w.heap.size w w') : w.grownBy w' o := ⟨h.os, h.tape, h.output, h.size, fun k hk _ => h.block k hk⟩
theorem below_grow {w : World} {q : Nat} {os : Array Obj} : Below w.heap.size w (grow (w.drewN q) os) :=
  below_regrown w (w.drawn + q) os
set_option maxHeartbeats 400000 in
theorem lenI_any (A : Option Addr) (n c : Nat) (w : World) (_hn : n ≤ maxLen) :
    Calls Try.prog 171 #[.slice A n c] w fun e w' => e = .returned (.int .i64 n) ∧ w = w' := by
  unfold maxLen at _hn
  go_enter Try.func171, Try.ntmps171
  go_wp2
  go_ret
  exact ⟨rfl, rfl⟩

set_option maxRecDepth 100000 in
set_option maxHeartbeats 2000000 in
theorem less_any (g n c i j : Nat) (x y : Itm) (w : World) (_hn : n ≤ maxLen) (hi : i < n) (hj : j < n)
    (hi0 : w.cell? ⟨g, i * 3, none⟩ = some (.int .i64 x.per)) (hi1 : w.cell? ⟨g, i * 3 + 1, none⟩ = some (.int .i64 x.rk)) (hi2 : w.cell? ⟨g, i * 3 + 2, none⟩ = some (.int .i64 x.id))
    (hj0 : w.cell? ⟨g, j * 3, none⟩ = some (.int .i64 y.per)) (hj1 : w.cell? ⟨g, j * 3 + 1, none⟩ = some (.int .i64 y.rk)) (hj2 : w.cell? ⟨g, j * 3 + 2, none⟩ = some (.int .i64 y.id)) :
    Calls Try.prog 172 #[.slice (some ⟨g, 0, none⟩) n c, .int .i64 i, .int .i64 j] w fun e w' => e = .returned (.bool (itmLt x y)) ∧ Below w.heap.size w w' := by
  unfold maxLen at _hn
  have a1 : (i : Int) < (n : Int) := by omega
  have a2 : (j : Int) < (n : Int) := by omega
  replace hi0 := cell_regrown hi0; replace hi1 := cell_regrown hi1; replace hi2 := cell_regrown hi2
  replace hj0 := cell_regrown hj0; replace hj1 := cell_regrown hj1; replace hj2 := cell_regrown hj2
  have HE := Lib.hid (ordI_lt x y)
  have Q1 := Lib.hid (regrown_calls (w := w) fun w1 _ => (order_any x y w1).mono fun e w' h => ⟨h.1, by obtain ⟨_, q, os, rfl⟩ := h; exact below_grow⟩)
  generalize ordI x y = z at *
  generalize itmLt x y = b at *
  go_enter Try.func172, Try.ntmps172
  go_wp2_with fail
  refine wp_region_quiet_below (by kernel_rfl) (by kernel_rfl) ?_
  repeat (quiet_step (fail))
  quiet_step (exact Q1.out _ _)
  repeat (quiet_step (fail))
  refine wpQuiet_nil ?_
  intro _ hw'
  obtain ⟨⟨dq, osq⟩, hw''⟩ := hw'
  subst hw''
  go_wp2_with fail
  go_ret
  exact ⟨ret_bool HE.out, below_regrown w dq osq⟩

set_option maxHeartbeats 1000000 in
theorem swap_walk (g n c i j : Nat) (x y : Itm) (w : World) (_hn : n ≤ maxLen) (hi : i < n) (hj : j < n) (hne : ¬ j = i)
    (hi0 : w.cell? ⟨g, i * 3, none⟩ = some (.int .i64 x.per)) (hi1 : w.cell? ⟨g, i * 3 + 1, none⟩ = some (.int .i64 x.rk)) (hi2 : w.cell? ⟨g, i * 3 + 2, none⟩ = some (.int .i64 x.id))
    (hj0 : w.cell? ⟨g, j * 3, none⟩ = some (.int .i64 y.per)) (hj1 : w.cell? ⟨g, j * 3 + 1, none⟩ = some (.int .i64 y.rk)) (hj2 : w.cell? ⟨g, j * 3 + 2, none⟩ = some (.int .i64 y.id))
    (hf : ∀ o, w.frozen? ⟨g, o, none⟩ = false) :
    Calls Try.prog 173 #[.slice (some ⟨g, 0, none⟩) n c, .int .i64 i, .int .i64 j] w fun e w' => e = .returned (.tuple #[]) ∧ (swapped w g i j x y).drew = w' := by
  unfold maxLen at _hn
  have a1 : (i : Int) < (n : Int) := by omega
  have a2 : (j : Int) < (n : Int) := by omega
  have b1 : ¬ i = j := fun h => hne h.symm
  have c1 : ¬ j * 3 = i * 3 + 1 := by omega
  have c2 : ¬ j * 3 = i * 3 + 2 := by omega
  have c3 : ¬ j * 3 + 1 = i * 3 := by omega
  have c4 : ¬ j * 3 + 1 = i * 3 + 2 := by omega
  have c5 : ¬ j * 3 + 2 = i * 3 := by omega
  have c6 : ¬ j * 3 + 2 = i * 3 + 1 := by omega
  have d1 : ¬ i * 3 = j * 3 + 1 := by omega
  have d2 : ¬ i * 3 = j * 3 + 2 := by omega
  have d3 : ¬ i * 3 + 1 = j * 3 := by omega
  have d4 : ¬ i * 3 + 1 = j * 3 + 2 := by omega
  have d5 : ¬ i * 3 + 2 = j * 3 := by omega
  have d6 : ¬ i * 3 + 2 = j * 3 + 1 := by omega
  go_enter Try.func173, Try.ntmps173
  go_wp2
  go_region
  go_end0
  exact ⟨rfl, rfl⟩

set_option maxHeartbeats 1000000 in
theorem swap_self_walk (g n c i : Nat) (x : Itm) (w : World) (_hn : n ≤ maxLen) (hi : i < n)
    (hi0 : w.cell? ⟨g, i * 3, none⟩ = some (.int .i64 x.per)) (hi1 : w.cell? ⟨g, i * 3 + 1, none⟩ = some (.int .i64 x.rk)) (hi2 : w.cell? ⟨g, i * 3 + 2, none⟩ = some (.int .i64 x.id))
    (hf : ∀ o, w.frozen? ⟨g, o, none⟩ = false) :
    Calls Try.prog 173 #[.slice (some ⟨g, 0, none⟩) n c, .int .i64 i, .int .i64 i] w fun e w' => e = .returned (.tuple #[]) ∧ (swapped w g i i x x).drew = w' := by
  unfold maxLen at _hn
  have a1 : (i : Int) < (n : Int) := by omega
  go_enter Try.func173, Try.ntmps173
  go_wp2
  go_region
  go_end0
  exact ⟨rfl, rfl⟩

theorem less_row (g cap n i j : Nat) (f : Nat → Itm) (w : World) (h : RRow w g cap n f) (hi : i < n) (hj : j < n) :
    Calls Try.prog 172 #[.slice (some ⟨g, 0, none⟩) n cap, .int .i64 i, .int .i64 j] w fun e w' => e = .returned (.bool (itmLt (f i) (f j))) ∧ Below w.heap.size w w' :=
  less_any g n cap i j (f i) (f j) w (by obtain ⟨_, _, a, b, _⟩ := h; omega) hi hj (h.cells hi).1 (h.cells hi).2.1 (h.cells hi).2.2 (h.cells hj).1 (h.cells hj).2.1 (h.cells hj).2.2
theorem swap_row (g cap n i j : Nat) (f : Nat → Itm) (w : World) (h : RRow w g cap n f) (hi : i < n) (hj : j < n) :
    Calls Try.prog 173 #[.slice (some ⟨g, 0, none⟩) n cap, .int .i64 i, .int .i64 j] w fun e w' => e = .returned (.tuple #[]) ∧ RRow w' g cap n (Hp.swap f i j) ∧ w.grownBy w' (some g) := by
  have hn : n ≤ maxLen := by obtain ⟨_, _, a, b, _⟩ := h; omega
  by_cases e : j = i
  · subst e
    refine (swap_self_walk g n cap j (f j) w hn hi (h.cells hi).1 (h.cells hi).2.1 (h.cells hi).2.2 h.warm).mono fun e w' ⟨he, hw⟩ => ⟨he, ?_, ?_⟩
    · rw [← hw]; exact swapped_row h hi hj
    · rw [← hw]; exact swapped_kept
  · refine (swap_walk g n cap i j (f i) (f j) w hn hi hj e (h.cells hi).1 (h.cells hi).2.1 (h.cells hi).2.2 (h.cells hj).1 (h.cells hj).2.1 (h.cells hj).2.2 h.warm).mono fun e w' ⟨he, hw⟩ => ⟨he, ?_, ?_⟩
    · rw [← hw]; exact swapped_row h hi hj
    · rw [← hw]; exact swapped_kept
end Go.Proofs.Ythjpknipnmagkaa
