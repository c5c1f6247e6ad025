/-
  Several texts, one behind the other: what each holds stands ahead of it.
-/
import Derived.Test.YtjlokkjbdgcooaaGreatMany11
import Derived.BigQuiet
import Derived.BigRegion

/-
  Contracts of cmp.Compare, cmp.Or at integers.
-/
namespace Go.Proofs.YtjlokkjbdgcooaaGreat
open Go.RowKit Go.Sort

def cmpIA (x y : Int) : Int := if x < y then -1 else if y < x then 1 else 0
set_option maxRecDepth 100000 in
set_option maxHeartbeats 400000 in
theorem isNaN_anyA (x : Int) (w : World) : Calls Tryz.prog 199 #[.int .i64 x] w fun e w' => e = .returned (.bool false) ∧ w = w' := by
  have t1 : (x != x) = false := by simp
  go_enter Tryz.func199, Tryz.ntmps199
  go_wp2_with fail
  go_ret
  exact ⟨rfl, rfl⟩
set_option maxRecDepth 100000 in
set_option maxHeartbeats 400000 in
theorem cmp_any (x y : Int) (w : World) : Calls Tryz.prog 162 #[.int .i64 x, .int .i64 y] w fun e w' => e = .returned (.int .i64 (cmpIA x y)) ∧ w = w' := by
  unfold cmpIA
  have k1 := Lib.hid (isNaN_anyA x)
  have k2 := Lib.hid (isNaN_anyA y)
  go_enter Tryz.func162, Tryz.ntmps162
  by_cases h1 : x < y
  · rw [if_pos h1]
    go_wp2_with fail
    refine (k1.out _).mono ?_
    rintro e w1 ⟨rfl, rfl⟩
    go_wp2_with fail
    refine (k2.out _).mono ?_
    rintro e w1 ⟨rfl, rfl⟩
    go_wp2_with fail
    go_ret
    exact ⟨rfl, rfl⟩
  · rw [if_neg h1]
    by_cases h2 : y < x
    · rw [if_pos h2]
      have h2' : x > y := h2
      go_wp2_with fail
      refine (k1.out _).mono ?_
      rintro e w1 ⟨rfl, rfl⟩
      go_wp2_with fail
      refine (k2.out _).mono ?_
      rintro e w1 ⟨rfl, rfl⟩
      go_wp2_with fail
      go_ret
      exact ⟨rfl, rfl⟩
    · rw [if_neg h2]
      have h2' : ¬ x > y := h2
      go_wp2_with fail
      refine (k1.out _).mono ?_
      rintro e w1 ⟨rfl, rfl⟩
      go_wp2_with fail
      refine (k2.out _).mono ?_
      rintro e w1 ⟨rfl, rfl⟩
      go_wp2_with fail
      go_ret
      exact ⟨rfl, rfl⟩

/-- The first one that is not 0. -/
def orI : List Int → Int
  | [] => 0
  | x :: r => if x = 0 then orI r else x
theorem orI_take : ∀ {l : List Int} {k : Nat} {x : Int}, orI (l.take k) = 0 → l[k]? = some x → (x = 0 → orI (l.take (k + 1)) = 0) ∧ (x ≠ 0 → orI l = x)
  | [], k, x, _, h => by simp at h
  | y :: l, 0, x, _, h => by
    simp at h; subst h
    exact ⟨fun h => by simp [orI, h], fun h => by simp [orI, h]⟩
  | y :: l, k + 1, x, h0, h => by
    rw [List.take_succ_cons, orI] at h0
    by_cases hy : y = 0
    · rw [if_pos hy] at h0
      obtain ⟨h1, h2⟩ := orI_take (l := l) (k := k) h0 (by simpa using h)
      exact ⟨fun hx => by rw [List.take_succ_cons, orI, if_pos hy]; exact h1 hx, fun hx => by rw [orI, if_pos hy]; exact h2 hx⟩
    · rw [if_neg hy] at h0; exact absurd h0 hy
set_option maxRecDepth 100000 in
set_option maxHeartbeats 400000 in
theorem or_any (es : List Int) (A : Option Addr) (n c B : Nat) (w : World) (h : Rd w B 1 A n (ints .i64 es)) (hn : n ≤ 1000) :
    Calls Tryz.prog 161 #[.slice A n c] w fun e w' => e = .returned (.int .i64 (orI es)) ∧ w = w' := by
  have HL := Lib.hid h.ints_len
  have HR := Lib.hid h
  clear h
  go_enter Tryz.func161, Tryz.ntmps161
  go_wp2_with fail
  go_loopw [8, 5] (fun iv _ wr => ∃ k : Nat, k ≤ n ∧ iv = .int .i64 k ∧ Hid (orI (es.take k) = 0) ∧ wr = w) (fun iv _ _ => n - (intOf iv).toNat)
  case atStart => exact ⟨0, Nat.zero_le _, rfl, rfl, rfl⟩
  case round =>
    obtain ⟨k, hk, rfl, hE, rfl⟩ := hrel
    by_cases hlt : k < n
    · have hkn : (k : Int) < (n : Int) := by omega
      obtain ⟨ad, rfl, hb, hc⟩ := HR.out.int hlt
      have hL := HL.out
      obtain ⟨x, hx⟩ : ∃ x, es[k]? = some x := ⟨_, List.getElem?_eq_getElem (by omega)⟩
      rw [hx] at hc
      have HT := Lib.hid (orI_take hE.out hx)
      clear hx hE hL
      by_cases hx0 : x = 0
      · subst hx0
        have ht : ((0 : Int) != 0) = false := rfl
        go_wp2_with fail
        exact ⟨⟨k + 1, by omega, by go_num, HT.out.1 (by first | rfl | trivial), by first | rfl | trivial⟩, by simp [intOf]; omega⟩
      · have ht : (x != 0) = true := by simpa using hx0
        have HX := Lib.hid (HT.out.2 hx0)
        clear hx0
        go_wp2_with fail
        go_ret
        exact ⟨ret_int HX.out.symm, rfl⟩
    · obtain rfl : k = n := by omega
      rw [List.take_of_length_le (by have := HL.out; omega)] at hE
      go_wp2_with fail
      go_ret
      exact ⟨ret_int hE.out.symm, rfl⟩

/-- How two items stand. -/
def ordI (x y : Itm) : Int := orI [cmpIA x.per y.per, cmpIA y.rk x.rk, cmpIA x.id y.id]
theorem ordI_lt (x y : Itm) : decide (ordI x y < 0) = itmLt x y := by
  rw [Bool.eq_iff_iff]
  simp only [ordI, orI, cmpIA, itmLt, decide_eq_true_eq]
  by_cases a1 : x.per < y.per
  · simp [a1]
  · by_cases a2 : y.per < x.per
    · simp [a1, a2]; omega
    · by_cases b1 : y.rk < x.rk
      · simp [a1, a2, b1]; omega
      · by_cases b2 : x.rk < y.rk
        · simp [a1, a2, b1, b2]; omega
        · by_cases c1 : x.id < y.id
          · simp [a1, a2, b1, b2, c1]; omega
          · by_cases c2 : y.id < x.id
            · simp [a1, a2, b1, b2, c1, c2]
            · simp [a1, a2, b1, b2, c1, c2]
theorem cells3_regrown {w : World} {b : Nat} {t : TypeId} {x y z : Value} (h : w.heap[b]? = some (.cells #[x, y, z] t (0, 0))) : w.cell? ⟨b, 0, none⟩ = some x ∧ w.cell? ⟨b, 1, none⟩ = some y ∧ w.cell? ⟨b, 2, none⟩ = some z := by
  rw [cell_of h, cell_of h, cell_of h]
  exact ⟨rfl, rfl, rfl⟩
theorem drewN_calls {P : Program} {f : FuncId} {args : Array Value} {v : Value} (h : ∀ w, Calls P f args w fun e w' => e = .returned v ∧ w = w') (w : World) (q : Nat) :
    Calls P f args (w.drewN q) fun e w'' => e = .returned v ∧ ∃ m, w'' = w.drewN m :=
  (h _).mono fun _ _ ⟨he, hw⟩ => ⟨he, q, hw.symm⟩
end Go.Proofs.YtjlokkjbdgcooaaGreat

/-
  Contract of agenda's order.
-/
namespace Go.Proofs.YtjlokkjbdgcooaaGreat
open Go.RowKit Go.Sort

theorem grow_two (w : World) (a b : Obj) (q : Nat) (os : Array Obj) : ∃ q' os', grow (((w.alloc a).alloc b).drewN q) os = grow (w.drewN q') os' := by
  refine ⟨q, #[a] ++ #[b] ++ os, ?_⟩
  rw [show ((w.alloc a).alloc b).drewN q = ((w.drewN q).alloc a).alloc b from rfl, alloc_eq_grow, alloc_eq_grow, grow_grow, grow_grow, Array.append_assoc]
theorem rd_three (w : World) (a b c : Int) : Rd (w.alloc (.cells #[.int .i64 a, .int .i64 b, .int .i64 c] 3)) (w.heap.size + 1) 1 (some ⟨w.heap.size, 0, none⟩) 3 (ints .i64 [a, b, c]) :=
  ⟨rfl, fun _ => ⟨_, rfl, by simp, cells_new w (ints .i64 [a, b, c]) 3⟩⟩
set_option maxRecDepth 100000 in
set_option maxHeartbeats 2000000 in
theorem order_any (x y : Itm) (w : World) : Calls Tryz.prog 107 #[.agg #[.int .i64 x.per, .int .i64 x.rk, .int .i64 x.id], .agg #[.int .i64 y.per, .int .i64 y.rk, .int .i64 y.id]] w fun e w' => e = .returned (.int .i64 (ordI x y)) ∧ ∃ q os, w' = grow (w.drewN q) os := by
  obtain ⟨W1, hW1⟩ : ∃ W1, (w.alloc (.cells #[.int .i64 x.per, .int .i64 x.rk, .int .i64 x.id] 71)).alloc (.cells #[.int .i64 y.per, .int .i64 y.rk, .int .i64 y.id] 71) = W1 := ⟨_, rfl⟩
  have hx : W1.heap[w.heap.size]? = some (.cells #[.int .i64 x.per, .int .i64 x.rk, .int .i64 x.id] 71 (0, 0)) := by
    rw [← hW1, Below.heap_alloc _ _ _ (by simp)]; exact heap_new w _
  have hy : W1.heap[w.heap.size + 1]? = some (.cells #[.int .i64 y.per, .int .i64 y.rk, .int .i64 y.id] 71 (0, 0)) := by
    rw [← hW1]
    have := heap_new (w.alloc (.cells #[.int .i64 x.per, .int .i64 x.rk, .int .i64 x.id] 71)) (.cells #[.int .i64 y.per, .int .i64 y.rk, .int .i64 y.id] 71)
    simpa using this
  obtain ⟨x0, x1, x2⟩ := cells3_regrown hx
  obtain ⟨y0, y1, y2⟩ := cells3_regrown hy
  have HG : Hid (∀ q os, ∃ q' os', grow (W1.drewN q) os = grow (w.drewN q') os') := fun q os => by rw [← hW1]; exact grow_two w _ _ q os
  have HW := Lib.hid hW1
  have K1 := Lib.hid (drewN_calls (cmp_any x.per y.per) W1)
  have K2 := Lib.hid (drewN_calls (cmp_any y.rk x.rk) W1)
  have K3 := Lib.hid (drewN_calls (cmp_any x.id y.id) W1)
  have KO := Lib.hid (or_any [cmpIA x.per y.per, cmpIA y.rk x.rk, cmpIA x.id y.id])
  clear hW1 hx hy
  unfold ordI
  go_enter Tryz.func107, Tryz.ntmps107
  go_wp2_with fail
  rw [HW.out]
  go_wp2_with fail
  refine wp_region_drew_tail 15 (by kernel_rfl) (by kernel_rfl) ?_
  simp only [List.take_succ_cons, List.take_zero, List.drop_succ_cons, List.drop_zero]
  repeat (quiet_step (fail))
  quiet_step (exact K1.out _)
  repeat (quiet_step (fail))
  quiet_step (exact K2.out _)
  repeat (quiet_step (fail))
  quiet_step (exact K3.out _)
  repeat (quiet_step (fail))
  refine wpQuiet_nil ?_
  rintro w' ⟨q, rfl⟩
  go_wp2_with fail
  trace_state
  refine (KO.out _ 3 3 _ _ (rd_three (W1.drewN q) _ _ _) (by omega)).mono ?_
  rintro e w2 ⟨rfl, rfl⟩
  go_wp2_with fail
  trace_state
  go_ret
  refine ⟨rfl, ?_⟩
  rw [alloc_eq_grow]
  exact HG.out q _
end Go.Proofs.YtjlokkjbdgcooaaGreat

/-
  Contracts of the methods of agenda's queue.
-/
namespace Go.Proofs.YtjlokkjbdgcooaaGreat
open Go.RowKit Go.Sort

theorem grown_of_below {w w' : World} {o : Option Nat} (h : Below w.heap.size w w') : w.grownBy w' o := ⟨h.os, h.tape, h.output, h.size, fun k hk _ => h.block k hk⟩
theorem below_grow {w : World} {q : Nat} {os : Array Obj} : Below w.heap.size w (grow (w.drewN q) os) :=
  below_regrown w (w.drawn + q) os
set_option maxHeartbeats 400000 in
theorem lenI_any (A : Option Addr) (n c : Nat) (w : World) (_hn : n ≤ maxLen) :
    Calls Tryz.prog 287 #[.slice A n c] w fun e w' => e = .returned (.int .i64 n) ∧ w = w' := by
  unfold maxLen at _hn
  go_enter Tryz.func287, Tryz.ntmps287
  go_wp2
  go_ret
  exact ⟨rfl, rfl⟩

set_option maxRecDepth 100000 in
set_option maxHeartbeats 2000000 in
theorem less_any (g n c i j : Nat) (x y : Itm) (w : World) (_hn : n ≤ maxLen) (hi : i < n) (hj : j < n)
    (hi0 : w.cell? ⟨g, i * 3, none⟩ = some (.int .i64 x.per)) (hi1 : w.cell? ⟨g, i * 3 + 1, none⟩ = some (.int .i64 x.rk)) (hi2 : w.cell? ⟨g, i * 3 + 2, none⟩ = some (.int .i64 x.id))
    (hj0 : w.cell? ⟨g, j * 3, none⟩ = some (.int .i64 y.per)) (hj1 : w.cell? ⟨g, j * 3 + 1, none⟩ = some (.int .i64 y.rk)) (hj2 : w.cell? ⟨g, j * 3 + 2, none⟩ = some (.int .i64 y.id)) :
    Calls Tryz.prog 288 #[.slice (some ⟨g, 0, none⟩) n c, .int .i64 i, .int .i64 j] w fun e w' => e = .returned (.bool (itmLt x y)) ∧ Below w.heap.size w w' := by
  unfold maxLen at _hn
  have a1 : (i : Int) < (n : Int) := by omega
  have a2 : (j : Int) < (n : Int) := by omega
  replace hi0 := cell_regrown hi0; replace hi1 := cell_regrown hi1; replace hi2 := cell_regrown hi2
  replace hj0 := cell_regrown hj0; replace hj1 := cell_regrown hj1; replace hj2 := cell_regrown hj2
  have HE := Lib.hid (ordI_lt x y)
  have Q1 := Lib.hid (regrown_calls (w := w) fun w1 _ => (order_any x y w1).mono fun e w' h => ⟨h.1, by obtain ⟨_, q, os, rfl⟩ := h; exact below_grow⟩)
  generalize ordI x y = z at *
  generalize itmLt x y = b at *
  go_enter Tryz.func288, Tryz.ntmps288
  go_wp2_with fail
  refine wp_region_quiet_below (by kernel_rfl) (by kernel_rfl) ?_
  repeat (quiet_step (fail))
  quiet_step (exact Q1.out _ _)
  repeat (quiet_step (fail))
  refine wpQuiet_nil ?_
  intro _ hw'
  obtain ⟨⟨dq, osq⟩, hw''⟩ := hw'
  subst hw''
  go_wp2_with fail
  go_ret
  exact ⟨ret_bool HE.out, below_regrown w dq osq⟩

set_option maxHeartbeats 1000000 in
theorem swap_walk (g n c i j : Nat) (x y : Itm) (w : World) (_hn : n ≤ maxLen) (hi : i < n) (hj : j < n) (hne : ¬ j = i)
    (hi0 : w.cell? ⟨g, i * 3, none⟩ = some (.int .i64 x.per)) (hi1 : w.cell? ⟨g, i * 3 + 1, none⟩ = some (.int .i64 x.rk)) (hi2 : w.cell? ⟨g, i * 3 + 2, none⟩ = some (.int .i64 x.id))
    (hj0 : w.cell? ⟨g, j * 3, none⟩ = some (.int .i64 y.per)) (hj1 : w.cell? ⟨g, j * 3 + 1, none⟩ = some (.int .i64 y.rk)) (hj2 : w.cell? ⟨g, j * 3 + 2, none⟩ = some (.int .i64 y.id))
    (hf : ∀ o, w.frozen? ⟨g, o, none⟩ = false) :
    Calls Tryz.prog 289 #[.slice (some ⟨g, 0, none⟩) n c, .int .i64 i, .int .i64 j] w fun e w' => e = .returned (.tuple #[]) ∧ (swapped w g i j x y).drew = w' := by
  unfold maxLen at _hn
  have a1 : (i : Int) < (n : Int) := by omega
  have a2 : (j : Int) < (n : Int) := by omega
  have b1 : ¬ i = j := fun h => hne h.symm
  have c1 : ¬ j * 3 = i * 3 + 1 := by omega
  have c2 : ¬ j * 3 = i * 3 + 2 := by omega
  have c3 : ¬ j * 3 + 1 = i * 3 := by omega
  have c4 : ¬ j * 3 + 1 = i * 3 + 2 := by omega
  have c5 : ¬ j * 3 + 2 = i * 3 := by omega
  have c6 : ¬ j * 3 + 2 = i * 3 + 1 := by omega
  have d1 : ¬ i * 3 = j * 3 + 1 := by omega
  have d2 : ¬ i * 3 = j * 3 + 2 := by omega
  have d3 : ¬ i * 3 + 1 = j * 3 := by omega
  have d4 : ¬ i * 3 + 1 = j * 3 + 2 := by omega
  have d5 : ¬ i * 3 + 2 = j * 3 := by omega
  have d6 : ¬ i * 3 + 2 = j * 3 + 1 := by omega
  go_enter Tryz.func289, Tryz.ntmps289
  go_wp2
  go_region
  go_end0
  exact ⟨rfl, rfl⟩

set_option maxHeartbeats 1000000 in
theorem swap_self_walk (g n c i : Nat) (x : Itm) (w : World) (_hn : n ≤ maxLen) (hi : i < n)
    (hi0 : w.cell? ⟨g, i * 3, none⟩ = some (.int .i64 x.per)) (hi1 : w.cell? ⟨g, i * 3 + 1, none⟩ = some (.int .i64 x.rk)) (hi2 : w.cell? ⟨g, i * 3 + 2, none⟩ = some (.int .i64 x.id))
    (hf : ∀ o, w.frozen? ⟨g, o, none⟩ = false) :
    Calls Tryz.prog 289 #[.slice (some ⟨g, 0, none⟩) n c, .int .i64 i, .int .i64 i] w fun e w' => e = .returned (.tuple #[]) ∧ (swapped w g i i x x).drew = w' := by
  unfold maxLen at _hn
  have a1 : (i : Int) < (n : Int) := by omega
  go_enter Tryz.func289, Tryz.ntmps289
  go_wp2
  go_region
  go_end0
  exact ⟨rfl, rfl⟩

theorem less_row (g cap n i j : Nat) (f : Nat → Itm) (w : World) (h : RRow w g cap n f) (hi : i < n) (hj : j < n) :
    Calls Tryz.prog 288 #[.slice (some ⟨g, 0, none⟩) n cap, .int .i64 i, .int .i64 j] w fun e w' => e = .returned (.bool (itmLt (f i) (f j))) ∧ Below w.heap.size w w' :=
  less_any g n cap i j (f i) (f j) w (by obtain ⟨_, _, a, b, _⟩ := h; omega) hi hj (h.cells hi).1 (h.cells hi).2.1 (h.cells hi).2.2 (h.cells hj).1 (h.cells hj).2.1 (h.cells hj).2.2
theorem swap_row (g cap n i j : Nat) (f : Nat → Itm) (w : World) (h : RRow w g cap n f) (hi : i < n) (hj : j < n) :
    Calls Tryz.prog 289 #[.slice (some ⟨g, 0, none⟩) n cap, .int .i64 i, .int .i64 j] w fun e w' => e = .returned (.tuple #[]) ∧ RRow w' g cap n (Hp.swap f i j) ∧ w.grownBy w' (some g) := by
  have hn : n ≤ maxLen := by obtain ⟨_, _, a, b, _⟩ := h; omega
  by_cases e : j = i
  · subst e
    refine (swap_self_walk g n cap j (f j) w hn hi (h.cells hi).1 (h.cells hi).2.1 (h.cells hi).2.2 h.warm).mono fun e w' ⟨he, hw⟩ => ⟨he, ?_, ?_⟩
    · rw [← hw]; exact swapped_row h hi hj
    · rw [← hw]; exact swapped_kept
  · refine (swap_walk g n cap i j (f i) (f j) w hn hi hj e (h.cells hi).1 (h.cells hi).2.1 (h.cells hi).2.2 (h.cells hj).1 (h.cells hj).2.1 (h.cells hj).2.2 h.warm).mono fun e w' ⟨he, hw⟩ => ⟨he, ?_, ?_⟩
    · rw [← hw]; exact swapped_row h hi hj
    · rw [← hw]; exact swapped_kept
end Go.Proofs.YtjlokkjbdgcooaaGreat

/-
  Contracts of container/heap's up and down over agenda's queue.
-/
namespace Go.Proofs.YtjlokkjbdgcooaaGreat
open Go.RowKit Go.Sort

/-- The variable in block b holds the slice over the row in block g. -/
def Box (w : World) (b g n cap : Nat) : Prop := w.heap[b]? = some (.cells #[.slice (some ⟨g, 0, none⟩) n cap] 153 (0, 0)) ∧ b ≠ g
theorem Box.cell {w : World} {b g n cap : Nat} (h : Box w b g n cap) : w.cell? ⟨b, 0, none⟩ = some (.slice (some ⟨g, 0, none⟩) n cap) := by simp [World.cell?, h.1]
theorem Box.lt {w : World} {b g n cap : Nat} (h : Box w b g n cap) : b < w.heap.size := by
  rcases Nat.lt_or_ge b w.heap.size with hlt | hge
  · exact hlt
  · have := h.1; rw [Array.getElem?_eq_none hge] at this; cases this
theorem Box.grown {w w' : World} {b g n cap : Nat} (h : Box w b g n cap) (hg : w.grownBy w' (some g)) : Box w' b g n cap :=
  ⟨(hg.block b h.lt (fun e => h.2 (by injection e))).trans h.1, h.2⟩

theorem method_less (b : Nat) (w : World) (v : Value) (hc : w.cell? ⟨b, 0, none⟩ = some v) :
    (method 458 219 (.pointer (some ⟨b, 0, none⟩)) "Less").run Tryz.prog w = .ok (288, v) w := method_through (by kernel_rfl) Tryz.underlying219 (by simp [go_sem, hc])
theorem method_swap (b : Nat) (w : World) (v : Value) (hc : w.cell? ⟨b, 0, none⟩ = some v) :
    (method 458 219 (.pointer (some ⟨b, 0, none⟩)) "Swap").run Tryz.prog w = .ok (289, v) w := method_through (by kernel_rfl) Tryz.underlying219 (by simp [go_sem, hc])
theorem method_len (b : Nat) (w : World) (v : Value) (hc : w.cell? ⟨b, 0, none⟩ = some v) :
    (method 458 219 (.pointer (some ⟨b, 0, none⟩)) "Len").run Tryz.prog w = .ok (287, v) w := method_through (by kernel_rfl) Tryz.underlying219 (by simp [go_sem, hc])
theorem method_push (b : Nat) (w : World) :
    (method 458 219 (.pointer (some ⟨b, 0, none⟩)) "Push").run Tryz.prog w = .ok (291, .pointer (some ⟨b, 0, none⟩)) w := by kernel_rfl
theorem method_pop (b : Nat) (w : World) :
    (method 458 219 (.pointer (some ⟨b, 0, none⟩)) "Pop").run Tryz.prog w = .ok (290, .pointer (some ⟨b, 0, none⟩)) w := by kernel_rfl

theorem RRow.laid {w w' : World} {g cap n : Nat} {f : Nat → Itm} (h : RRow w g cap n f) (hb : Below w.heap.size w w') : RRow w' g cap n f := h.kept (hb.block _ h.lt)
theorem grown_laid {a w w' : World} {row : Option Nat} (h : a.grownBy w row) (hb : Below w.heap.size w w') : a.grownBy w' row := h.trans (grown_of_below hb)

set_option maxRecDepth 100000 in
set_option maxHeartbeats 400000 in
theorem up_any (b g n cap j : Nat) (f : Nat → Itm) (w : World) (hb : Box w b g n cap) (hr : RRow w g cap n f) (hu : Hp.Up itmLt n j f) (hj : j < n) :
    Calls Tryz.prog 188 #[.iface 219 (.pointer (some ⟨b, 0, none⟩)), .int .i64 j] w fun e w' => e = .returned (.tuple #[]) ∧
      ∃ f', RRow w' g cap n f' ∧ Hp.Heap itmLt n f' ∧ Hp.Perm n f f' ∧ w.grownBy w' (some g) := by
  have hn : n ≤ maxLen := by obtain ⟨_, _, a, b, _⟩ := hr; omega
  unfold maxLen at hn
  go_enter Tryz.func188, Tryz.ntmps188
  go_wp2_with fail
  go_loopw [1] (fun x wr => ∃ k f', k < n ∧ x = .int .i64 (k : Nat) ∧ RRow wr g cap n f' ∧ Hp.Up itmLt n k f' ∧ Hp.Perm n f f' ∧ w.grownBy wr (some g)) (fun x _ => (intOf x).toNat)
  case atStart => exact ⟨j, f, hj, rfl, hr, hu, Hp.Perm.refl _ _, World.grownBy.refl _ _⟩
  case round =>
    obtain ⟨k, f1, hk, rfl, hr1, hu1, hp1, hg1⟩ := hrel
    by_cases h0 : k = 0
    · subst h0
      go_wp2_with fail
      go_end0
      exact ⟨rfl, f1, hr1, hu1.done (.inl rfl), hp1, hg1⟩
    · have he : ((k : Int) - 1) / 2 = (((k - 1) / 2 : Nat) : Int) := by omega
      have hlt : (k - 1) / 2 < k := by omega
      have H1 := Lib.hid (hu1.done (lt := itmLt))
      have H2 := Lib.hid (hu1.step itmOrd (by omega) hk)
      generalize (k - 1) / 2 = i at *
      have hne : ((i : Int) == (k : Int)) = false := by simp; omega
      have hbx := (hb.grown hg1).cell
      have hml := method_less b wr _ hbx
      go_wp2_with fail
      refine (less_row g cap n k i f1 wr hr1 hk (by omega)).mono ?_
      rintro e wA ⟨rfl, hbA⟩
      have HRA := Lib.hid (hr1.laid hbA)
      have HGA := Lib.hid (grown_laid hg1 hbA)
      have hbxA := (hb.grown HGA.out).cell
      clear hbA hbx hml
      cases hl : itmLt (f1 k) (f1 i)
      · go_wp2_with fail
        go_end0
        exact ⟨rfl, f1, HRA.out, H1.out (.inr hl), hp1, HGA.out⟩
      · have hms := method_swap b wA _ hbxA
        have Hl := Lib.hid hl
        clear hl
        go_wp2_with fail
        refine (swap_row g cap n i k f1 _ HRA.out (by omega) hk).mono ?_
        rintro e w' ⟨rfl, hr2, hg2⟩
        go_wp2_with fail
        exact ⟨⟨i, Hp.swap f1 i k, by omega, rfl, hr2, H2.out Hl.out, hp1.trans (Hp.Perm.swap_ f1 (by omega) hk), HGA.out.trans hg2⟩, by simp [intOf]; omega⟩

def SomeBool (e : Ending) : Prop := ∃ x, e = .returned (.bool x)

set_option maxRecDepth 100000 in
set_option maxHeartbeats 1000000 in
/-- 'down' from i0 on, in the first N places of the row. -/
theorem down_any (b g n cap N S i0 : Nat) (f : Nat → Itm) (w : World) (hb : Box w b g n cap) (hr : RRow w g cap n f) (hu : Hp.DownS itmLt N S i0 f) (hS : S ≤ i0) (hN : N ≤ n) (hi0 : i0 < n) (hsm : n < 1000000) :
    Calls Tryz.prog 187 #[.iface 219 (.pointer (some ⟨b, 0, none⟩)), .int .i64 i0, .int .i64 N] w fun e w' => SomeBool e ∧
      ∃ f', RRow w' g cap n f' ∧ Hp.HeapS itmLt N S f' ∧ Hp.Perm N f f' ∧ w.grownBy w' (some g) := by
  go_enter Tryz.func187, Tryz.ntmps187
  go_wp2_with fail
  go_loopw [7] (fun x wr => ∃ k f', k < n ∧ S ≤ k ∧ x = .int .i64 (k : Nat) ∧ RRow wr g cap n f' ∧ Hp.DownS itmLt N S k f' ∧ Hp.Perm N f f' ∧ w.grownBy wr (some g)) (fun x _ => n - (intOf x).toNat)
  case atStart => exact ⟨i0, f, hi0, hS, rfl, hr, hu, Hp.Perm.refl _ _, World.grownBy.refl _ _⟩
  case round =>
    obtain ⟨k, f1, hk, hSk, rfl, hr1, hu1, hp1, hg1⟩ := hrel
    have HSK := Lib.hid hSk
    clear hSk
    have hbx := (hb.grown hg1).cell
    obtain ⟨j1, hj1⟩ : ∃ j1, j1 = 2 * k + 1 := ⟨_, rfl⟩
    obtain ⟨j2, hj2⟩ : ∃ j2, j2 = j1 + 1 := ⟨_, rfl⟩
    have e1 : 2 * (k : Int) + 1 = (j1 : Int) := by omega
    have e2 : (j1 : Int) + 1 = (j2 : Int) := by omega
    have J1 := Lib.hid hj1
    have J2 := Lib.hid hj2
    clear hj1 hj2
    have hk1 : k < j1 := by have := J1.out; omega
    have hsm1 : j1 < 2000001 := by have := J1.out; omega
    have hsm2 : j2 < 2000002 := by have := J2.out; omega
    by_cases h1 : N ≤ j1
    · go_wp2_with fail
      go_ret
      refine ⟨⟨_, rfl⟩, f1, hr1, hu1.done ?_, hp1, hg1⟩
      intro q h0 hq hp
      have := J1.out; omega
    · have hml := method_less b wr _ hbx
      by_cases h2 : j2 < N
      · go_wp2_with fail
        refine (less_row g cap n j2 j1 f1 wr hr1 (by omega) (by omega)).mono ?_
        rintro e wA ⟨rfl, hbA⟩
        have HRA := Lib.hid (hr1.laid hbA)
        have HGA := Lib.hid (grown_laid hg1 hbA)
        have hbxA := (hb.grown HGA.out).cell
        clear hbA hbx hml
        have hml2 := method_less b wA _ hbxA
        cases hl : itmLt (f1 j2) (f1 j1)
        · have Hl := Lib.hid hl
          clear hl
          go_wp2_with fail
          have hm : ∀ q, 0 < q → q < N → (q - 1) / 2 = k → itmLt (f1 q) (f1 j1) = false := by
            have a1 := J1.out
            have a2 := J2.out
            intro q h0 hq hp
            rcases (show q = j1 ∨ q = j2 by omega) with rfl | rfl
            · exact itmOrd.irr _
            · exact Hl.out
          have HM := Lib.hid hm
          clear hm
          refine (less_row g cap n j1 k f1 _ HRA.out (by omega) hk).mono ?_
          rintro e wB ⟨rfl, hbB⟩
          have HRB := Lib.hid (HRA.out.laid hbB)
          have HGB := Lib.hid (grown_laid HGA.out hbB)
          have hbxB := (hb.grown HGB.out).cell
          clear hbB hbxA hml2
          cases hl2 : itmLt (f1 j1) (f1 k)
          · have Hl2 := Lib.hid hl2
            clear hl2
            go_wp2_with fail
            go_ret
            exact ⟨⟨_, rfl⟩, f1, HRB.out, hu1.done (fun q h0 hq hp => itmOrd.neg _ _ _ (HM.out q h0 hq hp) Hl2.out), hp1, HGB.out⟩
          · have Hl2 := Lib.hid hl2
            clear hl2
            have hms := method_swap b wB _ hbxB
            go_wp2_with fail
            refine (swap_row g cap n k j1 f1 _ HRB.out hk (by omega)).mono ?_
            rintro e w' ⟨rfl, hr2, hg2⟩
            go_wp2_with fail
            exact ⟨⟨j1, Hp.swap f1 k j1, by omega, by have := HSK.out; omega, rfl, hr2, hu1.step itmOrd HSK.out (by omega) (by omega) (by have := J1.out; have := J2.out; omega) Hl2.out HM.out, hp1.trans (Hp.Perm.swap_ f1 (by omega) (by omega)), HGB.out.trans hg2⟩, by simp [intOf]; omega⟩
        · have Hl := Lib.hid hl
          clear hl
          go_wp2_with fail
          have hm : ∀ q, 0 < q → q < N → (q - 1) / 2 = k → itmLt (f1 q) (f1 j2) = false := by
            have a1 := J1.out
            have a2 := J2.out
            intro q h0 hq hp
            rcases (show q = j1 ∨ q = j2 by omega) with rfl | rfl
            · exact itmOrd.asym _ _ Hl.out
            · exact itmOrd.irr _
          have HM := Lib.hid hm
          clear hm
          refine (less_row g cap n j2 k f1 _ HRA.out (by omega) hk).mono ?_
          rintro e wB ⟨rfl, hbB⟩
          have HRB := Lib.hid (HRA.out.laid hbB)
          have HGB := Lib.hid (grown_laid HGA.out hbB)
          have hbxB := (hb.grown HGB.out).cell
          clear hbB hbxA hml2
          cases hl2 : itmLt (f1 j2) (f1 k)
          · have Hl2 := Lib.hid hl2
            clear hl2
            go_wp2_with fail
            go_ret
            exact ⟨⟨_, rfl⟩, f1, HRB.out, hu1.done (fun q h0 hq hp => itmOrd.neg _ _ _ (HM.out q h0 hq hp) Hl2.out), hp1, HGB.out⟩
          · have Hl2 := Lib.hid hl2
            clear hl2
            have hms := method_swap b wB _ hbxB
            go_wp2_with fail
            refine (swap_row g cap n k j2 f1 _ HRB.out hk (by omega)).mono ?_
            rintro e w' ⟨rfl, hr2, hg2⟩
            go_wp2_with fail
            exact ⟨⟨j2, Hp.swap f1 k j2, by omega, by have := HSK.out; omega, rfl, hr2, hu1.step itmOrd HSK.out (by omega) (by omega) (by have := J1.out; have := J2.out; omega) Hl2.out HM.out, hp1.trans (Hp.Perm.swap_ f1 (by omega) (by omega)), HGB.out.trans hg2⟩, by simp [intOf]; omega⟩
      · go_wp2_with fail
        have hm : ∀ q, 0 < q → q < N → (q - 1) / 2 = k → itmLt (f1 q) (f1 j1) = false := by
          have a1 := J1.out
          have a2 := J2.out
          intro q h0 hq hp
          rcases (show q = j1 ∨ q = j2 by omega) with rfl | rfl
          · exact itmOrd.irr _
          · omega
        have HM := Lib.hid hm
        clear hm
        refine (less_row g cap n j1 k f1 _ hr1 (by omega) hk).mono ?_
        rintro e wB ⟨rfl, hbB⟩
        have HRB := Lib.hid (hr1.laid hbB)
        have HGB := Lib.hid (grown_laid hg1 hbB)
        have hbxB := (hb.grown HGB.out).cell
        clear hbB hbx hml
        cases hl2 : itmLt (f1 j1) (f1 k)
        · have Hl2 := Lib.hid hl2
          clear hl2
          go_wp2_with fail
          go_ret
          exact ⟨⟨_, rfl⟩, f1, HRB.out, hu1.done (fun q h0 hq hp => itmOrd.neg _ _ _ (HM.out q h0 hq hp) Hl2.out), hp1, HGB.out⟩
        · have Hl2 := Lib.hid hl2
          clear hl2
          have hms := method_swap b wB _ hbxB
          go_wp2_with fail
          refine (swap_row g cap n k j1 f1 _ HRB.out hk (by omega)).mono ?_
          rintro e w' ⟨rfl, hr2, hg2⟩
          go_wp2_with fail
          exact ⟨⟨j1, Hp.swap f1 k j1, by omega, by have := HSK.out; omega, rfl, hr2, hu1.step itmOrd HSK.out (by omega) (by omega) (by have := J1.out; have := J2.out; omega) Hl2.out HM.out, hp1.trans (Hp.Perm.swap_ f1 (by omega) (by omega)), HGB.out.trans hg2⟩, by simp [intOf]; omega⟩
end Go.Proofs.YtjlokkjbdgcooaaGreat
