/-
  Several texts, one behind the other: what each holds stands ahead of it.
-/
import Derived.Test.YtafloaabjinkfaaGreatMany12
import Derived.Test.YtafloaabjinkfaaGreatMany19
import Derived.Test.YtafloaabjinkfaaGreatMany17

/-
  What the reference's SetGate makes, row by row. No code.
-/
namespace Go.Proofs.YtafloaabjinkfaaGreat
open Go.RowKit

/-- One row of the reference's loop: what was made, whether x is in it. -/
def refIn (x : Trio) (acc : List Trio) (d : Bool) (y : Trio) : List Trio := if d = false ∧ x.key < y.key then acc ++ [x] else acc
def refD (x : Trio) (d : Bool) (y : Trio) : Bool := d || decide (x.key < y.key)
def refOut (x : Trio) (acc : List Trio) (d : Bool) (y : Trio) : List Trio := if y.key = x.key then refIn x acc d y else refIn x acc d y ++ [y]
def refAllGt (x : Trio) : List Trio → Bool → List Trio → List Trio × Bool
  | acc, d, [] => (acc, d)
  | acc, d, y :: r => refAllGt x (refOut x acc d y) (refD x d y) r
def refEnd (x : Trio) (p : List Trio × Bool) : List Trio := if p.2 = false then p.1 ++ [x] else p.1

theorem refAll_append (x : Trio) : ∀ (l m : List Trio) (acc : List Trio) (d : Bool), refAllGt x acc d (l ++ m) = refAllGt x (refAllGt x acc d l).1 (refAllGt x acc d l).2 m
  | [], m, acc, d => rfl
  | y :: l, m, acc, d => by rw [List.cons_append, refAllGt, refAllGt, refAll_append x l m]
theorem refAll_stepGt {x : Trio} {l : List Trio} {k : Nat} {y : Trio} (hy : l[k]? = some y) (acc : List Trio) (d : Bool) :
    refAllGt x acc d (l.take (k + 1)) = (refOut x (refAllGt x acc d (l.take k)).1 (refAllGt x acc d (l.take k)).2 y, refD x (refAllGt x acc d (l.take k)).2 y) := by
  obtain ⟨hl, rfl⟩ := List.getElem?_eq_some_iff.1 hy
  rw [List.take_succ_eq_append_getElem hl, refAll_append]
  rfl
theorem refAll_done (x : Trio) : ∀ (l acc : List Trio), refAllGt x acc true l = (acc ++ l.filter fun y => decide (y.key ≠ x.key), true)
  | [], acc => by simp [refAllGt]
  | y :: l, acc => by
    have h1 : refD x true y = true := rfl
    rw [refAllGt, h1, refAll_done x l]
    by_cases h : y.key = x.key
    · simp [refOut, refIn, h]
    · simp [refOut, refIn, h]
theorem filter_gt {l : List Trio} {k : Int} (h : ∀ y ∈ l, k < y.key) : (l.filter fun y => decide (y.key < k)) = [] ∧ (l.filter fun y => decide (k < y.key)) = l ∧ (l.filter fun y => decide (y.key ≠ k)) = l := by
  refine ⟨?_, ?_, ?_⟩
  · rw [List.filter_eq_nil_iff]
    intro a ha
    have := h a ha
    simp; omega
  · rw [List.filter_eq_self]
    intro a ha
    have := h a ha
    simp; omega
  · rw [List.filter_eq_self]
    intro a ha
    have := h a ha
    simp; omega
theorem refAll_not (x : Trio) : ∀ (l acc : List Trio), l.Pairwise (fun a b => a.key < b.key) → refEnd x (refAllGt x acc false l) = acc ++ ((l.filter fun y => decide (y.key < x.key)) ++ x :: (l.filter fun y => decide (x.key < y.key)))
  | [], acc, _ => by simp [refAllGt, refEnd]
  | y :: l, acc, h => by
    rw [List.pairwise_cons] at h
    rcases Int.lt_trichotomy y.key x.key with hy | hy | hy
    · have h1 : refD x false y = false := by simp [refD]; omega
      have h2 : refOut x acc false y = acc ++ [y] := by
        unfold refOut refIn
        rw [if_neg (by omega), if_neg (by omega)]
      rw [refAllGt, h1, h2, refAll_not x l _ h.2]
      have t1 : decide (y.key < x.key) = true := by simp [hy]
      have t2 : decide (x.key < y.key) = false := by simp; omega
      simp [t1, t2]
    · have h1 : refD x false y = false := by simp [refD]; omega
      have h2 : refOut x acc false y = acc := by
        unfold refOut refIn
        rw [if_pos hy, if_neg (by omega)]
      rw [refAllGt, h1, h2, refAll_not x l _ h.2]
      have t1 : decide (y.key < x.key) = false := by simp; omega
      have t2 : decide (x.key < y.key) = false := by simp; omega
      simp [t1, t2]
    · have h1 : refD x false y = true := by simp [refD]; omega
      have h2 : refOut x acc false y = acc ++ [x] ++ [y] := by
        unfold refOut refIn
        rw [if_neg (by omega), if_pos ⟨rfl, hy⟩]
      obtain ⟨f1, f2, f3⟩ := filter_gt (l := l) (k := x.key) fun a ha => by have := h.1 a ha; omega
      rw [refAllGt, h1, h2, refAll_done]
      have t1 : decide (y.key < x.key) = false := by simp; omega
      have t2 : decide (x.key < y.key) = true := by simp; omega
      rw [f3]
      simp [refEnd, t1, t2, f1, f2]
theorem new_filter (k : Int) : ∀ (l : List Trio), l.Pairwise (fun a b => a.key < b.key) → l.take (posT l k) = (l.filter fun y => decide (y.key < k)) ∧ restT l k = (l.filter fun y => decide (k < y.key))
  | [], _ => by simp [posT, restT]
  | b :: l, h => by
    rw [List.pairwise_cons] at h
    have ih := new_filter k l h.2
    unfold restT at ih ⊢
    rw [posT_cons]
    rcases Int.lt_trichotomy b.key k with hb | hb | hb
    · have t1 : decide (b.key < k) = true := by simp [hb]
      have t2 : decide (k < b.key) = false := by simp; omega
      have hf : findT (b :: l) k = findT l k := by
        unfold findT
        rw [List.find?_cons]
        have : (b.key == k) = false := by simp; omega
        rw [this]
      rw [if_pos hb, hf]
      constructor
      · rw [List.take_succ_cons, ih.1]; simp [t1]
      · rw [show posT l k + 1 + (if (findT l k).isSome = true then 1 else 0) = (posT l k + if (findT l k).isSome = true then 1 else 0) + 1 by omega, List.drop_succ_cons, ih.2]
        simp [t2]
    · obtain ⟨f1, f2, _⟩ := filter_gt (l := l) (k := k) fun a ha => by have := h.1 a ha; omega
      have t1 : decide (b.key < k) = false := by simp; omega
      have t2 : decide (k < b.key) = false := by simp; omega
      have hf : findT (b :: l) k = some b := by
        unfold findT
        rw [List.find?_cons]
        have : (b.key == k) = true := by simp [hb]
        rw [this]
      rw [if_neg (by omega), hf]
      simp [t1, t2, f1, f2]
    · obtain ⟨f1, f2, _⟩ := filter_gt (l := l) (k := k) fun a ha => by have := h.1 a ha; omega
      have t1 : decide (b.key < k) = false := by simp; omega
      have t2 : decide (k < b.key) = true := by simp; omega
      have hf : findT (b :: l) k = none := by
        unfold findT
        rw [List.find?_eq_none]
        intro a ha
        rcases List.mem_cons.1 ha with rfl | ha
        · simp; omega
        · have := h.1 a ha; simp; omega
      rw [if_neg (by omega), hf]
      simp [t1, t2, f1, f2]
theorem refSet_new {l : List Trio} (h : l.Pairwise fun a b => a.key < b.key) (e p s : Int) : (if (refAllGt ⟨e, p, s⟩ [] (decide (s = 0)) l).2 = false then (refAllGt ⟨e, p, s⟩ [] (decide (s = 0)) l).1 ++ [⟨e, p, s⟩] else (refAllGt ⟨e, p, s⟩ [] (decide (s = 0)) l).1) = newT l e p s := by
  obtain ⟨h1, h2⟩ := new_filter (e * 2000 + p) l h
  unfold newT
  rw [h1, h2]
  by_cases hs : s = 0
  · rw [decide_eq_true hs, refAll_done]
    simp only [hs, if_true, List.nil_append]
    rw [if_neg (by simp)]
    -- what is not it stands ahead of it or behind it
    show (l.filter fun y => decide (y.key ≠ e * 2000 + p)) = _
    clear h1 h2 hs
    induction l with
    | nil => rfl
    | cons b l ih =>
      rw [List.pairwise_cons] at h
      rcases Int.lt_trichotomy b.key (e * 2000 + p) with hb | hb | hb
      · have t1 : decide (b.key < e * 2000 + p) = true := by simp [hb]
        have t2 : decide (e * 2000 + p < b.key) = false := by simp; omega
        have t3 : decide (b.key ≠ e * 2000 + p) = true := by simp; omega
        simp only [List.filter_cons, t1, t2, t3]
        rw [ih h.2]; rfl
      · have t1 : decide (b.key < e * 2000 + p) = false := by simp; omega
        have t2 : decide (e * 2000 + p < b.key) = false := by simp; omega
        have t3 : decide (b.key ≠ e * 2000 + p) = false := by simp; omega
        simp only [List.filter_cons, t1, t2, t3]
        rw [ih h.2]; rfl
      · obtain ⟨f1, f2, f3⟩ := filter_gt (l := l) (k := e * 2000 + p) fun a ha => by have := h.1 a ha; omega
        have t1 : decide (b.key < e * 2000 + p) = false := by simp; omega
        have t2 : decide (e * 2000 + p < b.key) = true := by simp; omega
        have t3 : decide (b.key ≠ e * 2000 + p) = true := by simp; omega
        simp only [List.filter_cons, t1, t2, t3, f1, f2, f3]
        rfl
  · rw [decide_eq_false hs]
    have := refAll_not ⟨e, p, s⟩ l [] h
    unfold refEnd at this
    rw [this, if_neg hs]
    rfl
theorem refAll_len (x : Trio) : ∀ (l acc : List Trio) (d : Bool), (refAllGt x acc d l).1.length ≤ acc.length + 2 * l.length
  | [], acc, d => by simp [refAllGt]
  | y :: l, acc, d => by
    rw [refAllGt]
    have h1 := refAll_len x l (refOut x acc d y) (refD x d y)
    have h2 : (refOut x acc d y).length ≤ acc.length + 2 := by
      unfold refOut refIn
      split <;> split <;> simp
    simp at h1 ⊢
    omega
end Go.Proofs.YtafloaabjinkfaaGreat

/-
  Contract of the reference's SetGate.
-/
namespace Go.Proofs.YtafloaabjinkfaaGreat
open Go.RowKit

theorem infoGate : (Tryz.prog.info? 81).map (fun i => (i.zero, i.size, i.bytes)) = some (some (.agg #[.int .i64 0, .int .i64 0, .int .i64 0]), 3, 24) := by kernel_rfl
/-- One row more. -/
theorem gate_add {W : World} {B m : Nat} {v : Value} {acc : List Trio} (a : Trio) (hown : W.ownsRow B 81 3 v m (trios acc)) (hB : B ≤ W.heap.size) (hm : m ≤ 1000000) :
    ∃ A c w', (Builtin.append_ #[36, 36] 36 #[v, .slice (some ⟨W.heap.size, 0, none⟩) 1 1]).run Tryz.prog (W.alloc (.cells #[.int .i64 a.x, .int .i64 a.y, .int .i64 a.z] 81)) = .ok (.slice A (m + 1) c) w' ∧ w'.ownsRow B 81 3 (.slice A (m + 1) c) (m + 1) (trios (acc ++ [a])) ∧ But (fun k => v.ownBlock = some k) W w' ∧ (∀ k, (Value.slice A (m + 1) c).ownBlock = some k → v.ownBlock = some k ∨ W.heap.size ≤ k) ∧ W.heap.size + 1 ≤ w'.heap.size := by
  have hr : Rd (W.alloc (.cells #[.int .i64 a.x, .int .i64 a.y, .int .i64 a.z] 81)) (W.heap.size + 1) 3 (some ⟨W.heap.size, 0, none⟩) 1 a.cells := ⟨rfl, fun _ => ⟨_, rfl, by simp, rd_atGt (heap_new W _)⟩⟩
  obtain ⟨v', w', hrun, hown', hg, hp⟩ := append_fresh (P := Tryz.prog) (ty := 36) (c := 1) infoGate Tryz.underlying36 rfl (by omega) B v m _ (own_kept hown fun q hq _ => Below.heap_alloc W _ _ hq) hr (cells_oneT a) (by unfold maxLen; omega) (by omega) (by simp; omega)
  obtain ⟨A, c, rfl⟩ := own_form hown'
  have hb := But.of_grown hg
  refine ⟨A, c, w', hrun, ?_, ((But.of_below ((Below.refl _ _).alloc (Nat.le_refl _) _)).trans (hb.wide fun k _ hk => hk)), fun k hk => ?_, by have := hb.size; simpa using this⟩
  · rw [trios_append]
    have : trios [a] = a.cells := by simp [trios]
    rw [this]; exact hown'
  · rcases hp with h | h
    · exact .inl (by rw [← h]; exact hk)
    · rw [h] at hk
      injection hk with hk
      simp at hk
      exact .inr (by omega)

/-- What comes of the reference's SetGate. -/
def RefSet (w : World) (B : Nat) (l : List Trio) (E : Int) (e : Ending) (w' : World) : Prop :=
  ∃ A c, e = .returned (.tuple #[.slice A l.length c, .int .i64 E]) ∧ w'.ownsRow B 81 3 (.slice A l.length c) l.length (trios l) ∧ Below w.heap.size w w'
set_option maxRecDepth 100000 in
set_option maxHeartbeats 1000000 in
theorem refSet_lo (l : List Trio) (en pe s : Int) (A : Option Addr) (n c B : Nat) (w : World) (h : w.ownsRow B 81 3 (.slice A n c) n (trios l)) (h1 : en < 1) :
    Calls Tryz.prog 38 #[.slice A n c, .agg #[.int .i64 en, .int .i64 pe, .int .i64 s]] w (RefSet w B l 1) := by
  have HO := Lib.hid h
  have hl : l.length = n := by have := h.1; rw [trios_len] at this; omega
  subst hl
  clear h
  go_enter Tryz.func38, Tryz.ntmps38
  go_wp2_with fail
  go_ret2
  exact ⟨A, c, rfl, own_kept HO.out fun q hq _ => Below.heap_alloc _ _ _ hq, (Below.refl _ _).alloc (Nat.le_refl _) _⟩
set_option maxRecDepth 100000 in
set_option maxHeartbeats 1000000 in
theorem refSet_hi (l : List Trio) (en pe s : Int) (A : Option Addr) (n c B : Nat) (w : World) (h : w.ownsRow B 81 3 (.slice A n c) n (trios l)) (h1 : ¬ en < 1) (h2 : 9 < en) :
    Calls Tryz.prog 38 #[.slice A n c, .agg #[.int .i64 en, .int .i64 pe, .int .i64 s]] w (RefSet w B l 1) := by
  have HO := Lib.hid h
  have hl : l.length = n := by have := h.1; rw [trios_len] at this; omega
  subst hl
  clear h
  go_enter Tryz.func38, Tryz.ntmps38
  go_wp2_with fail
  go_ret2
  exact ⟨A, c, rfl, own_kept HO.out fun q hq _ => Below.heap_alloc _ _ _ hq, (Below.refl _ _).alloc (Nat.le_refl _) _⟩
set_option maxRecDepth 100000 in
set_option maxHeartbeats 1000000 in
theorem refSet_p (l : List Trio) (en pe s : Int) (A : Option Addr) (n c B : Nat) (w : World) (h : w.ownsRow B 81 3 (.slice A n c) n (trios l)) (h1 : ¬ en < 1) (h2 : ¬ 9 < en) (kv : ∀ w, Calls Tryz.prog 87 #[.int .i64 pe] w fun e w' => e = .returned (.bool false) ∧ w = w') :
    Calls Tryz.prog 38 #[.slice A n c, .agg #[.int .i64 en, .int .i64 pe, .int .i64 s]] w (RefSet w B l 1) := by
  have HO := Lib.hid h
  have hl : l.length = n := by have := h.1; rw [trios_len] at this; omega
  subst hl
  clear h
  go_enter Tryz.func38, Tryz.ntmps38
  go_wp2_with fail
  refine (kv _).mono ?_
  rintro e w1 ⟨rfl, rfl⟩
  go_wp2_with fail
  go_ret2
  exact ⟨A, c, rfl, own_kept HO.out fun q hq _ => Below.heap_alloc _ _ _ hq, (Below.refl _ _).alloc (Nat.le_refl _) _⟩
set_option maxRecDepth 100000 in
set_option maxHeartbeats 1000000 in
theorem refSet_s0 (l : List Trio) (en pe s : Int) (A : Option Addr) (n c B : Nat) (w : World) (h : w.ownsRow B 81 3 (.slice A n c) n (trios l)) (h1 : ¬ en < 1) (h2 : ¬ 9 < en) (kv : ∀ w, Calls Tryz.prog 87 #[.int .i64 pe] w fun e w' => e = .returned (.bool true) ∧ w = w') (h3 : s < 0) :
    Calls Tryz.prog 38 #[.slice A n c, .agg #[.int .i64 en, .int .i64 pe, .int .i64 s]] w (RefSet w B l 1) := by
  have HO := Lib.hid h
  have hl : l.length = n := by have := h.1; rw [trios_len] at this; omega
  subst hl
  clear h
  go_enter Tryz.func38, Tryz.ntmps38
  go_wp2_with fail
  refine (kv _).mono ?_
  rintro e w1 ⟨rfl, rfl⟩
  go_wp2_with fail
  go_ret2
  exact ⟨A, c, rfl, own_kept HO.out fun q hq _ => Below.heap_alloc _ _ _ hq, (Below.refl _ _).alloc (Nat.le_refl _) _⟩
set_option maxRecDepth 100000 in
set_option maxHeartbeats 1000000 in
theorem refSet_s2 (l : List Trio) (en pe s : Int) (A : Option Addr) (n c B : Nat) (w : World) (h : w.ownsRow B 81 3 (.slice A n c) n (trios l)) (h1 : ¬ en < 1) (h2 : ¬ 9 < en) (kv : ∀ w, Calls Tryz.prog 87 #[.int .i64 pe] w fun e w' => e = .returned (.bool true) ∧ w = w') (h3 : ¬ s < 0) (h4 : 2 < s) :
    Calls Tryz.prog 38 #[.slice A n c, .agg #[.int .i64 en, .int .i64 pe, .int .i64 s]] w (RefSet w B l 1) := by
  have HO := Lib.hid h
  have hl : l.length = n := by have := h.1; rw [trios_len] at this; omega
  subst hl
  clear h
  go_enter Tryz.func38, Tryz.ntmps38
  go_wp2_with fail
  refine (kv _).mono ?_
  rintro e w1 ⟨rfl, rfl⟩
  go_wp2_with fail
  go_ret2
  exact ⟨A, c, rfl, own_kept HO.out fun q hq _ => Below.heap_alloc _ _ _ hq, (Below.refl _ _).alloc (Nat.le_refl _) _⟩
set_option maxRecDepth 100000 in
set_option maxHeartbeats 1000000 in
theorem refSet_locked (l : List Trio) (en pe s st : Int) (A : Option Addr) (n c B : Nat) (w : World) (h : w.ownsRow B 81 3 (.slice A n c) n (trios l)) (h1 : ¬ en < 1) (h2 : ¬ 9 < en) (kv : ∀ w, Calls Tryz.prog 87 #[.int .i64 pe] w fun e w' => e = .returned (.bool true) ∧ w = w') (h3 : ¬ s < 0) (h4 : ¬ 2 < s) (ks : ∀ W, Below w.heap.size w W → Calls Tryz.prog 88 #[.slice A n c, .int .i64 en, .int .i64 pe] W fun e w' => e = .returned (.int .i64 st) ∧ W = w') (hs : st = 2) :
    Calls Tryz.prog 38 #[.slice A n c, .agg #[.int .i64 en, .int .i64 pe, .int .i64 s]] w (RefSet w B l 11) := by
  have HO := Lib.hid h
  have KS := Lib.hid ks
  have hl : l.length = n := by have := h.1; rw [trios_len] at this; omega
  subst hl
  subst hs
  clear h ks
  go_enter Tryz.func38, Tryz.ntmps38
  go_wp2_with fail
  refine (kv _).mono ?_
  rintro e w1 ⟨rfl, rfl⟩
  go_wp2_with fail
  refine (KS.out _ ((Below.refl _ _).alloc (Nat.le_refl _) _)).mono ?_
  rintro e w1 ⟨rfl, rfl⟩
  go_wp2_with fail
  go_ret2
  exact ⟨A, c, rfl, own_kept HO.out fun q hq _ => Below.heap_alloc _ _ _ hq, (Below.refl _ _).alloc (Nat.le_refl _) _⟩
set_option maxRecDepth 100000 in
set_option maxHeartbeats 1000000 in
theorem refSet_early (l : List Trio) (en pe s st : Int) (A : Option Addr) (n c B : Nat) (w : World) (h : w.ownsRow B 81 3 (.slice A n c) n (trios l)) (h1 : ¬ en < 1) (h2 : ¬ 9 < en) (kv : ∀ w, Calls Tryz.prog 87 #[.int .i64 pe] w fun e w' => e = .returned (.bool true) ∧ w = w') (h3 : ¬ s < 0) (h4 : ¬ 2 < s) (ks : ∀ W, Below w.heap.size w W → Calls Tryz.prog 88 #[.slice A n c, .int .i64 en, .int .i64 pe] W fun e w' => e = .returned (.int .i64 st) ∧ W = w') (hs : ¬ st = 2) (hs2 : s = 2) (hs3 : ¬ st = 1) :
    Calls Tryz.prog 38 #[.slice A n c, .agg #[.int .i64 en, .int .i64 pe, .int .i64 s]] w (RefSet w B l 11) := by
  have HO := Lib.hid h
  have KS := Lib.hid ks
  have hl : l.length = n := by have := h.1; rw [trios_len] at this; omega
  subst hl
  subst hs2
  have t1 : (st == 2) = false := by simp [hs]
  have t2 : (st != 1) = true := by simp [hs3]
  clear h ks
  go_enter Tryz.func38, Tryz.ntmps38
  go_wp2_with fail
  refine (kv _).mono ?_
  rintro e w1 ⟨rfl, rfl⟩
  go_wp2_with fail
  refine (KS.out _ ((Below.refl _ _).alloc (Nat.le_refl _) _)).mono ?_
  rintro e w1 ⟨rfl, rfl⟩
  go_wp2_with fail
  go_ret2
  exact ⟨A, c, rfl, own_kept HO.out fun q hq _ => Below.heap_alloc _ _ _ hq, (Below.refl _ _).alloc (Nat.le_refl _) _⟩
end Go.Proofs.YtafloaabjinkfaaGreat
