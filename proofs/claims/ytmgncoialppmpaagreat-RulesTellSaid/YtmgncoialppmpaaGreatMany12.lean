/-
  Several texts, one behind the other: what each holds stands ahead of it.
-/
import Derived.Test.YtmgncoialppmpaaGreatMany2

/-
  Lists of trios, and the statements' helper over them: SameTrios.
-/
namespace Go.Proofs.YtmgncoialppmpaaGreat
open Go.RowKit

/-- An element. -/
structure Trio where
  x : Int
  y : Int
  z : Int
deriving DecidableEq
def Trio.cells (a : Trio) : List Value := [.int .i64 a.x, .int .i64 a.y, .int .i64 a.z]
def Trio.val (a : Trio) : Value := .agg #[.int .i64 a.x, .int .i64 a.y, .int .i64 a.z]
def trios (l : List Trio) : List Value := l.flatMap Trio.cells
theorem trios_len : ∀ l : List Trio, (trios l).length = l.length * 3
  | [] => rfl
  | a :: l => by have := trios_len l; unfold trios at this ⊢; simp [Trio.cells, this]; omega
theorem trios_append (l m : List Trio) : trios (l ++ m) = trios l ++ trios m := by simp [trios]
theorem trios_at : ∀ (l : List Trio) (k : Nat) (a : Trio), l[k]? = some a → (trios l)[k * 3]? = some (.int .i64 a.x) ∧ (trios l)[k * 3 + 1]? = some (.int .i64 a.y) ∧ (trios l)[k * 3 + 2]? = some (.int .i64 a.z)
  | [], k, a, h => by simp at h
  | b :: l, 0, a, h => by
    simp at h; subst h
    exact ⟨rfl, rfl, rfl⟩
  | b :: l, k + 1, a, h => by
    have := trios_at l k a (by simpa using h)
    unfold trios at this ⊢
    simp only [List.flatMap_cons, Trio.cells]
    rw [show (k + 1) * 3 = k * 3 + 3 by omega]
    simpa [List.getElem?_append_right] using this
theorem Rd.trios_len {w : World} {B n : Nat} {A : Option Addr} {l : List Trio} (h : Rd w B 3 A n (trios l)) : l.length = n := by
  have := h.1; rw [Go.Proofs.YtmgncoialppmpaaGreat.trios_len] at this; omega
theorem Rd.trio {w : World} {B n i : Nat} {A : Option Addr} {l : List Trio} (h : Rd w B 3 A n (trios l)) (hi : i < n) :
    ∃ ad a, A = some ad ∧ ad.block < B ∧ l[i]? = some a ∧ w.cell? (ad.add (i * 3)) = some (.int .i64 a.x) ∧ w.cell? (ad.add (i * 3 + 1)) = some (.int .i64 a.y) ∧ w.cell? (ad.add (i * 3 + 2)) = some (.int .i64 a.z) := by
  obtain ⟨ad, e, hb, hc⟩ := h.2 (by omega)
  have hl := h.trios_len
  have hg : l[i]? = some l[i] := List.getElem?_eq_getElem (by omega)
  obtain ⟨h1, h2, h3⟩ := trios_at l i _ hg
  exact ⟨ad, _, e, hb, hg, hc _ _ h1, hc _ _ h2, hc _ _ h3⟩

theorem infoTrio : (Tryz.prog.info? 113).map (fun i => (i.zero, i.size, i.bytes)) = some (some (.agg #[.int .i64 0, .int .i64 0, .int .i64 0]), 3, 24) := by kernel_rfl
theorem trio_step {l m : List Trio} {k : Nat} (hk : k < l.length ∧ k < m.length) (h1 : l.take k = m.take k) (h2 : l[k]? = m[k]?) : l.take (k + 1) = m.take (k + 1) := by
  rw [List.take_succ_eq_append_getElem hk.1, List.take_succ_eq_append_getElem hk.2, h1]
  rw [List.getElem?_eq_getElem hk.1, List.getElem?_eq_getElem hk.2] at h2
  injection h2 with h2
  rw [h2]

set_option maxRecDepth 100000 in
set_option maxHeartbeats 400000 in
theorem sameTrios_any (l m : List Trio) (A1 A2 : Option Addr) (n1 n2 c1 c2 B1 B2 : Nat) (w : World) (h1 : Rd w B1 3 A1 n1 (trios l)) (h2 : Rd w B2 3 A2 n2 (trios m)) (hn1 : n1 ≤ 1000000) (hn2 : n2 ≤ 1000000) :
    Calls Tryz.prog 200 #[.slice A1 n1 c1, .slice A2 n2 c2] w fun e w' => e = .returned (.bool (l == m)) ∧ Drew w w' := by
  have L1 := Lib.hid h1.trios_len
  have L2 := Lib.hid h2.trios_len
  by_cases hne : n1 = n2
  · subst hne
    have t1 : ((n1 : Int) != (n1 : Int)) = false := by simp
    go_enter Tryz.func200, Tryz.ntmps200
    go_wp2_with fail
    go_loopw [5] (fun i wr => ∃ k : Nat, k ≤ n1 ∧ i = .int .i64 k ∧ Hid (l.take k = m.take k) ∧ Drew w wr) (fun i _ => n1 - (intOf i).toNat)
    case atStart => exact ⟨0, Nat.zero_le _, rfl, by simp [Hid], Drew.refl _⟩
    case round =>
      obtain ⟨k, hk, rfl, hs, q, rfl⟩ := hrel
      by_cases hlt : k < n1
      · obtain ⟨a1, x, rfl, hb1, hx, p1, p2, p3⟩ := h1.trio hlt
        obtain ⟨a2, y, rfl, hb2, hy, r1, r2, r3⟩ := h2.trio hlt
        have hkn : (k : Int) < (n1 : Int) := by omega
        have p2' := cell_behind p2 (by omega)
        have p3' := cell_behind p3 (by omega)
        have r2' := cell_behind r2 (by omega)
        have r3' := cell_behind r3 (by omega)
        have HX : Hid (x = y → l.take (k + 1) = m.take (k + 1)) := fun h => trio_step (by have := L1.out; have := L2.out; omega) hs.out (by rw [hx, hy, h])
        have HY : Hid (x ≠ y → (l == m) = false) := by
          intro h
          rw [beq_eq_false_iff_ne]
          intro e
          rw [e, hy] at hx
          exact h (by injection hx with hx; exact hx.symm)
        clear hx hy p2 p3 r2 r3
        obtain ⟨x1, x2, x3⟩ := x
        obtain ⟨y1, y2, y3⟩ := y
        by_cases e1 : x1 = y1
        · subst e1
          by_cases e2 : x2 = y2
          · subst e2
            by_cases e3 : x3 = y3
            · subst e3
              have he : ∀ w, (Op.equalIn 10000 113 (.agg #[.int .i64 x1, .int .i64 x2, .int .i64 x3]) (.agg #[.int .i64 x1, .int .i64 x2, .int .i64 x3])).run Tryz.prog w = .ok true w := fun w => by rw [eql_array3 w 9998 113 3 Tryz.underlying113 Tryz.underlying3 (fun w => by kernel_rfl)]; simp
              go_wp2_with fail
              go_big_quiet (fail)
              go_wp2
              exact ⟨⟨k + 1, by omega, by go_num, HX.out (by first | rfl | trivial), Drew.add _ _⟩, by simp [intOf]; omega⟩
            · skip
              have he : ∀ w, (Op.equalIn 10000 113 (.agg #[.int .i64 x1, .int .i64 x2, .int .i64 x3]) (.agg #[.int .i64 x1, .int .i64 x2, .int .i64 y3])).run Tryz.prog w = .ok false w := fun w => by rw [eql_array3 w 9998 113 3 Tryz.underlying113 Tryz.underlying3 (fun w => by kernel_rfl)]; simp [e3]
              go_wp2_with fail
              go_big_quiet (fail)
              go_wp2
              go_ret
              exact ⟨ret_bool (HY.out (by simp [e3])).symm, ⟨_, World.drewN_drewN _ _ _⟩⟩
          · skip
            have he : ∀ w, (Op.equalIn 10000 113 (.agg #[.int .i64 x1, .int .i64 x2, .int .i64 x3]) (.agg #[.int .i64 x1, .int .i64 y2, .int .i64 y3])).run Tryz.prog w = .ok false w := fun w => by rw [eql_array3 w 9998 113 3 Tryz.underlying113 Tryz.underlying3 (fun w => by kernel_rfl)]; simp [e2]
            go_wp2_with fail
            go_big_quiet (fail)
            go_wp2
            go_ret
            exact ⟨ret_bool (HY.out (by simp [e2])).symm, ⟨_, World.drewN_drewN _ _ _⟩⟩
        · skip
          have he : ∀ w, (Op.equalIn 10000 113 (.agg #[.int .i64 x1, .int .i64 x2, .int .i64 x3]) (.agg #[.int .i64 y1, .int .i64 y2, .int .i64 y3])).run Tryz.prog w = .ok false w := fun w => by rw [eql_array3 w 9998 113 3 Tryz.underlying113 Tryz.underlying3 (fun w => by kernel_rfl)]; simp [e1]
          go_wp2_with fail
          go_big_quiet (fail)
          go_wp2
          go_ret
          exact ⟨ret_bool (HY.out (by simp [e1])).symm, ⟨_, World.drewN_drewN _ _ _⟩⟩
      · go_wp2
        go_ret
        refine ⟨ret_bool ?_, _, rfl⟩
        have := hs.out
        rw [List.take_of_length_le (by have := L1.out; omega), List.take_of_length_le (by have := L2.out; omega)] at this
        rw [this]; simp
  · have t1 : ((n1 : Int) != (n2 : Int)) = true := by rw [bne_iff_ne]; omega
    have HN := Lib.hid hne
    clear hne
    go_enter Tryz.func200, Tryz.ntmps200
    go_wp2
    go_ret
    refine ⟨ret_bool ?_, Drew.refl _⟩
    symm
    rw [beq_eq_false_iff_ne]
    intro e
    have := L1.out; have := L2.out
    rw [e] at *
    have := HN.out; omega
end Go.Proofs.YtmgncoialppmpaaGreat

/-
  Gates as lists of rows (entity, period, state): what is found, where one would stand, what is set. No code.
-/
namespace Go.Proofs.YtmgncoialppmpaaGreat
open Go.RowKit

/-- A row's place among the others. -/
def Trio.key (a : Trio) : Int := a.x * 2000 + a.y
def okT (e p : Int) : Bool := decide (1 ≤ e ∧ e ≤ 9 ∧ 0 ≤ p ∧ p ≤ 1199)
def posT (l : List Trio) (x : Int) : Nat := (l.takeWhile fun a => decide (a.key < x)).length
def findT (l : List Trio) (x : Int) : Option Trio := l.find? fun a => a.key == x
/-- Rows rise, and are of what may be. -/
def GoodT (l : List Trio) : Prop := l.Pairwise (fun a b => a.key < b.key) ∧ ∀ a ∈ l, okT a.x a.y = true
def zOf : Option Trio → Int
  | none => 0
  | some a => a.z
def stT (l : List Trio) (e p : Int) : Int := if okT e p = true then zOf (findT l (e * 2000 + p)) else 2
def mayT (l : List Trio) (e p : Int) : Int := if okT e p = true then (if stT l e p = 0 then 0 else 6) else 1
def setE (l : List Trio) (e p s : Int) : Int := if okT e p = true ∧ 0 ≤ s ∧ s ≤ 2 then (if stT l e p = 2 ∨ (s = 2 ∧ stT l e p ≠ 1) then 11 else 0) else 1
def restT (l : List Trio) (x : Int) : List Trio := l.drop (posT l x + if (findT l x).isSome = true then 1 else 0)
def newT (l : List Trio) (e p s : Int) : List Trio := l.take (posT l (e * 2000 + p)) ++ ((if s = 0 then [] else [⟨e, p, s⟩]) ++ restT l (e * 2000 + p))
def setT (l : List Trio) (e p s : Int) : List Trio := if setE l e p s = 0 then newT l e p s else l

theorem posT_le (l : List Trio) (x : Int) : posT l x ≤ l.length := by unfold posT; exact (List.takeWhile_prefix _).length_le
theorem posT_cons (a : Trio) (l : List Trio) (x : Int) : posT (a :: l) x = if a.key < x then posT l x + 1 else 0 := by
  unfold posT
  by_cases h : a.key < x <;> simp [List.takeWhile_cons, h]
theorem posT_lt : ∀ (l : List Trio) (x : Int) (k : Nat) (a : Trio), k < posT l x → l[k]? = some a → a.key < x
  | [], x, k, a, _, h2 => by simp at h2
  | b :: l, x, k, a, h1, h2 => by
    rw [posT_cons] at h1
    split at h1
    · cases k with
      | zero => simp at h2; subst h2; assumption
      | succ k => exact posT_lt l x k a (by omega) (by simpa using h2)
    · omega
theorem posT_at : ∀ (l : List Trio) (x : Int) (a : Trio), l[posT l x]? = some a → x ≤ a.key
  | [], x, a, h => by simp at h
  | b :: l, x, a, h => by
    rw [posT_cons] at h
    split at h
    · exact posT_at l x a (by simpa using h)
    · simp at h; subst h; omega
theorem posT_eq {l : List Trio} {x : Int} {i : Nat} (hi : i ≤ l.length) (h1 : ∀ k a, k < i → l[k]? = some a → a.key < x) (h2 : ∀ a, l[i]? = some a → x ≤ a.key) : posT l x = i := by
  rcases Nat.lt_trichotomy (posT l x) i with h | h | h
  · have hl : posT l x < l.length := by omega
    have := posT_at l x _ (List.getElem?_eq_getElem hl)
    have := h1 _ _ h (List.getElem?_eq_getElem hl)
    omega
  · exact h
  · have := posT_le l x
    have hl : i < l.length := by omega
    have := posT_lt l x i _ h (List.getElem?_eq_getElem hl)
    have := h2 _ (List.getElem?_eq_getElem hl)
    omega
theorem rise_ltGt {l : List Trio} (h : l.Pairwise fun a b => a.key < b.key) {i j : Nat} {a b : Trio} (hij : i < j) (hi : l[i]? = some a) (hj : l[j]? = some b) : a.key < b.key := by
  obtain ⟨h1, rfl⟩ := List.getElem?_eq_some_iff.1 hi
  obtain ⟨h2, rfl⟩ := List.getElem?_eq_some_iff.1 hj
  exact List.pairwise_iff_getElem.1 h i j h1 h2 hij
theorem rise_leGt {l : List Trio} (h : l.Pairwise fun a b => a.key < b.key) {i j : Nat} {a b : Trio} (hij : i ≤ j) (hi : l[i]? = some a) (hj : l[j]? = some b) : a.key ≤ b.key := by
  rcases Nat.lt_or_ge i j with h1 | h1
  · have := rise_ltGt h h1 hi hj; omega
  · obtain rfl : i = j := by omega
    rw [hi] at hj
    injection hj with hj
    rw [hj]; exact Int.le_refl _
/-- In a list that rises what is found stands at its place. -/
theorem find_atGt : ∀ {l : List Trio}, l.Pairwise (fun a b => a.key < b.key) → ∀ x, findT l x = (l[posT l x]?).bind fun a => if a.key = x then some a else none
  | [], _, x => rfl
  | b :: l, h, x => by
    rw [posT_cons]
    rw [List.pairwise_cons] at h
    unfold findT
    rw [List.find?_cons]
    rcases Int.lt_trichotomy b.key x with hb | hb | hb
    · have h1 : (b.key == x) = false := by simp; omega
      rw [h1, if_pos hb]
      exact find_atGt h.2 x
    · have h1 : (b.key == x) = true := by simp; omega
      rw [h1, if_neg (by omega)]
      simp [hb]
    · have h1 : (b.key == x) = false := by simp; omega
      rw [h1, if_neg (by omega)]
      have : l.find? (fun a => a.key == x) = none := by
        rw [List.find?_eq_none]
        intro a ha
        have := h.1 a ha
        simp; omega
      rw [this]
      simp; omega
theorem find_some_atGt {l : List Trio} (h : l.Pairwise fun a b => a.key < b.key) {x : Int} {a : Trio} (hf : findT l x = some a) : l[posT l x]? = some a ∧ a.key = x := by
  rw [find_atGt h] at hf
  cases hq : l[posT l x]? with
  | none => simp [hq] at hf
  | some b =>
    rw [hq] at hf
    by_cases hb : b.key = x
    · simp [hb] at hf; subst hf; exact ⟨rfl, hb⟩
    · simp [hb] at hf
theorem find_none_atGt {l : List Trio} (h : l.Pairwise fun a b => a.key < b.key) {x : Int} (hf : findT l x = none) {a : Trio} (ha : l[posT l x]? = some a) : x < a.key := by
  have h1 := posT_at l x a ha
  rw [find_atGt h, ha] at hf
  by_cases hb : a.key = x
  · simp [hb] at hf
  · omega
theorem find_none_memGt {l : List Trio} {x : Int} (hf : findT l x = none) : ∀ a ∈ l, a.key ≠ x := by
  intro a ha
  have := List.find?_eq_none.1 hf a ha
  simpa using this
theorem rise_lenGt : ∀ (l : List Trio) (lo : Int), l.Pairwise (fun a b => a.key < b.key) → (∀ a ∈ l, lo ≤ a.key ∧ a.key ≤ 19999) → lo ≤ 20000 → (l.length : Int) ≤ 20000 - lo
  | [], lo, _, _, h => by simp; omega
  | b :: l, lo, h, hr, _ => by
    rw [List.pairwise_cons] at h
    have hb := hr b (by simp)
    have := rise_lenGt l (b.key + 1) h.2 (fun a ha => ⟨by have := h.1 a ha; omega, (hr a (by simp [ha])).2⟩) (by omega)
    simp; omega
theorem okT_t {e p : Int} (h : okT e p = true) : 1 ≤ e ∧ e ≤ 9 ∧ 0 ≤ p ∧ p ≤ 1199 := by simpa [okT] using h
theorem GoodT.len {l : List Trio} (h : GoodT l) : l.length ≤ 20000 := by
  have := rise_lenGt l 0 h.1 (fun a ha => by have := okT_t (h.2 a ha); unfold Trio.key; omega) (by omega)
  omega
theorem GoodT.nil : GoodT [] := ⟨List.Pairwise.nil, by simp⟩
/-- Behind what is set: rows in their order. -/
theorem rest_gt {l : List Trio} (h : l.Pairwise fun a b => a.key < b.key) (x : Int) : ∀ b ∈ restT l x, x < b.key := by
  intro b hb
  unfold restT at hb
  obtain ⟨j, hj⟩ := List.mem_iff_getElem?.1 hb
  rw [List.getElem?_drop] at hj
  have hl := (List.getElem?_eq_some_iff.1 hj).1
  have hp : posT l x < l.length := by omega
  have hg := List.getElem?_eq_getElem hp
  cases hf : findT l x with
  | none =>
    have h1 := find_none_atGt h hf hg
    have h2 := rise_leGt h (by omega) hg hj
    omega
  | some a =>
    obtain ⟨h1, h2⟩ := find_some_atGt h hf
    rw [hf] at hj
    have := rise_ltGt h (by simp; omega) h1 hj
    omega
theorem GoodT.new {l : List Trio} (h : GoodT l) {e p : Int} (s : Int) (ho : okT e p = true) : GoodT (newT l e p s) := by
  have hr := rest_gt h.1 (e * 2000 + p)
  have hlo : ∀ b ∈ l.take (posT l (e * 2000 + p)), b.key < e * 2000 + p := by
    intro b hb
    obtain ⟨j, hj⟩ := List.mem_iff_getElem?.1 hb
    rw [List.getElem?_take] at hj
    split at hj
    · exact posT_lt l _ j b ‹_› hj
    · cases hj
  have hs : (restT l (e * 2000 + p)).Pairwise fun a b => a.key < b.key := h.1.sublist (List.drop_sublist _ _)
  refine ⟨?_, fun b hb => ?_⟩
  · unfold newT
    rw [List.pairwise_append]
    refine ⟨h.1.sublist (List.take_sublist _ _), ?_, ?_⟩
    · split
      · exact hs
      · rw [List.singleton_append, List.pairwise_cons]
        exact ⟨fun b hb => hr b hb, hs⟩
    · intro b hb c hc
      have h1 := hlo b hb
      rcases List.mem_append.1 hc with hc | hc
      · split at hc
        · simp at hc
        · simp at hc; subst hc; exact h1
      · have := hr c hc; omega
  · unfold newT at hb
    rcases List.mem_append.1 hb with hb | hb
    · exact h.2 b (List.mem_of_mem_take hb)
    · rcases List.mem_append.1 hb with hb | hb
      · split at hb
        · simp at hb
        · simp at hb; subst hb; exact ho
      · exact h.2 b (List.mem_of_mem_drop hb)
theorem setE_ok {l : List Trio} {e p s : Int} (h : setE l e p s = 0) : okT e p = true := by
  unfold setE at h
  split at h
  · exact (‹_ ∧ _›).1
  · omega
theorem GoodT.set {l : List Trio} (h : GoodT l) (e p s : Int) : GoodT (setT l e p s) := by
  unfold setT
  split
  · exact h.new s (setE_ok ‹_›)
  · exact h
theorem set_take_drop {l : List Trio} {i : Nat} {a : Trio} (hi : i < l.length) : l.set i a = l.take i ++ a :: l.drop (i + 1) := by
  rw [List.set_eq_take_append_cons_drop, if_pos hi]
theorem newT_found {l : List Trio} (h : l.Pairwise fun a b => a.key < b.key) {e p s : Int} (hs : s ≠ 0) (hf : (findT l (e * 2000 + p)).isSome = true) : newT l e p s = l.set (posT l (e * 2000 + p)) ⟨e, p, s⟩ := by
  obtain ⟨a, ha⟩ := Option.isSome_iff_exists.1 hf
  obtain ⟨h1, _⟩ := find_some_atGt h ha
  rw [set_take_drop (List.getElem?_eq_some_iff.1 h1).1]
  simp [newT, restT, hs, ha]
theorem newT_fresh {l : List Trio} {e p s : Int} (hs : s ≠ 0) (hf : (findT l (e * 2000 + p)).isSome = false) : newT l e p s = l.take (posT l (e * 2000 + p)) ++ ⟨e, p, s⟩ :: l.drop (posT l (e * 2000 + p)) := by
  simp [newT, restT, hs, hf]
theorem newT_open {l : List Trio} {e p : Int} : newT l e p 0 = l.take (posT l (e * 2000 + p)) ++ restT l (e * 2000 + p) := by simp [newT]
theorem newT_none {l : List Trio} {e p : Int} (hf : (findT l (e * 2000 + p)).isSome = false) : newT l e p 0 = l := by
  simp [newT, restT, hf]
theorem newT_gone {l : List Trio} {e p : Int} (hf : (findT l (e * 2000 + p)).isSome = true) : newT l e p 0 = l.take (posT l (e * 2000 + p)) ++ l.drop (posT l (e * 2000 + p) + 1) := by
  simp [newT, restT, hf]
/-- What the two parts of a row tell of its place. -/
def cmp2 (a : Trio) (e p : Int) : Int := if a.x < e then -1 else if e < a.x then 1 else if a.y < p then -1 else if p < a.y then 1 else 0
theorem cmp2_lt {a : Trio} {e p : Int} (h1 : okT a.x a.y = true) (h2 : okT e p = true) : decide (cmp2 a e p < 0) = decide (a.key < e * 2000 + p) := by
  have := okT_t h1
  have := okT_t h2
  rw [Bool.eq_iff_iff]
  simp only [decide_eq_true_eq]
  unfold cmp2 Trio.key
  split
  · constructor <;> intro <;> omega
  · split
    · constructor <;> intro <;> omega
    · split
      · constructor <;> intro <;> omega
      · split <;> constructor <;> intro <;> omega
theorem cmp2_eq {a : Trio} {e p : Int} (h1 : okT a.x a.y = true) (h2 : okT e p = true) : (cmp2 a e p == 0) = (a.key == e * 2000 + p) := by
  have := okT_t h1
  have := okT_t h2
  rw [Bool.eq_iff_iff]
  simp only [beq_iff_eq]
  unfold cmp2 Trio.key
  split
  · constructor <;> intro <;> omega
  · split
    · constructor <;> intro <;> omega
    · split
      · constructor <;> intro <;> omega
      · split <;> constructor <;> intro <;> omega
end Go.Proofs.YtmgncoialppmpaaGreat
