/-
  Several texts, one behind the other: what each holds stands ahead of it.
-/
import Derived.Test.YthjpknipnmagkaaMany8
import Derived.Test.YthjpknipnmagkaaArgRd
import Derived.Test.YthjpknipnmagkaaAgMath

/-
  Templates as rows of a list. No code.
-/
namespace Go.Proofs.Ythjpknipnmagkaa
open Mo
open Go.RowKit

def tpls (l : List Tpl) : List Value := l.flatMap Tpl.cells
theorem Rd.tpls_len {w : World} {B n : Nat} {A : Option Addr} {l : List Tpl} (h : Rd w B 12 A n (tpls l)) : l.length = n := by
  have := h.1
  unfold tpls at this
  rw [flat_len (cells := Tpl.cells) (size := 12) fun _ => rfl] at this
  omega
/-- A template of a list that can be read, as a walk spells its cells. -/
theorem Rd.tpl {w : World} {B n i : Nat} {A : Option Addr} {l : List Tpl} (h : Rd w B 12 A n (tpls l)) (hi : i < n) :
    ∃ ad t, A = some ad ∧ ad.block < B ∧ l[i]? = some t ∧ (w.cell? (ad.add (i * 12)) = some (.int .i64 t.kind) ∧ w.cell? ⟨(ad.add (i * 12)).block, (ad.add (i * 12)).off + 1, none⟩ = some (.int .i64 t.id) ∧ w.cell? ⟨(ad.add (i * 12)).block, (ad.add (i * 12)).off + 2, none⟩ = some (.int .i64 t.ent) ∧
      w.cell? ⟨(ad.add (i * 12)).block, (ad.add (i * 12)).off + 3, none⟩ = some (.int .i64 t.frm) ∧ w.cell? ⟨(ad.add (i * 12)).block, (ad.add (i * 12)).off + 4, none⟩ = some (.int .i64 t.til) ∧ w.cell? ⟨(ad.add (i * 12)).block, (ad.add (i * 12)).off + 5, none⟩ = some (.int .i64 t.ev)) ∧
      w.cell? ⟨(ad.add (i * 12)).block, (ad.add (i * 12)).off + 6, none⟩ = some (.int .i64 t.amt) ∧ w.cell? ⟨(ad.add (i * 12)).block, (ad.add (i * 12)).off + 7, none⟩ = some (.int .i64 t.deb) ∧ w.cell? ⟨(ad.add (i * 12)).block, (ad.add (i * 12)).off + 8, none⟩ = some (.int .i64 t.cre) ∧
      w.cell? ⟨(ad.add (i * 12)).block, (ad.add (i * 12)).off + 9, none⟩ = some (.slice t.At t.tg.length t.ct) ∧ w.cell? ⟨(ad.add (i * 12)).block, (ad.add (i * 12)).off + 10, none⟩ = some (.slice t.Aw t.wt.length t.cw) ∧ w.cell? ⟨(ad.add (i * 12)).block, (ad.add (i * 12)).off + 11, none⟩ = some (.int .i64 t.rk) := by
  obtain ⟨ad, t, e, hb, hg, hk⟩ := Rd.flat (cells := Tpl.cells) (fun _ => rfl) h (by omega) hi
  exact ⟨ad, t, e, hb, hg, ⟨hk 0 _ rfl, cell_behind (hk 1 _ rfl) (by omega), cell_behind (hk 2 _ rfl) (by omega), cell_behind (hk 3 _ rfl) (by omega), cell_behind (hk 4 _ rfl) (by omega), cell_behind (hk 5 _ rfl) (by omega)⟩, cell_behind (hk 6 _ rfl) (by omega), cell_behind (hk 7 _ rfl) (by omega), cell_behind (hk 8 _ rfl) (by omega), cell_behind (hk 9 _ rfl) (by omega), cell_behind (hk 10 _ rfl) (by omega), cell_behind (hk 11 _ rfl) (by omega)⟩
/-- What is due in the periods P of the template that has the number i. -/
def tplP (i : Nat) (rk : Int) (P : List Int) : List Itm := P.map fun p => ⟨p, rk, i⟩
def tplI (i : Nat) (t : Tpl) : List Itm := tplP i t.rk (perT t)
/-- What is due of the first k. -/
def itemsK (l : List Tpl) : Nat → List Itm
  | 0 => []
  | k + 1 => itemsK l k ++ (match l[k]? with | some t => tplI k t | none => [])
theorem itemsK_succ {l : List Tpl} {k : Nat} {t : Tpl} (h : l[k]? = some t) : itemsK l (k + 1) = itemsK l k ++ tplI k t := by
  show itemsK l k ++ _ = _
  rw [h]
theorem tplP_step {i : Nat} {rk : Int} {P : List Int} {k : Nat} {p : Int} (h : P[k]? = some p) : (tplP i rk P).take (k + 1) = (tplP i rk P).take k ++ [⟨p, rk, i⟩] := by
  have h2 : (tplP i rk P)[k]? = some ⟨p, rk, i⟩ := by unfold tplP; rw [List.getElem?_map, h]; rfl
  obtain ⟨hk, e⟩ := List.getElem?_eq_some_iff.1 h2
  rw [List.take_succ_eq_append_getElem hk, e]
theorem tplP_len (i : Nat) (rk : Int) (P : List Int) : (tplP i rk P).length = P.length := by simp [tplP]
theorem putsI_app (L a b : List Itm) : putsI (putsI L a) b = putsI L (a ++ b) := by unfold putsI; rw [List.foldl_append]
theorem perT_le (t : Tpl) : (perT t).length ≤ 1200 := by
  unfold perT
  split
  · rename_i h
    rw [perL_len]
    exact perN_le h
  · simp
end Go.Proofs.Ythjpknipnmagkaa

/-
  The row of an agenda's heap in memory; what an exchange of two of its items leaves. No code.
-/
namespace Go.Proofs.Ythjpknipnmagkaa
open Go.RowKit

/-- The world behind an exchange of the two items at i and j. -/
def swapped (w : World) (g i j : Nat) (x y : Itm) : World :=
  (((((w.setCell ⟨g, i * 3, none⟩ (.int .i64 y.per)).setCell ⟨g, i * 3 + 1, none⟩ (.int .i64 y.rk)).setCell ⟨g, i * 3 + 2, none⟩ (.int .i64 y.id)).setCell ⟨g, j * 3, none⟩ (.int .i64 x.per)).setCell ⟨g, j * 3 + 1, none⟩ (.int .i64 x.rk)).setCell ⟨g, j * 3 + 2, none⟩ (.int .i64 x.id)

/-- The cells of n items. -/
def flat (f : Nat → Itm) (n : Nat) : List Value := itms (lst f n)
theorem flat_succ (f : Nat → Itm) (n : Nat) : flat f (n + 1) = flat f n ++ [.int .i64 (f n).per, .int .i64 (f n).rk, .int .i64 (f n).id] := by
  unfold flat; rw [lst_succ, itms_append]; rfl
theorem flatI_len (f : Nat → Itm) (n : Nat) : (flat f n).length = n * 3 := by unfold flat; rw [itms_len, lst_len]
theorem flat_at (f : Nat → Itm) (n k : Nat) (hk : k < n) : (flat f n)[k * 3]? = some (.int .i64 (f k).per) ∧ (flat f n)[k * 3 + 1]? = some (.int .i64 (f k).rk) ∧ (flat f n)[k * 3 + 2]? = some (.int .i64 (f k).id) :=
  itms_at _ _ _ (lst_get f hk)
theorem flat_eq {f : Nat → Itm} {n : Nat} {xs : List Value} (hl : xs.length = n * 3) (h : ∀ k, k < n → xs[k * 3]? = some (.int .i64 (f k).per) ∧ xs[k * 3 + 1]? = some (.int .i64 (f k).rk) ∧ xs[k * 3 + 2]? = some (.int .i64 (f k).id)) : xs = flat f n := by
  apply List.ext_getElem?
  intro m
  by_cases hm : m < n * 3
  · have h1 := h (m / 3) (by omega)
    have h2 := flat_at f n (m / 3) (by omega)
    rcases (show m = m / 3 * 3 ∨ m = m / 3 * 3 + 1 ∨ m = m / 3 * 3 + 2 by omega) with e | e | e
    · rw [e, h1.1, h2.1]
    · rw [e, h1.2.1, h2.2.1]
    · rw [e, h1.2.2, h2.2.2]
  · rw [List.getElem?_eq_none (by omega), List.getElem?_eq_none (by rw [flatI_len]; omega)]
theorem flat_congr {f g : Nat → Itm} {n : Nat} (h : ∀ k, k < n → f k = g k) : flat f n = flat g n := by unfold flat; rw [lst_congr h]

/-- The row of items in block g. -/
def RRow (w : World) (g cap n : Nat) (f : Nat → Itm) : Prop :=
  ∃ cur : Array Value, w.heap[g]? = some (.cells cur 86 (0, 0)) ∧ n ≤ cap ∧ cap ≤ maxLen ∧ cur.size = cap * 3 ∧
    ∀ k, k < n → cur[k * 3]? = some (.int .i64 (f k).per) ∧ cur[k * 3 + 1]? = some (.int .i64 (f k).rk) ∧ cur[k * 3 + 2]? = some (.int .i64 (f k).id)

theorem RRow.cells {w : World} {g cap n k : Nat} {f : Nat → Itm} (h : RRow w g cap n f) (hk : k < n) :
    w.cell? ⟨g, k * 3, none⟩ = some (.int .i64 (f k).per) ∧ w.cell? ⟨g, k * 3 + 1, none⟩ = some (.int .i64 (f k).rk) ∧ w.cell? ⟨g, k * 3 + 2, none⟩ = some (.int .i64 (f k).id) := by
  obtain ⟨cur, h1, _, _, _, h2⟩ := h
  obtain ⟨a, b, c⟩ := h2 k hk
  simp [World.cell?, h1, a, b, c]
theorem RRow.warm {w : World} {g cap n : Nat} {f : Nat → Itm} (h : RRow w g cap n f) : ∀ o, w.frozen? ⟨g, o, none⟩ = false := by
  obtain ⟨cur, h1, _⟩ := h
  intro o; simp [World.frozen?, h1]
theorem RRow.kept {w w' : World} {g cap n : Nat} {f : Nat → Itm} (h : RRow w g cap n f) (hk : w'.heap[g]? = w.heap[g]?) : RRow w' g cap n f := by
  obtain ⟨cur, h1, r⟩ := h
  exact ⟨cur, hk.trans h1, r⟩
theorem RRow.lt {w : World} {g cap n : Nat} {f : Nat → Itm} (h : RRow w g cap n f) : g < w.heap.size := by
  obtain ⟨cur, h1, r⟩ := h
  exact lt_of_blk h1
def set3 (a : Array Value) (p : Nat) (x : Itm) : Array Value := ((a.setIfInBounds p (.int .i64 x.per)).setIfInBounds (p + 1) (.int .i64 x.rk)).setIfInBounds (p + 2) (.int .i64 x.id)
theorem set3_size (a : Array Value) (p : Nat) (x : Itm) : (set3 a p x).size = a.size := by simp only [set3, Array.size_setIfInBounds]
theorem set3_out {a : Array Value} {p m : Nat} (x : Itm) (h : m < p ∨ p + 3 ≤ m) : (set3 a p x)[m]? = a[m]? := by
  unfold set3
  rw [Array.getElem?_setIfInBounds_ne (by omega), Array.getElem?_setIfInBounds_ne (by omega), Array.getElem?_setIfInBounds_ne (by omega)]
theorem set3_in {a : Array Value} {p : Nat} (x : Itm) (h : p + 3 ≤ a.size) : (set3 a p x)[p]? = some (.int .i64 x.per) ∧ (set3 a p x)[p + 1]? = some (.int .i64 x.rk) ∧ (set3 a p x)[p + 2]? = some (.int .i64 x.id) := by
  unfold set3
  refine ⟨?_, ?_, ?_⟩
  · rw [Array.getElem?_setIfInBounds_ne (by omega), Array.getElem?_setIfInBounds_ne (by omega), Array.getElem?_setIfInBounds_self_of_lt (by omega)]
  · rw [Array.getElem?_setIfInBounds_ne (by omega), Array.getElem?_setIfInBounds_self_of_lt (by rw [Array.size_setIfInBounds]; omega)]
  · rw [Array.getElem?_setIfInBounds_self_of_lt (by rw [Array.size_setIfInBounds, Array.size_setIfInBounds]; omega)]
theorem drew_heap (w : World) : w.drew.heap = w.heap := rfl
theorem grown_drew {a w : World} {row : Option Nat} (h : a.grownBy w row) : a.grownBy w.drew row := ⟨h.os, h.tape, h.output, h.size, h.block⟩
theorem swapped_heap {w : World} {g i j : Nat} {t : TypeId} {cur : Array Value} {x y : Itm} (h1 : w.heap[g]? = some (.cells cur t (0, 0))) : (swapped w g i j x y).drew.heap[g]? = some (.cells (set3 (set3 cur (i * 3) y) (j * 3) x) t (0, 0)) := by
  have e1 := set_here (i := i * 3) (u := .int .i64 y.per) h1
  have e2 := set_here (i := i * 3 + 1) (u := .int .i64 y.rk) e1
  have e3 := set_here (i := i * 3 + 2) (u := .int .i64 y.id) e2
  have e4 := set_here (i := j * 3) (u := .int .i64 x.per) e3
  have e5 := set_here (i := j * 3 + 1) (u := .int .i64 x.rk) e4
  have e6 := set_here (i := j * 3 + 2) (u := .int .i64 x.id) e5
  rw [drew_heap]
  unfold swapped set3
  exact e6
theorem swapped_row {w : World} {g cap n i j : Nat} {f : Nat → Itm} (h : RRow w g cap n f) (hi : i < n) (hj : j < n) : RRow (swapped w g i j (f i) (f j)).drew g cap n (Hp.swap f i j) := by
  obtain ⟨cur, h1, h2, h3, h4, h5⟩ := h
  refine ⟨_, swapped_heap h1, h2, h3, by rw [set3_size, set3_size]; exact h4, fun k hk => ?_⟩
  have hk5 := h5 k hk
  by_cases ej : k = j
  · subst ej
    rw [Hp.swap_r]
    exact set3_in _ (show k * 3 + 3 ≤ (set3 cur (i * 3) (f k)).size by rw [set3_size]; omega)
  · rw [set3_out _ (show k * 3 < j * 3 ∨ j * 3 + 3 ≤ k * 3 by omega), set3_out _ (show k * 3 + 1 < j * 3 ∨ j * 3 + 3 ≤ k * 3 + 1 by omega), set3_out _ (show k * 3 + 2 < j * 3 ∨ j * 3 + 3 ≤ k * 3 + 2 by omega)]
    by_cases ei : k = i
    · subst ei
      rw [Hp.swap_l]
      exact set3_in _ (show k * 3 + 3 ≤ cur.size by omega)
    · rw [Hp.swap_o f i j k ei ej, set3_out _ (show k * 3 < i * 3 ∨ i * 3 + 3 ≤ k * 3 by omega), set3_out _ (show k * 3 + 1 < i * 3 ∨ i * 3 + 3 ≤ k * 3 + 1 by omega), set3_out _ (show k * 3 + 2 < i * 3 ∨ i * 3 + 3 ≤ k * 3 + 2 by omega)]
      exact hk5
theorem grown_set (w : World) (g o : Nat) (v : Value) : w.grownBy (w.setCell ⟨g, o, none⟩ v) (some g) :=
  ⟨rfl, rfl, rfl, by simp [World.setCell], fun k _ hne => Below.heap_setCell _ _ _ _ fun e => hne (by rw [e])⟩
theorem swapped_kept {w : World} {g i j : Nat} {x y : Itm} : w.grownBy (swapped w g i j x y).drew (some g) := by
  have h : w.grownBy (swapped w g i j x y) (some g) := by
    unfold swapped
    have e1 := grown_set w g (i * 3) (.int .i64 y.per)
    have e2 := e1.trans (grown_set _ g (i * 3 + 1) (.int .i64 y.rk))
    have e3 := e2.trans (grown_set _ g (i * 3 + 2) (.int .i64 y.id))
    have e4 := e3.trans (grown_set _ g (j * 3) (.int .i64 x.per))
    have e5 := e4.trans (grown_set _ g (j * 3 + 1) (.int .i64 x.rk))
    exact e5.trans (grown_set _ g (j * 3 + 2) (.int .i64 x.id))
  exact grown_drew h

theorem infoItm : (Try.prog.info? 86).map (fun i => (i.zero, i.size, i.bytes)) = some (some (.agg #[.int .i64 0, .int .i64 0, .int .i64 0]), 3, 24) := by kernel_rfl
theorem row_of_own {w : World} {B g n cap : Nat} {f : Nat → Itm} (h : w.ownsRow B 86 3 (.slice (some ⟨g, 0, none⟩) n cap) n (flat f n)) : RRow w g cap n f ∧ B ≤ g := by
  rcases h.2 with ⟨h1, _⟩ | ⟨g', cap', cur, h1, hB, hh, h2, h3, h4, h5⟩
  · cases h1
  · injection h1 with h1 _ hc
    injection h1 with h1
    injection h1 with h1
    subst h1 hc
    refine ⟨⟨cur, hh, h2, h3, h4, fun k hk => ?_⟩, hB⟩
    have := flat_at f n k hk
    rw [← h5] at this
    rw [List.getElem?_take_of_lt (by omega), List.getElem?_take_of_lt (by omega), List.getElem?_take_of_lt (by omega)] at this
    simpa using this
theorem own_of_row {w : World} {B g n cap : Nat} {f : Nat → Itm} (h : RRow w g cap n f) (hB : B ≤ g) : w.ownsRow B 86 3 (.slice (some ⟨g, 0, none⟩) n cap) n (flat f n) := by
  obtain ⟨cur, hh, h2, h3, h4, h5⟩ := h
  refine ⟨flatI_len f n, .inr ⟨g, cap, cur, rfl, hB, hh, h2, h3, h4, ?_⟩⟩
  refine flat_eq ?_ fun k hk => ?_
  · rw [List.length_take]; simp; omega
  · rw [List.getElem?_take_of_lt (by omega), List.getElem?_take_of_lt (by omega), List.getElem?_take_of_lt (by omega)]
    simpa using h5 k hk
end Go.Proofs.Ythjpknipnmagkaa
