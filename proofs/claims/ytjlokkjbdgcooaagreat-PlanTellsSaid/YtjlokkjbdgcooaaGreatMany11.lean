/-
  Several texts, one behind the other: what each holds stands ahead of it.
-/
import Derived.Test.YtjlokkjbdgcooaaGreatMany10
import Derived.Test.YtjlokkjbdgcooaaGreatAgMath
import Derived.Deep.QuietTactic
import Derived.StillTail
import Derived.Lib.QuietBelow

/-
  Templates as rows of a list. No code.
-/
namespace Go.Proofs.YtjlokkjbdgcooaaGreat
open Mo
open Go.RowKit

def tpls (l : List Tpl) : List Value := l.flatMap Tpl.cells
theorem Rd.tpls_len {w : World} {B n : Nat} {A : Option Addr} {l : List Tpl} (h : Rd w B 12 A n (tpls l)) : l.length = n := by
  have := h.1
  unfold tpls at this
  rw [flat_len (cells := Tpl.cells) (size := 12) fun _ => rfl] at this
  omega
/-- A template of a list that can be read, as a walk spells its cells. -/
theorem Rd.tpl {w : World} {B n i : Nat} {A : Option Addr} {l : List Tpl} (h : Rd w B 12 A n (tpls l)) (hi : i < n) :
    ∃ ad t, A = some ad ∧ ad.block < B ∧ l[i]? = some t ∧ (w.cell? (ad.add (i * 12)) = some (.int .i64 t.kind) ∧ w.cell? ⟨(ad.add (i * 12)).block, (ad.add (i * 12)).off + 1, none⟩ = some (.int .i64 t.id) ∧ w.cell? ⟨(ad.add (i * 12)).block, (ad.add (i * 12)).off + 2, none⟩ = some (.int .i64 t.ent) ∧
      w.cell? ⟨(ad.add (i * 12)).block, (ad.add (i * 12)).off + 3, none⟩ = some (.int .i64 t.frm) ∧ w.cell? ⟨(ad.add (i * 12)).block, (ad.add (i * 12)).off + 4, none⟩ = some (.int .i64 t.til) ∧ w.cell? ⟨(ad.add (i * 12)).block, (ad.add (i * 12)).off + 5, none⟩ = some (.int .i64 t.ev)) ∧
      w.cell? ⟨(ad.add (i * 12)).block, (ad.add (i * 12)).off + 6, none⟩ = some (.int .i64 t.amt) ∧ w.cell? ⟨(ad.add (i * 12)).block, (ad.add (i * 12)).off + 7, none⟩ = some (.int .i64 t.deb) ∧ w.cell? ⟨(ad.add (i * 12)).block, (ad.add (i * 12)).off + 8, none⟩ = some (.int .i64 t.cre) ∧
      w.cell? ⟨(ad.add (i * 12)).block, (ad.add (i * 12)).off + 9, none⟩ = some (.slice t.At t.tg.length t.ct) ∧ w.cell? ⟨(ad.add (i * 12)).block, (ad.add (i * 12)).off + 10, none⟩ = some (.slice t.Aw t.wt.length t.cw) ∧ w.cell? ⟨(ad.add (i * 12)).block, (ad.add (i * 12)).off + 11, none⟩ = some (.int .i64 t.rk) := by
  obtain ⟨ad, t, e, hb, hg, hk⟩ := Rd.flat (cells := Tpl.cells) (fun _ => rfl) h (by omega) hi
  exact ⟨ad, t, e, hb, hg, ⟨hk 0 _ rfl, cell_behind (hk 1 _ rfl) (by omega), cell_behind (hk 2 _ rfl) (by omega), cell_behind (hk 3 _ rfl) (by omega), cell_behind (hk 4 _ rfl) (by omega), cell_behind (hk 5 _ rfl) (by omega)⟩, cell_behind (hk 6 _ rfl) (by omega), cell_behind (hk 7 _ rfl) (by omega), cell_behind (hk 8 _ rfl) (by omega), cell_behind (hk 9 _ rfl) (by omega), cell_behind (hk 10 _ rfl) (by omega), cell_behind (hk 11 _ rfl) (by omega)⟩
/-- What is due in the periods P of the template that has the number i. -/
def tplP (i : Nat) (rk : Int) (P : List Int) : List Itm := P.map fun p => ⟨p, rk, i⟩
def tplI (i : Nat) (t : Tpl) : List Itm := tplP i t.rk (perT t)
/-- What is due of the first k. -/
def itemsK (l : List Tpl) : Nat → List Itm
  | 0 => []
  | k + 1 => itemsK l k ++ (match l[k]? with | some t => tplI k t | none => [])
theorem itemsK_succ {l : List Tpl} {k : Nat} {t : Tpl} (h : l[k]? = some t) : itemsK l (k + 1) = itemsK l k ++ tplI k t := by
  show itemsK l k ++ _ = _
  rw [h]
theorem tplP_step {i : Nat} {rk : Int} {P : List Int} {k : Nat} {p : Int} (h : P[k]? = some p) : (tplP i rk P).take (k + 1) = (tplP i rk P).take k ++ [⟨p, rk, i⟩] := by
  have h2 : (tplP i rk P)[k]? = some ⟨p, rk, i⟩ := by unfold tplP; rw [List.getElem?_map, h]; rfl
  obtain ⟨hk, e⟩ := List.getElem?_eq_some_iff.1 h2
  rw [List.take_succ_eq_append_getElem hk, e]
theorem tplP_len (i : Nat) (rk : Int) (P : List Int) : (tplP i rk P).length = P.length := by simp [tplP]
theorem putsI_app (L a b : List Itm) : putsI (putsI L a) b = putsI L (a ++ b) := by unfold putsI; rw [List.foldl_append]
theorem perT_le (t : Tpl) : (perT t).length ≤ 1200 := by
  unfold perT
  split
  · rename_i h
    rw [perL_len]
    exact perN_le h
  · simp
end Go.Proofs.YtjlokkjbdgcooaaGreat

/-
  The row of an agenda's heap in memory; what an exchange of two of its items leaves. No code.
-/
namespace Go.Proofs.YtjlokkjbdgcooaaGreat
open Go.RowKit

/-- The world behind an exchange of the two items at i and j. -/
def swapped (w : World) (g i j : Nat) (x y : Itm) : World :=
  (((((w.setCell ⟨g, i * 3, none⟩ (.int .i64 y.per)).setCell ⟨g, i * 3 + 1, none⟩ (.int .i64 y.rk)).setCell ⟨g, i * 3 + 2, none⟩ (.int .i64 y.id)).setCell ⟨g, j * 3, none⟩ (.int .i64 x.per)).setCell ⟨g, j * 3 + 1, none⟩ (.int .i64 x.rk)).setCell ⟨g, j * 3 + 2, none⟩ (.int .i64 x.id)

/-- The cells of n items. -/
def flat (f : Nat → Itm) (n : Nat) : List Value := itms (lst f n)
theorem flat_succ (f : Nat → Itm) (n : Nat) : flat f (n + 1) = flat f n ++ [.int .i64 (f n).per, .int .i64 (f n).rk, .int .i64 (f n).id] := by
  unfold flat; rw [lst_succ, itms_append]; rfl
theorem flatI_len (f : Nat → Itm) (n : Nat) : (flat f n).length = n * 3 := by unfold flat; rw [itms_len, lst_len]
theorem flat_at (f : Nat → Itm) (n k : Nat) (hk : k < n) : (flat f n)[k * 3]? = some (.int .i64 (f k).per) ∧ (flat f n)[k * 3 + 1]? = some (.int .i64 (f k).rk) ∧ (flat f n)[k * 3 + 2]? = some (.int .i64 (f k).id) :=
  itms_at _ _ _ (lst_get f hk)
theorem flat_eq {f : Nat → Itm} {n : Nat} {xs : List Value} (hl : xs.length = n * 3) (h : ∀ k, k < n → xs[k * 3]? = some (.int .i64 (f k).per) ∧ xs[k * 3 + 1]? = some (.int .i64 (f k).rk) ∧ xs[k * 3 + 2]? = some (.int .i64 (f k).id)) : xs = flat f n := by
  apply List.ext_getElem?
  intro m
  by_cases hm : m < n * 3
  · have h1 := h (m / 3) (by omega)
    have h2 := flat_at f n (m / 3) (by omega)
    rcases (show m = m / 3 * 3 ∨ m = m / 3 * 3 + 1 ∨ m = m / 3 * 3 + 2 by omega) with e | e | e
    · rw [e, h1.1, h2.1]
    · rw [e, h1.2.1, h2.2.1]
    · rw [e, h1.2.2, h2.2.2]
  · rw [List.getElem?_eq_none (by omega), List.getElem?_eq_none (by rw [flatI_len]; omega)]
theorem flat_congr {f g : Nat → Itm} {n : Nat} (h : ∀ k, k < n → f k = g k) : flat f n = flat g n := by unfold flat; rw [lst_congr h]

/-- The row of items in block g. -/
def RRow (w : World) (g cap n : Nat) (f : Nat → Itm) : Prop :=
  ∃ cur : Array Value, w.heap[g]? = some (.cells cur 71 (0, 0)) ∧ n ≤ cap ∧ cap ≤ maxLen ∧ cur.size = cap * 3 ∧
    ∀ k, k < n → cur[k * 3]? = some (.int .i64 (f k).per) ∧ cur[k * 3 + 1]? = some (.int .i64 (f k).rk) ∧ cur[k * 3 + 2]? = some (.int .i64 (f k).id)

theorem RRow.cells {w : World} {g cap n k : Nat} {f : Nat → Itm} (h : RRow w g cap n f) (hk : k < n) :
    w.cell? ⟨g, k * 3, none⟩ = some (.int .i64 (f k).per) ∧ w.cell? ⟨g, k * 3 + 1, none⟩ = some (.int .i64 (f k).rk) ∧ w.cell? ⟨g, k * 3 + 2, none⟩ = some (.int .i64 (f k).id) := by
  obtain ⟨cur, h1, _, _, _, h2⟩ := h
  obtain ⟨a, b, c⟩ := h2 k hk
  simp [World.cell?, h1, a, b, c]
theorem RRow.warm {w : World} {g cap n : Nat} {f : Nat → Itm} (h : RRow w g cap n f) : ∀ o, w.frozen? ⟨g, o, none⟩ = false := by
  obtain ⟨cur, h1, _⟩ := h
  intro o; simp [World.frozen?, h1]
theorem RRow.kept {w w' : World} {g cap n : Nat} {f : Nat → Itm} (h : RRow w g cap n f) (hk : w'.heap[g]? = w.heap[g]?) : RRow w' g cap n f := by
  obtain ⟨cur, h1, r⟩ := h
  exact ⟨cur, hk.trans h1, r⟩
theorem RRow.lt {w : World} {g cap n : Nat} {f : Nat → Itm} (h : RRow w g cap n f) : g < w.heap.size := by
  obtain ⟨cur, h1, r⟩ := h
  exact lt_of_blk h1
def set3 (a : Array Value) (p : Nat) (x : Itm) : Array Value := ((a.setIfInBounds p (.int .i64 x.per)).setIfInBounds (p + 1) (.int .i64 x.rk)).setIfInBounds (p + 2) (.int .i64 x.id)
theorem set3_size (a : Array Value) (p : Nat) (x : Itm) : (set3 a p x).size = a.size := by simp only [set3, Array.size_setIfInBounds]
theorem set3_out {a : Array Value} {p m : Nat} (x : Itm) (h : m < p ∨ p + 3 ≤ m) : (set3 a p x)[m]? = a[m]? := by
  unfold set3
  rw [Array.getElem?_setIfInBounds_ne (by omega), Array.getElem?_setIfInBounds_ne (by omega), Array.getElem?_setIfInBounds_ne (by omega)]
theorem set3_in {a : Array Value} {p : Nat} (x : Itm) (h : p + 3 ≤ a.size) : (set3 a p x)[p]? = some (.int .i64 x.per) ∧ (set3 a p x)[p + 1]? = some (.int .i64 x.rk) ∧ (set3 a p x)[p + 2]? = some (.int .i64 x.id) := by
  unfold set3
  refine ⟨?_, ?_, ?_⟩
  · rw [Array.getElem?_setIfInBounds_ne (by omega), Array.getElem?_setIfInBounds_ne (by omega), Array.getElem?_setIfInBounds_self_of_lt (by omega)]
  · rw [Array.getElem?_setIfInBounds_ne (by omega), Array.getElem?_setIfInBounds_self_of_lt (by rw [Array.size_setIfInBounds]; omega)]
  · rw [Array.getElem?_setIfInBounds_self_of_lt (by rw [Array.size_setIfInBounds, Array.size_setIfInBounds]; omega)]
theorem drew_heap (w : World) : w.drew.heap = w.heap := rfl
theorem grown_drew {a w : World} {row : Option Nat} (h : a.grownBy w row) : a.grownBy w.drew row := ⟨h.os, h.tape, h.output, h.size, h.block⟩
theorem swapped_heap {w : World} {g i j : Nat} {t : TypeId} {cur : Array Value} {x y : Itm} (h1 : w.heap[g]? = some (.cells cur t (0, 0))) : (swapped w g i j x y).drew.heap[g]? = some (.cells (set3 (set3 cur (i * 3) y) (j * 3) x) t (0, 0)) := by
  have e1 := set_here (i := i * 3) (u := .int .i64 y.per) h1
  have e2 := set_here (i := i * 3 + 1) (u := .int .i64 y.rk) e1
  have e3 := set_here (i := i * 3 + 2) (u := .int .i64 y.id) e2
  have e4 := set_here (i := j * 3) (u := .int .i64 x.per) e3
  have e5 := set_here (i := j * 3 + 1) (u := .int .i64 x.rk) e4
  have e6 := set_here (i := j * 3 + 2) (u := .int .i64 x.id) e5
  rw [drew_heap]
  unfold swapped set3
  exact e6
theorem swapped_row {w : World} {g cap n i j : Nat} {f : Nat → Itm} (h : RRow w g cap n f) (hi : i < n) (hj : j < n) : RRow (swapped w g i j (f i) (f j)).drew g cap n (Hp.swap f i j) := by
  obtain ⟨cur, h1, h2, h3, h4, h5⟩ := h
  refine ⟨_, swapped_heap h1, h2, h3, by rw [set3_size, set3_size]; exact h4, fun k hk => ?_⟩
  have hk5 := h5 k hk
  by_cases ej : k = j
  · subst ej
    rw [Hp.swap_r]
    exact set3_in _ (show k * 3 + 3 ≤ (set3 cur (i * 3) (f k)).size by rw [set3_size]; omega)
  · rw [set3_out _ (show k * 3 < j * 3 ∨ j * 3 + 3 ≤ k * 3 by omega), set3_out _ (show k * 3 + 1 < j * 3 ∨ j * 3 + 3 ≤ k * 3 + 1 by omega), set3_out _ (show k * 3 + 2 < j * 3 ∨ j * 3 + 3 ≤ k * 3 + 2 by omega)]
    by_cases ei : k = i
    · subst ei
      rw [Hp.swap_l]
      exact set3_in _ (show k * 3 + 3 ≤ cur.size by omega)
    · rw [Hp.swap_o f i j k ei ej, set3_out _ (show k * 3 < i * 3 ∨ i * 3 + 3 ≤ k * 3 by omega), set3_out _ (show k * 3 + 1 < i * 3 ∨ i * 3 + 3 ≤ k * 3 + 1 by omega), set3_out _ (show k * 3 + 2 < i * 3 ∨ i * 3 + 3 ≤ k * 3 + 2 by omega)]
      exact hk5
theorem grown_set (w : World) (g o : Nat) (v : Value) : w.grownBy (w.setCell ⟨g, o, none⟩ v) (some g) :=
  ⟨rfl, rfl, rfl, by simp [World.setCell], fun k _ hne => Below.heap_setCell _ _ _ _ fun e => hne (by rw [e])⟩
theorem swapped_kept {w : World} {g i j : Nat} {x y : Itm} : w.grownBy (swapped w g i j x y).drew (some g) := by
  have h : w.grownBy (swapped w g i j x y) (some g) := by
    unfold swapped
    have e1 := grown_set w g (i * 3) (.int .i64 y.per)
    have e2 := e1.trans (grown_set _ g (i * 3 + 1) (.int .i64 y.rk))
    have e3 := e2.trans (grown_set _ g (i * 3 + 2) (.int .i64 y.id))
    have e4 := e3.trans (grown_set _ g (j * 3) (.int .i64 x.per))
    have e5 := e4.trans (grown_set _ g (j * 3 + 1) (.int .i64 x.rk))
    exact e5.trans (grown_set _ g (j * 3 + 2) (.int .i64 x.id))
  exact grown_drew h

theorem infoItm : (Tryz.prog.info? 71).map (fun i => (i.zero, i.size, i.bytes)) = some (some (.agg #[.int .i64 0, .int .i64 0, .int .i64 0]), 3, 24) := by kernel_rfl
theorem row_of_own {w : World} {B g n cap : Nat} {f : Nat → Itm} (h : w.ownsRow B 71 3 (.slice (some ⟨g, 0, none⟩) n cap) n (flat f n)) : RRow w g cap n f ∧ B ≤ g := by
  rcases h.2 with ⟨h1, _⟩ | ⟨g', cap', cur, h1, hB, hh, h2, h3, h4, h5⟩
  · cases h1
  · injection h1 with h1 _ hc
    injection h1 with h1
    injection h1 with h1
    subst h1 hc
    refine ⟨⟨cur, hh, h2, h3, h4, fun k hk => ?_⟩, hB⟩
    have := flat_at f n k hk
    rw [← h5] at this
    rw [List.getElem?_take_of_lt (by omega), List.getElem?_take_of_lt (by omega), List.getElem?_take_of_lt (by omega)] at this
    simpa using this
theorem own_of_row {w : World} {B g n cap : Nat} {f : Nat → Itm} (h : RRow w g cap n f) (hB : B ≤ g) : w.ownsRow B 71 3 (.slice (some ⟨g, 0, none⟩) n cap) n (flat f n) := by
  obtain ⟨cur, hh, h2, h3, h4, h5⟩ := h
  refine ⟨flatI_len f n, .inr ⟨g, cap, cur, rfl, hB, hh, h2, h3, h4, ?_⟩⟩
  refine flat_eq ?_ fun k hk => ?_
  · rw [List.length_take]; simp; omega
  · rw [List.getElem?_take_of_lt (by omega), List.getElem?_take_of_lt (by omega), List.getElem?_take_of_lt (by omega)]
    simpa using h5 k hk
end Go.Proofs.YtjlokkjbdgcooaaGreat

/-
  A region that draws its order: operations that are quiet in a class of worlds, behind them a tail whose order is forced. Of no program.
-/
namespace Go.Proofs.YtjlokkjbdgcooaaGreat
open Go Go.RowKit Go.Sort

section
variable {P : Program} {ops : Array Oper} {md : Region.Mode} {C : World → Prop}

/-- So many of the first n operations are still to come, each quiet, whichever comes next; then L. -/
def Heads (P : Program) (md : Region.Mode) (ops : Array Oper) (C : World → Prop) (n : Nat) (L : Array Bool → Act → Prop) : Nat → Array Bool → Act → Prop
  | 0, done, a => L done a
  | f + 1, done, a => Region.ready md ops done ≠ [] ∧ ∀ i ∈ Region.ready md ops done, i < n ∧ qOp P ops C i (Heads P md ops C n L f (done.setIfInBounds i true)) a

theorem Heads.any {n g : Nat} {L : Array Bool → Act → Prop} {Q : Exit → Act → World → Prop} (hL : ∀ done a w, C w → L done a → wpAny P md ops Q g done a w) : ∀ (f : Nat) (done : Array Bool) (a : Act) (w : World), C w → Heads P md ops C n L f done a → wpAny P md ops Q (f + g) done a w
  | 0, done, a, w, hw, h => by rw [Nat.zero_add]; exact hL _ _ _ hw h
  | f + 1, done, a, w, hw, h => by
    rw [show f + 1 + g = (f + g) + 1 by omega]
    exact ⟨fun h0 => absurd h0 h.1, fun i hi => wpOp_of_qOp hw (fun a' w' hw' h' => Heads.any hL f _ a' w' hw' h') (h.2 i hi).2⟩

theorem Heads.first {n i : Nat} {oi : Oper} {v : Value} {L : Array Bool → Act → Prop} (hi : ops[i]? = some oi) (hsel : ∀ (j : Nat) (o : Oper) cs b, ops[j]? = some o → o.op ≠ .select cs b)
    (hs : Region.sinkB md ops n = true) (hc : Region.chainB md ops n = true) (hn : n < ops.size) (hin : i < n) (hend : ∀ done a, L done a → ∀ j ∈ Region.ready md ops done, n ≤ j) (f : Nat) :
    ∀ (done : Array Bool) (a : Act), HeadInv md ops n done →
      (∀ j oj, ops[j]? = some oj → j ≠ i → done.getD j true = false → (∀ e ∈ oj.after, Region.binds md e = true → e.on ≠ i) → oi.apart ops oj = true) →
      i ∈ Region.ready md ops done → YieldsIn P ops C oi v a →
      Heads P md ops C n L f (done.setIfInBounds i true) (a.put oi.dst v) → Heads P md ops C n L (f + 1) done a := by
  induction f with
  | zero =>
    intro done a inv _ hr hy H
    have hun := (mem_ready.1 hr).1
    refine ⟨List.ne_nil_of_mem hr, fun j hj => ?_⟩
    have hjn : j < n := Nat.lt_of_not_le fun h => tail_waits hs hc hn inv _ i rfl hin hun j h hj
    refine ⟨hjn, ?_⟩
    by_cases e : j = i
    · rw [e]; exact hy.qOp hi H
    · exact absurd (hend _ _ H j (ready_mono hj e)) (by omega)
  | succ f ih =>
    intro done a inv hfree hr hy H
    have hun := (mem_ready.1 hr).1
    refine ⟨List.ne_nil_of_mem hr, fun j hj => ?_⟩
    have hjn : j < n := Nat.lt_of_not_le fun h => tail_waits hs hc hn inv _ i rfl hin hun j h hj
    refine ⟨hjn, ?_⟩
    by_cases e : j = i
    · rw [e]; exact hy.qOp hi H
    have h1 := (H.2 j (ready_mono hj e)).2
    obtain ⟨hjun, oj, hoj, hall⟩ := mem_ready.1 hj
    have hap := hfree j oj hoj e hjun fun x hx hb hxi => by
      have h2 := hall x hx hb
      rw [hxi, getD_both hun] at h2
      cases h2
    refine qOp_mono (fun a' h3 => ih _ a' (inv.set hj hjn) (fun k ok hk hki hku hno => hfree k ok hk hki ?_ hno) (ready_mono hr (Ne.symm e)) h3.1 ?_) (qOp_put hoj hap (fun cs b => hsel i oi cs b hi) (fun cs b => hsel j oj cs b hoj) hy h1)
    · by_cases hjk : j = k
      · rw [← hjk]; exact hjun
      · rwa [getD_set_ne true hjk] at hku
    · rw [Array.setIfInBounds_comm _ _ e]
      exact h3.2

theorem Heads.lex {n g : Nat} {R : Act → Prop} (hsel : Region.noSelect ops = true) (hs : Region.sinkB md ops n = true) (hc : Region.chainB md ops n = true) (hn : n < ops.size) :
    ∀ (l : List Oper) (k : Nat) (done : Array Bool) (a : Act), (∀ j, j < l.length → l[j]? = ops[k + j]?) → k + l.length = n → HeadInv md ops n done → Region.lexHead md ops g l.length k done = true → wpQuiet P ops C R l a →
    Heads P md ops C n (fun done' a' => Region.seqB md ops g n done' = true ∧ R a') l.length done a
  | [], k, done, a, _, hk, _, hB, h => by
    obtain rfl : k = n := by simpa using hk
    exact ⟨by simpa [Region.lexHead] using hB, h⟩
  | o :: l, k, done, a, hl, hk, inv, hB, h => by
    rw [List.length_cons] at hk
    have h0 : ops[k]? = some o := by simpa using (hl 0 (by simp)).symm
    simp only [List.length_cons, Region.lexHead, Bool.and_eq_true] at hB
    have hr : k ∈ Region.ready md ops done := by simpa using hB.1.1
    have hq : qOp P ops C k (wpQuiet P ops C R l) a := by unfold qOp; simp only [h0]; exact h
    obtain ⟨v, hy, hK⟩ := yieldsIn_of_qOp h0 hq
    refine Heads.first h0 (Region.noSelect_spec hsel) hs hc hn (by omega) (fun _ _ hL => seqB_ready hL.1) l.length done a inv (Region.free_spec h0 hB.1.2) hr hy (Heads.lex hsel hs hc hn l (k + 1) _ _ (fun j hj => ?_) (by omega) (inv.set hr (by omega)) hB.2 hK)
    have := hl (j + 1) (by simp; omega)
    rw [show k + 1 + j = k + (j + 1) by omega]
    simpa using this

/-- The first n operations are quiet in the class, what stands behind them goes in its order from whatever world of the class. -/
theorem wp_region_quiet_tail {id : Nat} {Q : Exit → Act → World → Prop} {a : Act} {w : World} {l : List Oper} (n : Nat) (hm : P.follows .mixedOrders = true) (hB : Region.lexTailB .any l.toArray n = true) (hC : C { w with drawn := w.drawn + 1 })
    (h : wpQuiet P l.toArray C (fun a' => ∀ w', C w' → wpList P l.toArray Q (l.drop n) a' w') (l.take n) a) : (Code.region id l.toArray true).wp P Q a w := by
  simp only [Region.lexTailB, Bool.and_eq_true, decide_eq_true_eq] at hB
  obtain ⟨⟨⟨⟨hsel, hn⟩, hs⟩, hc⟩, hlex⟩ := hB
  have hn' : n < l.length := by simpa using hn
  have htl : (l.take n).length = n := by simp; omega
  have hdl : (l.drop n).length = l.toArray.size - n := by simp
  have inv : HeadInv .any l.toArray n (Array.replicate l.toArray.size false) :=
    ⟨by simp, fun j oj _ hl => (by rw [getD_replicate_false] at hl; cases hl), fun t _ ht => getD_in (by simpa using ht) (getD_replicate_false _ _)⟩
  have H := Heads.lex (g := l.toArray.size - n) hsel hs hc hn (l.take n) 0 _ a (fun j hj => by rw [htl] at hj; simp [hj]) (by simpa using htl) inv (by rw [htl]; exact hlex) h
  refine wp_region_any hm ?_
  have := Heads.any (Q := Q) (g := l.toArray.size - n) (fun done a' w' hw' hL => by
    have := wpAny_of_seq (md := .any) (Q' := Q) (l.drop n) n done a' w' (fun j => by simp [List.getElem?_drop]) (by rw [hdl]; exact hL.1) (hL.2 w' hw')
    rwa [hdl] at this) _ _ _ _ hC H
  rw [htl, show n + (l.toArray.size - n) = l.toArray.size by omega] at this
  exact this
end

/-- At the class 'blocks laid behind, draws'. -/
theorem wp_region_below_tail {P : Program} {id : Nat} {Q : Exit → Act → World → Prop} {a : Act} {w : World} {l : List Oper} (n : Nat) (hm : P.follows .mixedOrders = true) (hB : Region.lexTailB .any l.toArray n = true)
    (h : wpQuiet P l.toArray (fun w' => ∃ p : Regrown, w' = grow (redrawn w p.d) p.os) (fun a' => ∀ w', (∃ p : Regrown, w' = grow (redrawn w p.d) p.os) → wpList P l.toArray Q (l.drop n) a' w') (l.take n) a) : (Code.region id l.toArray true).wp P Q a w :=
  wp_region_quiet_tail (C := fun w' => ∃ p : Regrown, w' = grow (redrawn w p.d) p.os) n hm hB ⟨⟨w.drawn + 1, #[]⟩, by rw [grow_empty]; rfl⟩ h
/-- At the class 'draws'. -/
theorem wp_region_drew_tail {P : Program} {id : Nat} {Q : Exit → Act → World → Prop} {a : Act} {w : World} {l : List Oper} (n : Nat) (hm : P.follows .mixedOrders = true) (hB : Region.lexTailB .any l.toArray n = true)
    (h : wpQuiet P l.toArray (fun w' => ∃ q, w' = w.drewN q) (fun a' => ∀ w', (∃ q, w' = w.drewN q) → wpList P l.toArray Q (l.drop n) a' w') (l.take n) a) : (Code.region id l.toArray true).wp P Q a w :=
  wp_region_quiet_tail (C := fun w' => ∃ q, w' = w.drewN q) n hm hB ⟨1, rfl⟩ h
/-- A callee's contract that ends in 'Below', in whatever world of the class. -/
theorem regrown_calls {P : Program} {f : FuncId} {args : Array Value} {w : World} {v : Value} (h : ∀ w1, Below w.heap.size w w1 → Calls P f args w1 fun e w' => e = .returned v ∧ Below w1.heap.size w1 w') (d : Nat) (os : Array Obj) :
    Calls P f args (grow (redrawn w d) os) fun e w'' => e = .returned v ∧ ∃ p : Regrown, w'' = grow (redrawn w p.d) p.os :=
  Calls.regrown_of (h _ (below_regrown w d os))
end Go.Proofs.YtjlokkjbdgcooaaGreat
