/-
  Several texts, one behind the other: what each holds stands ahead of it.
-/
import Derived.Test.YtmgncoialppmpaaGreatMany23
import Derived.Test.YtmgncoialppmpaaGreatMany30
import Derived.Test.YtmgncoialppmpaaGreatRulesMake7
import Derived.Test.YtmgncoialppmpaaGreatMany2
import Derived.Deep.Slices
import Derived.ChangeArms
import Derived.OpenShut
import Derived.Test.YtmgncoialppmpaaGreatMany16
import Derived.Test.YtmgncoialppmpaaGreatMany4
import Derived.Lib.SmallJoins
import Derived.Test.YtmgncoialppmpaaGreatMany11
import Derived.Test.YtmgncoialppmpaaGreatMany12
import Derived.Test.YtmgncoialppmpaaGreatRulesRev

/-
  What stays where gates, or a chart, are written; a journal of a book is found by its number.
-/
namespace Go.Proofs.YtmgncoialppmpaaGreat
open Go.RowKit

section
variable {w w' : World} {c g b B : Nat} {C C2 : List Acc} {G G2 : List Trio} {v : Value}
theorem gates_box {k : Nat} {cs : Array Value} {T : TypeId} (hT : GatesAt w B g v G) (hto : GatesTo w B g v G2 w') (hb : w.heap[k]? = some (.cells cs T (0, 0))) (h1 : 117 ≠ T) (h2 : 113 ≠ T) : w'.heap[k]? = some (.cells cs T (0, 0)) := by
  obtain ⟨v', _, k3, _⟩ := hto
  refine (k3.block k (lt_of_blk hb) ?_).trans hb
  rintro (rfl | e)
  · have := hb.symm.trans hT.blk
    simp at this
    exact h1 this.2.symm
  · exact own_ne hT.own hb h2 e
theorem gates_lins {A : Option Addr} {n k m : Nat} {xs : List Value} (hT : GatesAt w B g v G) (hto : GatesTo w B g v G2 w') (h : w.ownsRow m 64 3 (.slice A n k) n xs) : w'.ownsRow m 64 3 (.slice A n k) n xs := by
  obtain ⟨v', _, k3, _⟩ := hto
  refine own_kept h fun k hk hi => k3.block k hk ?_
  rintro (rfl | e)
  · exact own_ne h hT.blk (by decide) hi
  · exact own_own_ne h hT.own (by decide) k hi e
theorem gates_bel {w0 : World} (hT : GatesAt w B g v G) (hto : GatesTo w B g v G2 w') (h0 : w0.heap.size ≤ B) (hb : Below w0.heap.size w0 w) : Below w0.heap.size w0 w' := by
  obtain ⟨v', _, k3, _⟩ := hto
  refine hb.trans (k3.below (fun k _ hi => ?_) hb.size)
  rcases hi with rfl | e
  · have := hT.low; omega
  · have := own_ge hT.own k e; omega
theorem chart_box {k : Nat} {cs : Array Value} {T : TypeId} (hT : ChartAt w B c v C) (hto : ChartTo w B c v C2 w') (hb : w.heap[k]? = some (.cells cs T (0, 0))) (h1 : 159 ≠ T) (h2 : 112 ≠ T) : w'.heap[k]? = some (.cells cs T (0, 0)) := by
  obtain ⟨v', _, k3, _⟩ := hto
  refine (k3.block k (lt_of_blk hb) ?_).trans hb
  rintro (rfl | e)
  · have := hb.symm.trans hT.blk
    simp at this
    exact h1 this.2.symm
  · exact own_ne hT.own hb h2 e
theorem chart_lins {A : Option Addr} {n k m : Nat} {xs : List Value} (hT : ChartAt w B c v C) (hto : ChartTo w B c v C2 w') (h : w.ownsRow m 64 3 (.slice A n k) n xs) : w'.ownsRow m 64 3 (.slice A n k) n xs := by
  obtain ⟨v', _, k3, _⟩ := hto
  refine own_kept h fun k hk hi => k3.block k hk ?_
  rintro (rfl | e)
  · exact own_ne h hT.blk (by decide) hi
  · exact own_own_ne h hT.own (by decide) k hi e
theorem chart_bel {w0 : World} (hT : ChartAt w B c v C) (hto : ChartTo w B c v C2 w') (h0 : w0.heap.size ≤ B) (hb : Below w0.heap.size w0 w) : Below w0.heap.size w0 w' := by
  obtain ⟨v', _, k3, _⟩ := hto
  refine hb.trans (k3.below (fun k _ hi => ?_) hb.size)
  rcases hi with rfl | e
  · have := hT.low; omega
  · have := own_ge hT.own k e; omega
end
theorem oldJ_self {M : List Jrn} {j : Jrn} (h : Rise Jrn.id M) (hj : j ∈ M) : oldJ M j.id = j := by
  obtain ⟨i, hi⟩ := List.mem_iff_getElem?.1 hj
  unfold oldJ
  rw [findK_of h hi]
  rfl
theorem idxW_any (k : Int) {n : Nat} (hn : 0 < n) (h30 : n ≤ 1000) : ∃ i : Nat, i < n ∧ (wrap64 (k.tmod (n : Int) + n)).tmod (n : Int) = (i : Int) := by
  have h1 := Int.tmod_lt_of_pos k (b := (n : Int)) (by omega)
  have h2 : -(n : Int) < k.tmod n := by
    have := Int.lt_tmod_of_pos k (b := (n : Int)) (by omega)
    omega
  rw [show wrap64 (k.tmod (n : Int) + n) = k.tmod (n : Int) + n from by unfold wrap64; omega]
  refine ⟨((k.tmod (n : Int) + n).tmod (n : Int)).toNat, ?_, ?_⟩
  · have h3 := Int.tmod_lt_of_pos (k.tmod (n : Int) + n) (b := (n : Int)) (by omega)
    have h4 := Int.tmod_nonneg (a := k.tmod (n : Int) + n) (n : Int) (by omega)
    omega
  · have h4 := Int.tmod_nonneg (a := k.tmod (n : Int) + n) (n : Int) (by omega)
    omega
theorem made_q {l0 : List Acc} {l1 : List Trio} {n2 : Nat} {w w' : World} {c g b : Nat} {C : List Acc} {G : List Trio} {l r : List JR} {Ac Ag Ab : Option Addr} (h : Made l0 l1 n2 w c g b C G l r Ac Ag Ab w') : QRd w' w'.heap.size C G r Ac Ag Ab :=
  ⟨h.rdC, h.rdG, h.rdM, by have := h.lenC; omega, h.goodG, h.goodM, h.lenM⟩
end Go.Proofs.YtmgncoialppmpaaGreat

/-
  What came in, read as lists: slices of integers, of strings, of structs whose fields are plain. No code.
-/
namespace Go.Proofs.YtmgncoialppmpaaGreat
open Go.RowKit

/-- A slice that came in: it reads as the cells of l, 'size' an element. -/
structure ArgRd {α : Type} (cells : α → List Value) (size : Nat) (WF : α → Prop) (w : World) (A : Option Addr) (n c : Nat) (l : List α) : Prop where
  rd : Rd w w.heap.size size A n (l.flatMap cells)
  len : n ≤ maxLen
  cap : n ≤ c
  wf : ∀ a ∈ l, WF a
  nil : A = none → c = 0

theorem cells_flat {α : Type} {cells : α → List Value} {size : Nat} (hlen : ∀ a, (cells a).length = size) {w : World} {ad : Addr} : ∀ (l : List α) (o : Nat),
    (∀ (i : Nat) (a : α), l[i]? = some a → ∀ r, r < size → w.cell? (ad.add (o + i * size + r)) = (cells a)[r]?) → ∀ (j : Nat) (u : Value), (l.flatMap cells)[j]? = some u → w.cell? (ad.add (o + j)) = some u
  | [], o, _, j, u, h => by simp at h
  | b :: l, o, hc, j, u, h => by
    rw [List.flatMap_cons] at h
    by_cases hj : j < size
    · rw [List.getElem?_append_left (by rw [hlen]; exact hj)] at h
      have := hc 0 b (by simp) j hj
      rw [Nat.zero_mul, Nat.add_zero] at this
      rw [this, h]
    · rw [List.getElem?_append_right (by rw [hlen]; omega), hlen] at h
      have := cells_flat hlen l (o + size) (fun i a ha r hr => by
        have := hc (i + 1) a (by simpa using ha) r hr
        rw [show o + size + i * size + r = o + (i + 1) * size + r by rw [Nat.add_mul]; omega]; exact this) (j - size) u h
      rwa [show o + size + (j - size) = o + j by omega] at this

theorem flat_len {α : Type} {cells : α → List Value} {size : Nat} (hlen : ∀ a, (cells a).length = size) : ∀ l : List α, (l.flatMap cells).length = l.length * size
  | [] => by simp
  | a :: l => by rw [List.flatMap_cons, List.length_append, hlen, flat_len hlen l, List.length_cons, Nat.add_mul]; omega

theorem argRd_of_trod {H : Type} {enc : TypeId × Value → H} {P : Program} {w : World} {base : Nat} {spare : Nat → Bool} {held : Bool} {t e : TypeId} {fuel : Nat} {A : Option Addr} {n c : Nat} {x : DataW H × List MemPlace}
    {α : Type} [Inhabited α] (cells : α → List Value) (size : Nat) (WF : α → Prop) (ht : P.underlying t = some (.slice e)) (hc : P.cellsOf e = size) (hs : 0 < size) (hlen : ∀ a, (cells a).length = size)
    (hel : ∀ (m : Nat) (cs : List Value) (y : DataW H × List MemPlace), DataW.trod enc P w base spare held m e cs = some y → ∃ a, cs = cells a ∧ WF a)
    (h : DataW.trod enc P w base spare held fuel t (Value.cells (.slice A n c)).toList = some x) : ∃ l : List α, ArgRd cells size WF w A n c l := by
  rcases Go.Deep.open_slice ht h with ⟨hcs, _⟩ | ⟨a, len, cap, m, q, D, Pl, hcs, _, hl, hm, hmm, _, hx⟩
  · simp [Value.cells] at hcs
    obtain ⟨rfl, rfl, rfl⟩ := hcs
    exact ⟨[], ⟨Rd.nil_, by unfold maxLen; omega, Nat.le_refl _, by simp, fun _ => rfl⟩⟩
  · simp [Value.cells] at hcs
    obtain ⟨rfl, rfl, rfl⟩ := hcs
    have hlm : n ≤ m := by rw [hmm]; split <;> omega
    have key : ∀ i, i < n → ∃ b : α, WF b ∧ ∀ r, r < size → w.cell? ((a.add (i * size)).add r) = (cells b)[r]? := by
      intro i hi
      obtain ⟨cs', h1, h2⟩ := hx i (by omega)
      obtain ⟨b, rfl, hb⟩ := hel q cs' _ h2
      rw [hc] at h1
      exact ⟨b, hb, (World.cells?_some h1).2.2⟩
    obtain ⟨f, hf⟩ := Go.Deep.choose_lt key
    refine ⟨(List.range n).map f, ⟨⟨by rw [flat_len hlen]; simp, fun hn => ⟨a, rfl, ?_, ?_⟩⟩, by omega, hl, ?_, fun h => by cases h⟩⟩
    · have h0 := (hf 0 hn).2 0 hs
      have hq : 0 < (cells (f 0)).length := by rw [hlen]; exact hs
      rw [List.getElem?_eq_getElem hq] at h0
      have := block_of_cell h0
      rwa [add_block, add_block] at this
    · intro j u hu
      have := cells_flat hlen (ad := a) (w := w) ((List.range n).map f) 0 (fun i b hb r hr => by
        rw [List.getElem?_map] at hb
        cases hq : (List.range n)[i]? with
        | none => rw [hq] at hb; cases hb
        | some i' =>
          rw [hq] at hb
          simp at hb
          obtain ⟨h3, h4⟩ := List.getElem?_eq_some_iff.1 hq
          simp at h3 h4
          subst h4
          have := (hf i h3).2 r hr
          rw [add_add] at this
          rw [Nat.zero_add, this, hb]) j u hu
      rwa [Nat.zero_add] at this
    · intro b hb
      obtain ⟨i, hi, rfl⟩ := List.mem_map.1 hb
      exact (hf i (List.mem_range.1 hi)).1

def i64ok (n : Int) : Prop := -9223372036854775808 ≤ n ∧ n ≤ 9223372036854775807
theorem ints_flat (l : List Int) : l.flatMap (fun n => [Value.int .i64 n]) = ints .i64 l := by
  induction l with
  | nil => rfl
  | cons a l ih => rw [List.flatMap_cons, ih]; rfl
theorem ArgRd.ints {w : World} {A : Option Addr} {n c : Nat} {l : List Int} (h : ArgRd (fun n => [Value.int .i64 n]) 1 i64ok w A n c l) : Rd w w.heap.size 1 A n (ints .i64 l) := by
  have := h.rd; rwa [ints_flat] at this
theorem argInts {H : Type} {enc : TypeId × Value → H} {w : World} {base : Nat} {spare : Nat → Bool} {held : Bool} {fuel : Nat} {A : Option Addr} {n c : Nat} {x : DataW H × List MemPlace}
    (h : DataW.trod enc Tryz.prog w base spare held fuel 53 (Value.cells (.slice A n c)).toList = some x) : ∃ l : List Int, ArgRd (fun n => [Value.int .i64 n]) 1 i64ok w A n c l :=
  argRd_of_trod _ 1 i64ok Tryz.underlying53 (by kernel_rfl) (by omega) (fun _ => rfl) (fun m cs y hy => by
    obtain ⟨n, rfl, _, hw⟩ := DataW.trod_int Tryz.underlying3 hy
    exact ⟨n, rfl, bounds_i64 hw⟩) h
/-- A part of a struct. -/
theorem part_at {H : Type} {enc : TypeId × Value → H} {P : Program} {w : World} {base : Nat} {spare : Nat → Bool} {held : Bool} {m i : Nat} {xs : List (DataW H × List MemPlace)} {f : TypeId} {k : Nat} {cs : List Value} (hk : P.cellsOf f = k)
    (h : DataW.trod enc P w base spare held m f (cs.take (P.cellsOf f)) = xs[i]?) (hi : i < xs.length) : ∃ y, DataW.trod enc P w base spare held m f (cs.take k) = some y := by
  rw [hk, List.getElem?_eq_getElem hi] at h
  exact ⟨_, h⟩
/-- An element of a slice of structs. -/
theorem Rd.flat {α : Type} {cells : α → List Value} {size : Nat} (hlen : ∀ a, (cells a).length = size) {w : World} {B n i : Nat} {A : Option Addr} {l : List α} (h : Rd w B size A n (l.flatMap cells)) (hs : 0 < size) (hi : i < n) :
    ∃ ad a, A = some ad ∧ ad.block < B ∧ l[i]? = some a ∧ ∀ r u, (cells a)[r]? = some u → w.cell? (ad.add (i * size + r)) = some u := by
  obtain ⟨ad, e, hb, hc⟩ := h.2 (by omega)
  have hl : l.length = n := by
    have := h.1
    rw [flat_len hlen] at this
    exact Nat.eq_of_mul_eq_mul_right hs this
  refine ⟨ad, l[i]'(by omega), e, hb, List.getElem?_eq_getElem (by omega), fun r u hu => hc _ u ?_⟩
  have hr : r < size := by rw [← hlen (l[i]'(by omega))]; exact (List.getElem?_eq_some_iff.1 hu).1
  clear hc hb e h
  induction l generalizing i n with
  | nil => simp at hl; omega
  | cons b l ih =>
    rw [List.flatMap_cons]
    cases i with
    | zero =>
      rw [Nat.zero_mul, Nat.zero_add, List.getElem?_append_left (by rw [hlen]; exact hr)]
      exact hu
    | succ i =>
      rw [List.getElem?_append_right (by rw [hlen, Nat.add_mul]; omega), hlen, show (i + 1) * size + r - size = i * size + r by rw [Nat.add_mul]; omega]
      exact ih (n := n - 1) (i := i) (by omega) (by simp at hl; omega) (by simpa using hu)
end Go.Proofs.YtmgncoialppmpaaGreat

/-
  Slices of accounts that came in.
-/
namespace Go.Proofs.YtmgncoialppmpaaGreat
open Go.RowKit

instance : Inhabited Acc := ⟨⟨0, 0, false⟩⟩
def Acc.wf (a : Acc) : Prop := i64ok a.code ∧ i64ok a.kind
set_option maxRecDepth 100000 in
theorem argAccs {H : Type} {enc : TypeId × Value → H} {w : World} {base : Nat} {spare : Nat → Bool} {held : Bool} {fuel : Nat} {A : Option Addr} {n c : Nat} {x : DataW H × List MemPlace}
    (h : DataW.trod enc Tryz.prog w base spare held fuel 22 (Value.cells (.slice A n c)).toList = some x) : ∃ l : List Acc, ArgRd Acc.cells 3 Acc.wf w A n c l :=
  argRd_of_trod _ 3 Acc.wf Tryz.underlying22 (by kernel_rfl) (by omega) (fun _ => rfl) (fun m cs y hy => by
    obtain ⟨xs, q, _, _, hl, hx, hf⟩ := DataW.trod_struct Tryz.underlying112 hy
    have hl : cs.length = 3 := hl.trans (by kernel_rfl)
    have hx : xs.length = 3 := hx
    match cs, hl with
    | [c0, c1, c2], _ =>
      obtain ⟨y0, h0⟩ := part_at (k := 1) (by kernel_rfl) (hf 0 _ rfl) (by omega)
      obtain ⟨y1, h1⟩ := part_at (k := 1) (by kernel_rfl) (hf 1 _ rfl) (by omega)
      obtain ⟨y2, h2⟩ := part_at (k := 1) (by kernel_rfl) (hf 2 _ rfl) (by omega)
      obtain ⟨n0, e0, _, w0⟩ := DataW.trod_int Tryz.underlying3 h0
      obtain ⟨n1, e1, _, w1⟩ := DataW.trod_int Tryz.underlying3 h1
      obtain ⟨b2, e2, _⟩ := DataW.trod_bool Tryz.underlying4 h2
      simp at e0 e1 e2
      subst e0 e1 e2
      exact ⟨⟨n0, n1, b2⟩, rfl, bounds_i64 w0, bounds_i64 w1⟩) h
end Go.Proofs.YtmgncoialppmpaaGreat

/-
  A journal that came in.
-/
namespace Go.Proofs.YtmgncoialppmpaaGreat
open Go.RowKit

instance : Inhabited Lin := ⟨⟨0, 0, 0⟩⟩
set_option maxRecDepth 100000 in
theorem argLins {H : Type} {enc : TypeId × Value → H} {w : World} {base : Nat} {spare : Nat → Bool} {held : Bool} {fuel : Nat} {A : Option Addr} {n c : Nat} {x : DataW H × List MemPlace}
    (h : DataW.trod enc Tryz.prog w base spare held fuel 27 (Value.cells (.slice A n c)).toList = some x) : ∃ l : List Lin, ArgRd Lin.cells 3 Lin.ok64 w A n c l :=
  argRd_of_trod _ 3 Lin.ok64 Tryz.underlying27 (by kernel_rfl) (by omega) (fun _ => rfl) (fun m cs y hy => by
    obtain ⟨xs, q, _, _, hl, hx, hf⟩ := DataW.trod_struct Tryz.underlying64 hy
    have hl : cs.length = 3 := hl.trans (by kernel_rfl)
    have hx : xs.length = 3 := hx
    match cs, hl with
    | [c0, c1, c2], _ =>
      obtain ⟨y0, h0⟩ := part_at (k := 1) (by kernel_rfl) (hf 0 _ rfl) (by omega)
      obtain ⟨y1, h1⟩ := part_at (k := 1) (by kernel_rfl) (hf 1 _ rfl) (by omega)
      obtain ⟨y2, h2⟩ := part_at (k := 1) (by kernel_rfl) (hf 2 _ rfl) (by omega)
      obtain ⟨n0, e0, _, w0⟩ := DataW.trod_int Tryz.underlying3 h0
      obtain ⟨n1, e1, _, w1⟩ := DataW.trod_int Tryz.underlying3 h1
      obtain ⟨n2, e2, _, w2⟩ := DataW.trod_int Tryz.underlying3 h2
      simp at e0 e1 e2
      subst e0 e1 e2
      exact ⟨⟨n0, n1, n2⟩, rfl, bounds_i64 w0, bounds_i64 w1, bounds_i64 w2⟩) h
theorem agg_of_six {v : Value} (h : v.cells.toList.length = 6) : ∃ cs, v = .agg cs ∧ v.cells = cs := by
  cases v <;> first | exact ⟨_, rfl, rfl⟩ | (simp [Value.cells] at h)
set_option maxRecDepth 100000 in
theorem argJrn {H : Type} {enc : TypeId × Value → H} {w : World} {base : Nat} {spare : Nat → Bool} {held : Bool} {fuel : Nat} {v : Value} {x : DataW H × List MemPlace}
    (h : DataW.trod enc Tryz.prog w base spare held fuel 29 v.cells.toList = some x) : ∃ (j : Jrn) (A : Option Addr) (n c : Nat), v = j.val A n c ∧ ArgRd Lin.cells 3 Lin.ok64 w A n c j.lines ∧ j.ok64 ∧ j.ref.size ≤ maxLen := by
  obtain ⟨xs, q, _, _, hl, hx, hf⟩ := DataW.trod_struct Tryz.underlying29 h
  have hl : v.cells.toList.length = 6 := hl.trans (by kernel_rfl)
  have hx : xs.length = 6 := hx
  obtain ⟨cs, rfl, hcs⟩ := agg_of_six hl
  rw [hcs] at hl hf
  obtain ⟨l⟩ := cs
  match l, hl with
  | [c0, c1, c2, c3, c4, c5], _ =>
    obtain ⟨y0, h0⟩ := part_at (k := 1) (by kernel_rfl) (hf 0 _ rfl) (by omega)
    obtain ⟨y1, h1⟩ := part_at (k := 1) (by kernel_rfl) (hf 1 _ rfl) (by omega)
    obtain ⟨y2, h2⟩ := part_at (k := 1) (by kernel_rfl) (hf 2 _ rfl) (by omega)
    obtain ⟨y3, h3⟩ := part_at (k := 1) (by kernel_rfl) (hf 3 _ rfl) (by omega)
    obtain ⟨y4, h4⟩ := part_at (k := 1) (by kernel_rfl) (hf 4 _ rfl) (by omega)
    obtain ⟨y5, h5⟩ := part_at (k := 1) (by kernel_rfl) (hf 5 _ rfl) (by omega)
    obtain ⟨n0, e0, _, w0⟩ := DataW.trod_int Tryz.underlying3 h0
    obtain ⟨n1, e1, _, w1⟩ := DataW.trod_int Tryz.underlying3 h1
    obtain ⟨n2, e2, _, w2⟩ := DataW.trod_int Tryz.underlying3 h2
    obtain ⟨s3, e3, _, w3⟩ := DataW.trod_string Tryz.underlying9 h3
    obtain ⟨A, n, c, e4⟩ := Joins.slice_form Tryz.underlying27 h4
    obtain ⟨b5, e5, _⟩ := DataW.trod_bool Tryz.underlying4 h5
    simp at e0 e1 e2 e3 e4 e5
    subst e0 e1 e2 e3 e4 e5
    obtain ⟨L, hL⟩ := argLins (A := A) (n := n) (c := c) (fuel := q) (x := y4) h4
    exact ⟨⟨n0, n1, n2, s3, L, b5⟩, A, n, c, rfl, hL, ⟨bounds_i64 w0, bounds_i64 w1, bounds_i64 w2, hL.wf⟩, w3⟩
end Go.Proofs.YtmgncoialppmpaaGreat

/-
  Journals that came in.
-/
namespace Go.Proofs.YtmgncoialppmpaaGreat
open Go.RowKit

instance : Inhabited JR := ⟨⟨zeroJ, none, 0⟩⟩
/-- What a row that came in is. -/
def JR.came (w : World) (a : JR) : Prop := Rd w w.heap.size 3 a.A a.j.lines.length (lins a.j.lines) ∧ (a.A = none → a.c = 0) ∧ a.j.ref.size ≤ maxLen ∧ a.j.lines.length ≤ maxLen
set_option maxRecDepth 100000 in
theorem argJrns {H : Type} {enc : TypeId × Value → H} {w : World} {base : Nat} {spare : Nat → Bool} {held : Bool} {fuel : Nat} {A : Option Addr} {n c : Nat} {x : DataW H × List MemPlace}
    (h : DataW.trod enc Tryz.prog w base spare held fuel 24 (Value.cells (.slice A n c)).toList = some x) : ∃ l : List JR, JlRd w w.heap.size A n l ∧ n ≤ maxLen ∧ n ≤ c ∧ (A = none → c = 0) := by
  obtain ⟨l, q⟩ : ∃ l : List JR, ArgRd JR.cells 6 (JR.came w) w A n c l :=
    argRd_of_trod _ 6 _ Tryz.underlying24 (by kernel_rfl) (by omega) (fun _ => rfl) (fun m cs y hy => by
      have hy2 : DataW.trod enc Tryz.prog w base spare held m 29 (Value.cells (.agg cs.toArray)).toList = some y := by simpa [Value.cells] using hy
      obtain ⟨j, A, n, c, hv, hL, _, hs⟩ := argJrn hy2
      obtain rfl : j.lines.length = n := hL.rd.lins_len
      refine ⟨⟨j, A, c⟩, ?_, hL.rd, hL.nil, hs, hL.len⟩
      unfold Jrn.val at hv
      injection hv with hv
      have := congrArg Array.toList hv
      simpa [JR.cells] using this) h
  exact ⟨l, ⟨q.rd, fun a ha => (q.wf a ha).1, fun a ha => (q.wf a ha).2.1, fun a ha => (q.wf a ha).2.2⟩, q.len, q.cap, q.nil⟩
end Go.Proofs.YtmgncoialppmpaaGreat

/-
  A world's rows that came in.
-/
namespace Go.Proofs.YtmgncoialppmpaaGreat
open Go.RowKit

instance : Inhabited Trio := ⟨⟨0, 0, 0⟩⟩
def Trio.wf (_ : Trio) : Prop := True
set_option maxRecDepth 100000 in
theorem argTrios {H : Type} {enc : TypeId × Value → H} {w : World} {base : Nat} {spare : Nat → Bool} {held : Bool} {fuel : Nat} {A : Option Addr} {n c : Nat} {x : DataW H × List MemPlace}
    (h : DataW.trod enc Tryz.prog w base spare held fuel 23 (Value.cells (.slice A n c)).toList = some x) : ∃ l : List Trio, ArgRd Trio.cells 3 Trio.wf w A n c l :=
  argRd_of_trod _ 3 Trio.wf Tryz.underlying23 (by kernel_rfl) (by omega) (fun _ => rfl) (fun m cs y hy => by
    obtain ⟨xs, q, _, _, hl, hx, hf⟩ := DataW.trod_array Tryz.underlying113 hy
    have hl : cs.length = 3 := hl.trans (by kernel_rfl)
    have hi : Tryz.prog.cellsOf 3 = 1 := by kernel_rfl
    match cs, hl with
    | [c0, c1, c2], _ =>
      have f0 := hf 0 (by omega)
      have f1 := hf 1 (by omega)
      have f2 := hf 2 (by omega)
      rw [hi] at f0 f1 f2
      rw [List.getElem?_eq_getElem (by omega)] at f0 f1 f2
      obtain ⟨n0, e0, _, w0⟩ := DataW.trod_int Tryz.underlying3 f0
      obtain ⟨n1, e1, _, w1⟩ := DataW.trod_int Tryz.underlying3 f1
      obtain ⟨n2, e2, _, w2⟩ := DataW.trod_int Tryz.underlying3 f2
      simp at e0 e1 e2
      subst e0 e1 e2
      exact ⟨⟨n0, n1, n2⟩, rfl, trivial⟩) h
theorem agg_of_three {v : Value} (h : v.cells.toList.length = 3) : ∃ cs, v = .agg cs ∧ v.cells = cs := by
  cases v <;> first | exact ⟨_, rfl, rfl⟩ | (simp [Value.cells] at h)
/-- The rows of a world. -/
structure WorldIn (w : World) (A0 A1 A2 : Option Addr) (n0 n1 n2 : Nat) (l0 : List Acc) (l1 : List Trio) (l2 : List JR) : Prop where
  c : Rd w w.heap.size 3 A0 n0 (accs l0)
  g : Rd w w.heap.size 3 A1 n1 (trios l1)
  m : JlRd w w.heap.size A2 n2 l2
  l0 : n0 ≤ maxLen
  l1 : n1 ≤ maxLen
  l2 : n2 ≤ maxLen
set_option maxRecDepth 100000 in
theorem argWorld {H : Type} {enc : TypeId × Value → H} {w : World} {base : Nat} {spare : Nat → Bool} {held : Bool} {fuel : Nat} {v : Value} {x : DataW H × List MemPlace}
    (h : DataW.trod enc Tryz.prog w base spare held fuel 26 v.cells.toList = some x) : ∃ (A0 A1 A2 : Option Addr) (n0 n1 n2 c0 c1 c2 : Nat) (l0 : List Acc) (l1 : List Trio) (l2 : List JR), v = .agg #[.slice A0 n0 c0, .slice A1 n1 c1, .slice A2 n2 c2] ∧ WorldIn w A0 A1 A2 n0 n1 n2 l0 l1 l2 := by
  obtain ⟨xs, q, _, _, hl, hx, hf⟩ := DataW.trod_struct Tryz.underlying26 h
  have hl : v.cells.toList.length = 3 := hl.trans (by kernel_rfl)
  have hx : xs.length = 3 := hx
  obtain ⟨cs, rfl, hcs⟩ := agg_of_three hl
  rw [hcs] at hl hf
  obtain ⟨l⟩ := cs
  match l, hl with
  | [c0, c1, c2], _ =>
    obtain ⟨y0, h0⟩ := part_at (k := 1) (by kernel_rfl) (hf 0 _ rfl) (by omega)
    obtain ⟨y1, h1⟩ := part_at (k := 1) (by kernel_rfl) (hf 1 _ rfl) (by omega)
    obtain ⟨y2, h2⟩ := part_at (k := 1) (by kernel_rfl) (hf 2 _ rfl) (by omega)
    obtain ⟨A0, n0, k0, e0⟩ := Joins.slice_form Tryz.underlying22 h0
    obtain ⟨A1, n1, k1, e1⟩ := Joins.slice_form Tryz.underlying23 h1
    obtain ⟨A2, n2, k2, e2⟩ := Joins.slice_form Tryz.underlying24 h2
    simp at e0 e1 e2
    subst e0 e1 e2
    obtain ⟨l0, q0⟩ := argAccs (A := A0) (n := n0) (c := k0) (fuel := q) (x := y0) h0
    obtain ⟨l1, q1⟩ := argTrios (A := A1) (n := n1) (c := k1) (fuel := q) (x := y1) h1
    obtain ⟨l2, q2, m2, _⟩ := argJrns (A := A2) (n := n2) (c := k2) (fuel := q) (x := y2) h2
    exact ⟨A0, A1, A2, n0, n1, n2, k0, k1, k2, l0, l1, l2, rfl, q0.rd, q1.rd, q2, q0.len, q1.len, m2⟩
end Go.Proofs.YtmgncoialppmpaaGreat

/-
  Contract of rules' (Rules).Reverse where a part is missing.
-/
namespace Go.Proofs.YtmgncoialppmpaaGreat
open Go.RowKit

set_option maxRecDepth 100000 in
set_option maxHeartbeats 2000000 in
theorem rulesReverse_no (cp gp bp : Value) (id nu pe : Int) (w : World) (hL : Lacks cp gp bp) :
    Calls Tryz.prog 12 #[.agg #[cp, gp, bp], .int .i64 id, .int .i64 nu, .int .i64 pe] w fun e w' => e = .returned (.tuple #[.agg #[.int .i64 0, .int .i64 0, .int .i64 0, .string ⟨#[]⟩, .slice none 0 0, .bool false], .int .i64 1]) ∧ Below w.heap.size w w' := by
  obtain ⟨W2, hW2⟩ : ∃ W2, (w.alloc (.cells #[cp, gp, bp] 35)).alloc (.cells #[.int .i64 0, .int .i64 0, .int .i64 0, .string ⟨#[]⟩, .slice none 0 0, .bool false] 29) = W2 := ⟨_, rfl⟩
  have hb2 : Below w.heap.size w W2 := by rw [← hW2]; exact ((Below.refl _ _).alloc (Nat.le_refl _) _).alloc (by simp) _
  have hz2 : W2.heap.size = w.heap.size + 1 + 1 := by rw [← hW2]; simp
  have hbox : W2.heap[w.heap.size]? = some (.cells #[cp, gp, bp] 35 (0, 0)) := by
    rw [← hW2]
    exact (Below.heap_alloc _ _ _ (by simp)).trans (heap_new w _)
  have hres : JAt W2 (w.heap.size + 1) zeroJ none 0 0 := by
    rw [← hW2]
    have := heap_new (w.alloc (.cells #[cp, gp, bp] 35)) (.cells #[.int .i64 0, .int .i64 0, .int .i64 0, .string ⟨#[]⟩, .slice none 0 0, .bool false] 29)
    rw [show (w.alloc (.cells #[cp, gp, bp] 35)).heap.size = w.heap.size + 1 by simp] at this
    exact this
  have b0 : W2.cell? ⟨w.heap.size, 0, none⟩ = some cp := cell_of hbox 0
  have b1 : W2.cell? ⟨w.heap.size, 1, none⟩ = some gp := cell_of hbox 1
  have b2 : W2.cell? ⟨w.heap.size, 2, none⟩ = some bp := cell_of hbox 2
  have HW2 := Lib.hid hW2; have HB2 := Lib.hid hb2; have HRES := Lib.hid hres; have HZ2 := Lib.hid hz2; have HL := Lib.hid hL
  clear hW2 hb2 hbox hres hz2 hL
  go_enter Tryz.func12, Tryz.ntmps12
  go_wp2_with fail
  rw [HW2.out]
  go_wp2_with fail
  generalize hW : World.alloc _ _ = W4
  obtain ⟨hq, hr, hb4⟩ := one_of hW
  rw [HZ2.out] at hq hr
  have hmid : MidW W2 W4 (w.heap.size + 1 + 1) (w.heap.size + 1 + 1 + 1) revFs := ⟨hb4, Nat.le_of_eq HZ2.out, hr, by omega⟩
  have hwish : WishAt W4 (w.heap.size + 1 + 1) cp gp bp id zeroR zeroR (.pointer none) := ⟨hq⟩
  have KA := Lib.hid (wishAsk_any (.pointer (some ⟨w.heap.size + 1 + 1, 0, none⟩)) revFs (1 :: List.replicate (revFs.length - 1) 0) revFs.length revFs.length (w.heap.size + 1 + 1 + 1 + 1) (some ⟨w.heap.size + 1 + 1 + 1, 0, none⟩) W4 (fun i w1 => i = 0 ∧ MidW W2 w1 (w.heap.size + 1 + 1) (w.heap.size + 1 + 1 + 1) revFs ∧ ∃ tv, WishAt w1 (w.heap.size + 1 + 1) cp gp bp id zeroR zeroR tv) (fun w2 => Below W2.heap.size W2 w2) rfl (by decide) (by decide) (by unfold Asks revFs; decide) (fun i w1 hi => hi.2.1.rd) ⟨rfl, hmid, _, hwish⟩ (none_steps HL.out rfl _) (fun w1 hi => absurd hi.1 (by decide)))
  clear hW hq hr hb4 hmid hwish b0 b1 b2
  refine KA.out.mono ?_
  rintro e w5 ⟨rfl, hb5⟩
  rw [show firstE (1 :: List.replicate (revFs.length - 1) 0) = 1 from rfl]
  have hrs5 : JAt w5 (w.heap.size + 1) zeroJ none 0 0 := (hb5.block _ (lt_of_blk HRES.out)).trans HRES.out
  have HB5 : Hid (Below w.heap.size w w5) := HB2.out.trans (hb5.mono HB2.out.size)
  obtain ⟨y0, y1, y2, y3, y4, y5⟩ := six_cells hrs5
  have yf := fun o => warm_of hrs5 o
  have t0 : ((1 : Int) != 0) = true := rfl
  clear hrs5 hb5 KA
  go_wp2_with fail
  refine bodyPost_ret (v := .tuple #[.agg #[.int .i64 0, .int .i64 0, .int .i64 0, .string ⟨#[]⟩, .slice none 0 0, .bool false], .int .i64 1]) (by simp [results, Tryz.results12, go_sem, y0, y1, y2, y3, y4, y5]) rfl ⟨rfl, ?_⟩
  exact below_six HB5.out (Nat.le_succ _) _ _ _ _ _ _
end Go.Proofs.YtmgncoialppmpaaGreat
