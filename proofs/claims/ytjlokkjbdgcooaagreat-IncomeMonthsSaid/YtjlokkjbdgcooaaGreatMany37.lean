/-
  Several texts, one behind the other: what each holds stands ahead of it.
-/
import Derived.Test.YtjlokkjbdgcooaaGreatOwn
import Derived.Deep.Slices
import Derived.ChangeArms
import Derived.OpenShut
import Derived.Test.YtjlokkjbdgcooaaGreatMany3
import Derived.Lib.SmallJoins
import Derived.Test.YtjlokkjbdgcooaaGreatMany10
import Derived.Test.YtjlokkjbdgcooaaGreatMany22

/-
  What came in, read as lists: slices of integers, of strings, of structs whose fields are plain. No code.
-/
namespace Go.Proofs.YtjlokkjbdgcooaaGreat
open Go.RowKit

/-- A slice that came in: it reads as the cells of l, 'size' an element. -/
structure ArgRd {α : Type} (cells : α → List Value) (size : Nat) (WF : α → Prop) (w : World) (A : Option Addr) (n c : Nat) (l : List α) : Prop where
  rd : Rd w w.heap.size size A n (l.flatMap cells)
  len : n ≤ maxLen
  cap : n ≤ c
  wf : ∀ a ∈ l, WF a
  nil : A = none → c = 0

theorem cells_flat {α : Type} {cells : α → List Value} {size : Nat} (hlen : ∀ a, (cells a).length = size) {w : World} {ad : Addr} : ∀ (l : List α) (o : Nat),
    (∀ (i : Nat) (a : α), l[i]? = some a → ∀ r, r < size → w.cell? (ad.add (o + i * size + r)) = (cells a)[r]?) → ∀ (j : Nat) (u : Value), (l.flatMap cells)[j]? = some u → w.cell? (ad.add (o + j)) = some u
  | [], o, _, j, u, h => by simp at h
  | b :: l, o, hc, j, u, h => by
    rw [List.flatMap_cons] at h
    by_cases hj : j < size
    · rw [List.getElem?_append_left (by rw [hlen]; exact hj)] at h
      have := hc 0 b (by simp) j hj
      rw [Nat.zero_mul, Nat.add_zero] at this
      rw [this, h]
    · rw [List.getElem?_append_right (by rw [hlen]; omega), hlen] at h
      have := cells_flat hlen l (o + size) (fun i a ha r hr => by
        have := hc (i + 1) a (by simpa using ha) r hr
        rw [show o + size + i * size + r = o + (i + 1) * size + r by rw [Nat.add_mul]; omega]; exact this) (j - size) u h
      rwa [show o + size + (j - size) = o + j by omega] at this

theorem flat_len {α : Type} {cells : α → List Value} {size : Nat} (hlen : ∀ a, (cells a).length = size) : ∀ l : List α, (l.flatMap cells).length = l.length * size
  | [] => by simp
  | a :: l => by rw [List.flatMap_cons, List.length_append, hlen, flat_len hlen l, List.length_cons, Nat.add_mul]; omega

theorem argRd_of_trod {H : Type} {enc : TypeId × Value → H} {P : Program} {w : World} {base : Nat} {spare : Nat → Bool} {held : Bool} {t e : TypeId} {fuel : Nat} {A : Option Addr} {n c : Nat} {x : DataW H × List MemPlace}
    {α : Type} [Inhabited α] (cells : α → List Value) (size : Nat) (WF : α → Prop) (ht : P.underlying t = some (.slice e)) (hc : P.cellsOf e = size) (hs : 0 < size) (hlen : ∀ a, (cells a).length = size)
    (hel : ∀ (m : Nat) (cs : List Value) (y : DataW H × List MemPlace), DataW.trod enc P w base spare held m e cs = some y → ∃ a, cs = cells a ∧ WF a)
    (h : DataW.trod enc P w base spare held fuel t (Value.cells (.slice A n c)).toList = some x) : ∃ l : List α, ArgRd cells size WF w A n c l := by
  rcases Go.Deep.open_slice ht h with ⟨hcs, _⟩ | ⟨a, len, cap, m, q, D, Pl, hcs, _, hl, hm, hmm, _, hx⟩
  · simp [Value.cells] at hcs
    obtain ⟨rfl, rfl, rfl⟩ := hcs
    exact ⟨[], ⟨Rd.nil_, by unfold maxLen; omega, Nat.le_refl _, by simp, fun _ => rfl⟩⟩
  · simp [Value.cells] at hcs
    obtain ⟨rfl, rfl, rfl⟩ := hcs
    have hlm : n ≤ m := by rw [hmm]; split <;> omega
    have key : ∀ i, i < n → ∃ b : α, WF b ∧ ∀ r, r < size → w.cell? ((a.add (i * size)).add r) = (cells b)[r]? := by
      intro i hi
      obtain ⟨cs', h1, h2⟩ := hx i (by omega)
      obtain ⟨b, rfl, hb⟩ := hel q cs' _ h2
      rw [hc] at h1
      exact ⟨b, hb, (World.cells?_some h1).2.2⟩
    obtain ⟨f, hf⟩ := Go.Deep.choose_lt key
    refine ⟨(List.range n).map f, ⟨⟨by rw [flat_len hlen]; simp, fun hn => ⟨a, rfl, ?_, ?_⟩⟩, by omega, hl, ?_, fun h => by cases h⟩⟩
    · have h0 := (hf 0 hn).2 0 hs
      have hq : 0 < (cells (f 0)).length := by rw [hlen]; exact hs
      rw [List.getElem?_eq_getElem hq] at h0
      have := block_of_cell h0
      rwa [add_block, add_block] at this
    · intro j u hu
      have := cells_flat hlen (ad := a) (w := w) ((List.range n).map f) 0 (fun i b hb r hr => by
        rw [List.getElem?_map] at hb
        cases hq : (List.range n)[i]? with
        | none => rw [hq] at hb; cases hb
        | some i' =>
          rw [hq] at hb
          simp at hb
          obtain ⟨h3, h4⟩ := List.getElem?_eq_some_iff.1 hq
          simp at h3 h4
          subst h4
          have := (hf i h3).2 r hr
          rw [add_add] at this
          rw [Nat.zero_add, this, hb]) j u hu
      rwa [Nat.zero_add] at this
    · intro b hb
      obtain ⟨i, hi, rfl⟩ := List.mem_map.1 hb
      exact (hf i (List.mem_range.1 hi)).1

def i64ok (n : Int) : Prop := -9223372036854775808 ≤ n ∧ n ≤ 9223372036854775807
theorem ints_flat (l : List Int) : l.flatMap (fun n => [Value.int .i64 n]) = ints .i64 l := by
  induction l with
  | nil => rfl
  | cons a l ih => rw [List.flatMap_cons, ih]; rfl
theorem ArgRd.ints {w : World} {A : Option Addr} {n c : Nat} {l : List Int} (h : ArgRd (fun n => [Value.int .i64 n]) 1 i64ok w A n c l) : Rd w w.heap.size 1 A n (ints .i64 l) := by
  have := h.rd; rwa [ints_flat] at this
theorem argInts {H : Type} {enc : TypeId × Value → H} {w : World} {base : Nat} {spare : Nat → Bool} {held : Bool} {fuel : Nat} {A : Option Addr} {n c : Nat} {x : DataW H × List MemPlace}
    (h : DataW.trod enc Tryz.prog w base spare held fuel 22 (Value.cells (.slice A n c)).toList = some x) : ∃ l : List Int, ArgRd (fun n => [Value.int .i64 n]) 1 i64ok w A n c l :=
  argRd_of_trod _ 1 i64ok Tryz.underlying22 (by kernel_rfl) (by omega) (fun _ => rfl) (fun m cs y hy => by
    obtain ⟨n, rfl, _, hw⟩ := DataW.trod_int Tryz.underlying3 hy
    exact ⟨n, rfl, bounds_i64 hw⟩) h
/-- A part of a struct. -/
theorem part_at {H : Type} {enc : TypeId × Value → H} {P : Program} {w : World} {base : Nat} {spare : Nat → Bool} {held : Bool} {m i : Nat} {xs : List (DataW H × List MemPlace)} {f : TypeId} {k : Nat} {cs : List Value} (hk : P.cellsOf f = k)
    (h : DataW.trod enc P w base spare held m f (cs.take (P.cellsOf f)) = xs[i]?) (hi : i < xs.length) : ∃ y, DataW.trod enc P w base spare held m f (cs.take k) = some y := by
  rw [hk, List.getElem?_eq_getElem hi] at h
  exact ⟨_, h⟩
/-- An element of a slice of structs. -/
theorem Rd.flat {α : Type} {cells : α → List Value} {size : Nat} (hlen : ∀ a, (cells a).length = size) {w : World} {B n i : Nat} {A : Option Addr} {l : List α} (h : Rd w B size A n (l.flatMap cells)) (hs : 0 < size) (hi : i < n) :
    ∃ ad a, A = some ad ∧ ad.block < B ∧ l[i]? = some a ∧ ∀ r u, (cells a)[r]? = some u → w.cell? (ad.add (i * size + r)) = some u := by
  obtain ⟨ad, e, hb, hc⟩ := h.2 (by omega)
  have hl : l.length = n := by
    have := h.1
    rw [flat_len hlen] at this
    exact Nat.eq_of_mul_eq_mul_right hs this
  refine ⟨ad, l[i]'(by omega), e, hb, List.getElem?_eq_getElem (by omega), fun r u hu => hc _ u ?_⟩
  have hr : r < size := by rw [← hlen (l[i]'(by omega))]; exact (List.getElem?_eq_some_iff.1 hu).1
  clear hc hb e h
  induction l generalizing i n with
  | nil => simp at hl; omega
  | cons b l ih =>
    rw [List.flatMap_cons]
    cases i with
    | zero =>
      rw [Nat.zero_mul, Nat.zero_add, List.getElem?_append_left (by rw [hlen]; exact hr)]
      exact hu
    | succ i =>
      rw [List.getElem?_append_right (by rw [hlen, Nat.add_mul]; omega), hlen, show (i + 1) * size + r - size = i * size + r by rw [Nat.add_mul]; omega]
      exact ih (n := n - 1) (i := i) (by omega) (by simp at hl; omega) (by simpa using hu)
end Go.Proofs.YtjlokkjbdgcooaaGreat

/-
  A journal that came in.
-/
namespace Go.Proofs.YtjlokkjbdgcooaaGreat
open Go.RowKit

instance : Inhabited Lin := ⟨⟨0, 0, 0⟩⟩
set_option maxRecDepth 100000 in
theorem argLins {H : Type} {enc : TypeId × Value → H} {w : World} {base : Nat} {spare : Nat → Bool} {held : Bool} {fuel : Nat} {A : Option Addr} {n c : Nat} {x : DataW H × List MemPlace}
    (h : DataW.trod enc Tryz.prog w base spare held fuel 109 (Value.cells (.slice A n c)).toList = some x) : ∃ l : List Lin, ArgRd Lin.cells 3 Lin.ok64 w A n c l :=
  argRd_of_trod _ 3 Lin.ok64 Tryz.underlying109 (by kernel_rfl) (by omega) (fun _ => rfl) (fun m cs y hy => by
    obtain ⟨xs, q, _, _, hl, hx, hf⟩ := DataW.trod_struct Tryz.underlying113 hy
    have hl : cs.length = 3 := hl.trans (by kernel_rfl)
    have hx : xs.length = 3 := hx
    match cs, hl with
    | [c0, c1, c2], _ =>
      obtain ⟨y0, h0⟩ := part_at (k := 1) (by kernel_rfl) (hf 0 _ rfl) (by omega)
      obtain ⟨y1, h1⟩ := part_at (k := 1) (by kernel_rfl) (hf 1 _ rfl) (by omega)
      obtain ⟨y2, h2⟩ := part_at (k := 1) (by kernel_rfl) (hf 2 _ rfl) (by omega)
      obtain ⟨n0, e0, _, w0⟩ := DataW.trod_int Tryz.underlying3 h0
      obtain ⟨n1, e1, _, w1⟩ := DataW.trod_int Tryz.underlying3 h1
      obtain ⟨n2, e2, _, w2⟩ := DataW.trod_int Tryz.underlying3 h2
      simp at e0 e1 e2
      subst e0 e1 e2
      exact ⟨⟨n0, n1, n2⟩, rfl, bounds_i64 w0, bounds_i64 w1, bounds_i64 w2⟩) h
theorem agg_of_six {v : Value} (h : v.cells.toList.length = 6) : ∃ cs, v = .agg cs ∧ v.cells = cs := by
  cases v <;> first | exact ⟨_, rfl, rfl⟩ | (simp [Value.cells] at h)
set_option maxRecDepth 100000 in
theorem argJrn {H : Type} {enc : TypeId × Value → H} {w : World} {base : Nat} {spare : Nat → Bool} {held : Bool} {fuel : Nat} {v : Value} {x : DataW H × List MemPlace}
    (h : DataW.trod enc Tryz.prog w base spare held fuel 111 v.cells.toList = some x) : ∃ (j : Jrn) (A : Option Addr) (n c : Nat), v = j.val A n c ∧ ArgRd Lin.cells 3 Lin.ok64 w A n c j.lines ∧ j.ok64 ∧ j.ref.size ≤ maxLen := by
  obtain ⟨xs, q, _, _, hl, hx, hf⟩ := DataW.trod_struct Tryz.underlying111 h
  have hl : v.cells.toList.length = 6 := hl.trans (by kernel_rfl)
  have hx : xs.length = 6 := hx
  obtain ⟨cs, rfl, hcs⟩ := agg_of_six hl
  rw [hcs] at hl hf
  obtain ⟨l⟩ := cs
  match l, hl with
  | [c0, c1, c2, c3, c4, c5], _ =>
    obtain ⟨y0, h0⟩ := part_at (k := 1) (by kernel_rfl) (hf 0 _ rfl) (by omega)
    obtain ⟨y1, h1⟩ := part_at (k := 1) (by kernel_rfl) (hf 1 _ rfl) (by omega)
    obtain ⟨y2, h2⟩ := part_at (k := 1) (by kernel_rfl) (hf 2 _ rfl) (by omega)
    obtain ⟨y3, h3⟩ := part_at (k := 1) (by kernel_rfl) (hf 3 _ rfl) (by omega)
    obtain ⟨y4, h4⟩ := part_at (k := 1) (by kernel_rfl) (hf 4 _ rfl) (by omega)
    obtain ⟨y5, h5⟩ := part_at (k := 1) (by kernel_rfl) (hf 5 _ rfl) (by omega)
    obtain ⟨n0, e0, _, w0⟩ := DataW.trod_int Tryz.underlying3 h0
    obtain ⟨n1, e1, _, w1⟩ := DataW.trod_int Tryz.underlying3 h1
    obtain ⟨n2, e2, _, w2⟩ := DataW.trod_int Tryz.underlying3 h2
    obtain ⟨s3, e3, _, w3⟩ := DataW.trod_string Tryz.underlying9 h3
    obtain ⟨A, n, c, e4⟩ := Joins.slice_form Tryz.underlying109 h4
    obtain ⟨b5, e5, _⟩ := DataW.trod_bool Tryz.underlying4 h5
    simp at e0 e1 e2 e3 e4 e5
    subst e0 e1 e2 e3 e4 e5
    obtain ⟨L, hL⟩ := argLins (A := A) (n := n) (c := c) (fuel := q) (x := y4) h4
    exact ⟨⟨n0, n1, n2, s3, L, b5⟩, A, n, c, rfl, hL, ⟨bounds_i64 w0, bounds_i64 w1, bounds_i64 w2, hL.wf⟩, w3⟩
end Go.Proofs.YtjlokkjbdgcooaaGreat

/-
  Journals that came in.
-/
namespace Go.Proofs.YtjlokkjbdgcooaaGreat
open Go.RowKit

instance : Inhabited JR := ⟨⟨zeroJ, none, 0⟩⟩
/-- What a row that came in is. -/
def JR.came (w : World) (a : JR) : Prop := Rd w w.heap.size 3 a.A a.j.lines.length (lins a.j.lines) ∧ (a.A = none → a.c = 0) ∧ a.j.ref.size ≤ maxLen ∧ a.j.lines.length ≤ maxLen
set_option maxRecDepth 100000 in
theorem argJrns {H : Type} {enc : TypeId × Value → H} {w : World} {base : Nat} {spare : Nat → Bool} {held : Bool} {fuel : Nat} {A : Option Addr} {n c : Nat} {x : DataW H × List MemPlace}
    (h : DataW.trod enc Tryz.prog w base spare held fuel 48 (Value.cells (.slice A n c)).toList = some x) : ∃ l : List JR, JlRd w w.heap.size A n l ∧ n ≤ maxLen ∧ n ≤ c ∧ (A = none → c = 0) := by
  obtain ⟨l, q⟩ : ∃ l : List JR, ArgRd JR.cells 6 (JR.came w) w A n c l :=
    argRd_of_trod _ 6 _ Tryz.underlying48 (by kernel_rfl) (by omega) (fun _ => rfl) (fun m cs y hy => by
      have hy2 : DataW.trod enc Tryz.prog w base spare held m 111 (Value.cells (.agg cs.toArray)).toList = some y := by simpa [Value.cells] using hy
      obtain ⟨j, A, n, c, hv, hL, _, hs⟩ := argJrn hy2
      obtain rfl : j.lines.length = n := hL.rd.lins_len
      refine ⟨⟨j, A, c⟩, ?_, hL.rd, hL.nil, hs, hL.len⟩
      unfold Jrn.val at hv
      injection hv with hv
      have := congrArg Array.toList hv
      simpa [JR.cells] using this) h
  exact ⟨l, ⟨q.rd, fun a ha => (q.wf a ha).1, fun a ha => (q.wf a ha).2.1, fun a ha => (q.wf a ha).2.2⟩, q.len, q.cap, q.nil⟩
end Go.Proofs.YtjlokkjbdgcooaaGreat

/-
  Slices of accounts that came in.
-/
namespace Go.Proofs.YtjlokkjbdgcooaaGreat
open Go.RowKit

instance : Inhabited Acc := ⟨⟨0, 0, false⟩⟩
def Acc.wf (a : Acc) : Prop := i64ok a.code ∧ i64ok a.kind
set_option maxRecDepth 100000 in
theorem argAccs {H : Type} {enc : TypeId × Value → H} {w : World} {base : Nat} {spare : Nat → Bool} {held : Bool} {fuel : Nat} {A : Option Addr} {n c : Nat} {x : DataW H × List MemPlace}
    (h : DataW.trod enc Tryz.prog w base spare held fuel 76 (Value.cells (.slice A n c)).toList = some x) : ∃ l : List Acc, ArgRd Acc.cells 3 Acc.wf w A n c l :=
  argRd_of_trod _ 3 Acc.wf Tryz.underlying76 (by kernel_rfl) (by omega) (fun _ => rfl) (fun m cs y hy => by
    obtain ⟨xs, q, _, _, hl, hx, hf⟩ := DataW.trod_struct Tryz.underlying165 hy
    have hl : cs.length = 3 := hl.trans (by kernel_rfl)
    have hx : xs.length = 3 := hx
    match cs, hl with
    | [c0, c1, c2], _ =>
      obtain ⟨y0, h0⟩ := part_at (k := 1) (by kernel_rfl) (hf 0 _ rfl) (by omega)
      obtain ⟨y1, h1⟩ := part_at (k := 1) (by kernel_rfl) (hf 1 _ rfl) (by omega)
      obtain ⟨y2, h2⟩ := part_at (k := 1) (by kernel_rfl) (hf 2 _ rfl) (by omega)
      obtain ⟨n0, e0, _, w0⟩ := DataW.trod_int Tryz.underlying3 h0
      obtain ⟨n1, e1, _, w1⟩ := DataW.trod_int Tryz.underlying3 h1
      obtain ⟨b2, e2, _⟩ := DataW.trod_bool Tryz.underlying4 h2
      simp at e0 e1 e2
      subst e0 e1 e2
      exact ⟨⟨n0, n1, b2⟩, rfl, bounds_i64 w0, bounds_i64 w1⟩) h
end Go.Proofs.YtjlokkjbdgcooaaGreat
