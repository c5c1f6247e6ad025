/-
  Several texts, one behind the other: what each holds stands ahead of it.
-/
import Derived.Test.YthjpknipnmagkaaArgRd
import Derived.Test.YthjpknipnmagkaaMany2
import Derived.Lib.SmallJoins
import Derived.Test.YthjpknipnmagkaaTomeOf

/-
  A journal that came in.
-/
namespace Go.Proofs.Ythjpknipnmagkaa
open Go.RowKit

instance : Inhabited Lin := ⟨⟨0, 0, 0⟩⟩
set_option maxRecDepth 100000 in
theorem argLins {H : Type} {enc : TypeId × Value → H} {w : World} {base : Nat} {spare : Nat → Bool} {held : Bool} {fuel : Nat} {A : Option Addr} {n c : Nat} {x : DataW H × List MemPlace}
    (h : DataW.trod enc Try.prog w base spare held fuel 36 (Value.cells (.slice A n c)).toList = some x) : ∃ l : List Lin, ArgRd Lin.cells 3 Lin.ok64 w A n c l :=
  argRd_of_trod _ 3 Lin.ok64 Try.underlying36 (by kernel_rfl) (by omega) (fun _ => rfl) (fun m cs y hy => by
    obtain ⟨xs, q, _, _, hl, hx, hf⟩ := DataW.trod_struct Try.underlying40 hy
    have hl : cs.length = 3 := hl.trans (by kernel_rfl)
    have hx : xs.length = 3 := hx
    match cs, hl with
    | [c0, c1, c2], _ =>
      obtain ⟨y0, h0⟩ := part_at (k := 1) (by kernel_rfl) (hf 0 _ rfl) (by omega)
      obtain ⟨y1, h1⟩ := part_at (k := 1) (by kernel_rfl) (hf 1 _ rfl) (by omega)
      obtain ⟨y2, h2⟩ := part_at (k := 1) (by kernel_rfl) (hf 2 _ rfl) (by omega)
      obtain ⟨n0, e0, _, w0⟩ := DataW.trod_int Try.underlying3 h0
      obtain ⟨n1, e1, _, w1⟩ := DataW.trod_int Try.underlying3 h1
      obtain ⟨n2, e2, _, w2⟩ := DataW.trod_int Try.underlying3 h2
      simp at e0 e1 e2
      subst e0 e1 e2
      exact ⟨⟨n0, n1, n2⟩, rfl, bounds_i64 w0, bounds_i64 w1, bounds_i64 w2⟩) h
theorem agg_of_six {v : Value} (h : v.cells.toList.length = 6) : ∃ cs, v = .agg cs ∧ v.cells = cs := by
  cases v <;> first | exact ⟨_, rfl, rfl⟩ | (simp [Value.cells] at h)
set_option maxRecDepth 100000 in
theorem argJrn {H : Type} {enc : TypeId × Value → H} {w : World} {base : Nat} {spare : Nat → Bool} {held : Bool} {fuel : Nat} {v : Value} {x : DataW H × List MemPlace}
    (h : DataW.trod enc Try.prog w base spare held fuel 38 v.cells.toList = some x) : ∃ (j : Jrn) (A : Option Addr) (n c : Nat), v = j.val A n c ∧ ArgRd Lin.cells 3 Lin.ok64 w A n c j.lines ∧ j.ok64 ∧ j.ref.size ≤ maxLen := by
  obtain ⟨xs, q, _, _, hl, hx, hf⟩ := DataW.trod_struct Try.underlying38 h
  have hl : v.cells.toList.length = 6 := hl.trans (by kernel_rfl)
  have hx : xs.length = 6 := hx
  obtain ⟨cs, rfl, hcs⟩ := agg_of_six hl
  rw [hcs] at hl hf
  obtain ⟨l⟩ := cs
  match l, hl with
  | [c0, c1, c2, c3, c4, c5], _ =>
    obtain ⟨y0, h0⟩ := part_at (k := 1) (by kernel_rfl) (hf 0 _ rfl) (by omega)
    obtain ⟨y1, h1⟩ := part_at (k := 1) (by kernel_rfl) (hf 1 _ rfl) (by omega)
    obtain ⟨y2, h2⟩ := part_at (k := 1) (by kernel_rfl) (hf 2 _ rfl) (by omega)
    obtain ⟨y3, h3⟩ := part_at (k := 1) (by kernel_rfl) (hf 3 _ rfl) (by omega)
    obtain ⟨y4, h4⟩ := part_at (k := 1) (by kernel_rfl) (hf 4 _ rfl) (by omega)
    obtain ⟨y5, h5⟩ := part_at (k := 1) (by kernel_rfl) (hf 5 _ rfl) (by omega)
    obtain ⟨n0, e0, _, w0⟩ := DataW.trod_int Try.underlying3 h0
    obtain ⟨n1, e1, _, w1⟩ := DataW.trod_int Try.underlying3 h1
    obtain ⟨n2, e2, _, w2⟩ := DataW.trod_int Try.underlying3 h2
    obtain ⟨s3, e3, _, w3⟩ := DataW.trod_string Try.underlying9 h3
    obtain ⟨A, n, c, e4⟩ := Joins.slice_form Try.underlying36 h4
    obtain ⟨b5, e5, _⟩ := DataW.trod_bool Try.underlying4 h5
    simp at e0 e1 e2 e3 e4 e5
    subst e0 e1 e2 e3 e4 e5
    obtain ⟨L, hL⟩ := argLins (A := A) (n := n) (c := c) (fuel := q) (x := y4) h4
    exact ⟨⟨n0, n1, n2, s3, L, b5⟩, A, n, c, rfl, hL, ⟨bounds_i64 w0, bounds_i64 w1, bounds_i64 w2, hL.wf⟩, w3⟩
end Go.Proofs.Ythjpknipnmagkaa

/-
  Journals that came in.
-/
namespace Go.Proofs.Ythjpknipnmagkaa
open Go.RowKit

instance : Inhabited JR := ⟨⟨zeroJ, none, 0⟩⟩
/-- What a row that came in is. -/
def JR.came (w : World) (a : JR) : Prop := Rd w w.heap.size 3 a.A a.j.lines.length (lins a.j.lines) ∧ (a.A = none → a.c = 0) ∧ a.j.ref.size ≤ maxLen ∧ a.j.lines.length ≤ maxLen
set_option maxRecDepth 100000 in
theorem argJrns {H : Type} {enc : TypeId × Value → H} {w : World} {base : Nat} {spare : Nat → Bool} {held : Bool} {fuel : Nat} {A : Option Addr} {n c : Nat} {x : DataW H × List MemPlace}
    (h : DataW.trod enc Try.prog w base spare held fuel 30 (Value.cells (.slice A n c)).toList = some x) : ∃ l : List JR, JlRd w w.heap.size A n l ∧ n ≤ maxLen ∧ n ≤ c ∧ (A = none → c = 0) := by
  obtain ⟨l, q⟩ : ∃ l : List JR, ArgRd JR.cells 6 (JR.came w) w A n c l :=
    argRd_of_trod _ 6 _ Try.underlying30 (by kernel_rfl) (by omega) (fun _ => rfl) (fun m cs y hy => by
      have hy2 : DataW.trod enc Try.prog w base spare held m 38 (Value.cells (.agg cs.toArray)).toList = some y := by simpa [Value.cells] using hy
      obtain ⟨j, A, n, c, hv, hL, _, hs⟩ := argJrn hy2
      obtain rfl : j.lines.length = n := hL.rd.lins_len
      refine ⟨⟨j, A, c⟩, ?_, hL.rd, hL.nil, hs, hL.len⟩
      unfold Jrn.val at hv
      injection hv with hv
      have := congrArg Array.toList hv
      simpa [JR.cells] using this) h
  exact ⟨l, ⟨q.rd, fun a ha => (q.wf a ha).1, fun a ha => (q.wf a ha).2.1, fun a ha => (q.wf a ha).2.2⟩, q.len, q.cap, q.nil⟩
end Go.Proofs.Ythjpknipnmagkaa
