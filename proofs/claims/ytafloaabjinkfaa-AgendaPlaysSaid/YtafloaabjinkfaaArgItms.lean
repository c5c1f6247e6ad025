/-
  Slices of items that came in.
-/
import Derived.Test.YtafloaabjinkfaaArgRd
import Derived.Test.YtafloaabjinkfaaAgMath
namespace Go.Proofs.Ytafloaabjinkfaa
open Go.RowKit

def Itm.wf (a : Itm) : Prop := i64ok a.per ∧ i64ok a.rk ∧ i64ok a.id
set_option maxRecDepth 100000 in
theorem argItms0 {H : Type} {enc : TypeId × Value → H} {w : World} {base : Nat} {spare : Nat → Bool} {held : Bool} {fuel : Nat} {A : Option Addr} {n c : Nat} {x : DataW H × List MemPlace}
    (h : DataW.trod enc Try.prog w base spare held fuel 25 (Value.cells (.slice A n c)).toList = some x) : ∃ l : List Itm, ArgRd Itm.cells 3 Itm.wf w A n c l :=
  argRd_of_trod _ 3 Itm.wf Try.underlying25 (by kernel_rfl) (by omega) (fun _ => rfl) (fun m cs y hy => by
    obtain ⟨xs, q, _, _, hl, hx, hf⟩ := DataW.trod_struct Try.underlying33 hy
    have hl : cs.length = 3 := hl.trans (by kernel_rfl)
    have hx : xs.length = 3 := hx
    match cs, hl with
    | [c0, c1, c2], _ =>
      obtain ⟨y0, h0⟩ := part_at (k := 1) (by kernel_rfl) (hf 0 _ rfl) (by omega)
      obtain ⟨y1, h1⟩ := part_at (k := 1) (by kernel_rfl) (hf 1 _ rfl) (by omega)
      obtain ⟨y2, h2⟩ := part_at (k := 1) (by kernel_rfl) (hf 2 _ rfl) (by omega)
      obtain ⟨n0, e0, _, w0⟩ := DataW.trod_int Try.underlying3 h0
      obtain ⟨n1, e1, _, w1⟩ := DataW.trod_int Try.underlying3 h1
      obtain ⟨n2, e2, _, w2⟩ := DataW.trod_int Try.underlying3 h2
      simp at e0 e1 e2
      subst e0 e1 e2
      exact ⟨⟨n0, n1, n2⟩, rfl, bounds_i64 w0, bounds_i64 w1, bounds_i64 w2⟩) h
structure ItmsIn (w : World) (A : Option Addr) (n c : Nat) (l : List Itm) : Prop where
  rd : Rd w w.heap.size 3 A n (itms l)
  len : n ≤ maxLen
  cap : n ≤ c
  wf : ∀ a ∈ l, Itm.wf a
  nil : A = none → c = 0
theorem argItms {H : Type} {enc : TypeId × Value → H} {w : World} {base : Nat} {spare : Nat → Bool} {held : Bool} {fuel : Nat} {A : Option Addr} {n c : Nat} {x : DataW H × List MemPlace}
    (h : DataW.trod enc Try.prog w base spare held fuel 25 (Value.cells (.slice A n c)).toList = some x) : ∃ l : List Itm, ItmsIn w A n c l := by
  obtain ⟨l, q⟩ := argItms0 h
  exact ⟨l, ⟨q.rd, q.len, q.cap, q.wf, q.nil⟩⟩
end Go.Proofs.Ytafloaabjinkfaa
