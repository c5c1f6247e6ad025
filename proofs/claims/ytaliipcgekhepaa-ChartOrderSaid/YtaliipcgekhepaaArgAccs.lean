/-
  Slices of accounts that came in.
-/
import Derived.Test.YtaliipcgekhepaaArgRd
import Derived.Test.YtaliipcgekhepaaAccs
namespace Go.Proofs.Ytaliipcgekhepaa
open Go.RowKit

instance : Inhabited Acc := ⟨⟨0, 0, false⟩⟩
def Acc.wf (a : Acc) : Prop := i64ok a.code ∧ i64ok a.kind
set_option maxRecDepth 100000 in
theorem argAccs {H : Type} {enc : TypeId × Value → H} {w : World} {base : Nat} {spare : Nat → Bool} {held : Bool} {fuel : Nat} {A : Option Addr} {n c : Nat} {x : DataW H × List MemPlace}
    (h : DataW.trod enc Try.prog w base spare held fuel 24 (Value.cells (.slice A n c)).toList = some x) : ∃ l : List Acc, ArgRd Acc.cells 3 Acc.wf w A n c l :=
  argRd_of_trod _ 3 Acc.wf Try.underlying24 (by kernel_rfl) (by omega) (fun _ => rfl) (fun m cs y hy => by
    obtain ⟨xs, q, _, _, hl, hx, hf⟩ := DataW.trod_struct Try.underlying28 hy
    have hl : cs.length = 3 := hl.trans (by kernel_rfl)
    have hx : xs.length = 3 := hx
    match cs, hl with
    | [c0, c1, c2], _ =>
      obtain ⟨y0, h0⟩ := part_at (k := 1) (by kernel_rfl) (hf 0 _ rfl) (by omega)
      obtain ⟨y1, h1⟩ := part_at (k := 1) (by kernel_rfl) (hf 1 _ rfl) (by omega)
      obtain ⟨y2, h2⟩ := part_at (k := 1) (by kernel_rfl) (hf 2 _ rfl) (by omega)
      obtain ⟨n0, e0, _, w0⟩ := DataW.trod_int Try.underlying3 h0
      obtain ⟨n1, e1, _, w1⟩ := DataW.trod_int Try.underlying3 h1
      obtain ⟨b2, e2, _⟩ := DataW.trod_bool Try.underlying4 h2
      simp at e0 e1 e2
      subst e0 e1 e2
      exact ⟨⟨n0, n1, b2⟩, rfl, bounds_i64 w0, bounds_i64 w1⟩) h
end Go.Proofs.Ytaliipcgekhepaa
