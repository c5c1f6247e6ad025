/-
  Journals that came in.
-/
import Derived.Test.YtjnlfecfpeedoaaArgJrn
import Derived.Test.YtjnlfecfpeedoaaTomeOf
namespace Go.Proofs.Ytjnlfecfpeedoaa
open Go.RowKit

instance : Inhabited JR := ⟨⟨zeroJ, none, 0⟩⟩
/-- What a row that came in is. -/
def JR.came (w : World) (a : JR) : Prop := Rd w w.heap.size 3 a.A a.j.lines.length (lins a.j.lines) ∧ (a.A = none → a.c = 0) ∧ a.j.ref.size ≤ maxLen ∧ a.j.lines.length ≤ maxLen
set_option maxRecDepth 100000 in
theorem argJrns {H : Type} {enc : TypeId × Value → H} {w : World} {base : Nat} {spare : Nat → Bool} {held : Bool} {fuel : Nat} {A : Option Addr} {n c : Nat} {x : DataW H × List MemPlace}
    (h : DataW.trod enc Try.prog w base spare held fuel 22 (Value.cells (.slice A n c)).toList = some x) : ∃ l : List JR, JlRd w w.heap.size A n l ∧ n ≤ maxLen ∧ n ≤ c ∧ (A = none → c = 0) := by
  obtain ⟨l, q⟩ : ∃ l : List JR, ArgRd JR.cells 6 (JR.came w) w A n c l :=
    argRd_of_trod _ 6 _ Try.underlying22 (by kernel_rfl) (by omega) (fun _ => rfl) (fun m cs y hy => by
      have hy2 : DataW.trod enc Try.prog w base spare held m 33 (Value.cells (.agg cs.toArray)).toList = some y := by simpa [Value.cells] using hy
      obtain ⟨j, A, n, c, hv, hL, _, hs⟩ := argJrn hy2
      obtain rfl : j.lines.length = n := hL.rd.lins_len
      refine ⟨⟨j, A, c⟩, ?_, hL.rd, hL.nil, hs, hL.len⟩
      unfold Jrn.val at hv
      injection hv with hv
      have := congrArg Array.toList hv
      simpa [JR.cells] using this) h
  exact ⟨l, ⟨q.rd, fun a ha => (q.wf a ha).1, fun a ha => (q.wf a ha).2.1, fun a ha => (q.wf a ha).2.2⟩, q.len, q.cap, q.nil⟩
end Go.Proofs.Ytjnlfecfpeedoaa
