/-
  No cell of these rows narrows 'for every input' (looked for: loops, veiled, ifaces, maps, wideKeys, modest, calm, conditions, laid).
  DERIVED. THE GIVEN ROWS OF THIS SEAT. 3 by the template 'for every input the law returns true; each argument reads behind the call as it read before'; 0 by the template 'total and deterministic' (their statements: YtgoekobolomppaaTotals.lean).
  GIVEN WITH THE SEED: the statements are not yours to turn. If you find one false, say at which input.
  Laid BY PROGRAM, IN A SANDBOX (cutbox-rows.mjs): the forced cells as the released guide's own fill.sh prints them over the translation a9dcecb822ecd473… (all of the seat's roots in one cut). By AI agents, Wed Nov 11 2026. No macro, syntax, notation, axiom, sorry.
-/
import Derived.Test.YtgoekobolomppaaChecked
import GoSem.Claim
import GoSem.ClaimJoined
import GoSem.ClaimMapViews
import Derived.JoinedTies
import Derived.KernelRfl
namespace Go.Proofs.Ytgoekobolomppaa
/- THE CELL 'sum', in the pinned program and in every row, IS THE sha256 OF THE DUMP (.gsa) THAT YtgoekobolomppaaProg.lean LOADS. Nothing in Lean hashes anything: it is a label: what it is worth is what the hold of that sum in a sandbox is worth. -/
noncomputable def Try.pinned : Pinned := { name := "ytgoekobolomppaa", sum := "a9dcecb822ecd47338f3fbb369e11bad56d987fa9199043237125b1e99800c89", checked := Try.checked }
namespace Rows
def none {H : Type} : Left H := { results := [], args := [] }

/-- 'variorumlaw5.GatesPlay': WHATEVER THE INPUT: true; the input reads as it did. -/
def gatesPlaySpec : ChangeSpec := { name := "gatesPlay", fn := fun _ => fun
  | [d1, d2, d3] => { results := [.lit (.bool true)], args := [d1, d2, d3] }
  | _ => none }
def gatesPlayRow : OpenClaim := { program := "ytgoekobolomppaa", sum := "a9dcecb822ecd47338f3fbb369e11bad56d987fa9199043237125b1e99800c89", func := "variorum/variorumlaw5.GatesPlay", spec := "gatesPlay", inPlace := ["slices.overlaps[[3]int]"], unfollowed := true, recurses := true, apart := false }
def GatesPlaySaid : Prop := gatesPlayRow.holds Try.pinned (OpenSpec.ofChange gatesPlaySpec)

/-- ITS FALSE NEIGHBOUR: 'it returns false'. Refute it at one input. -/
def gatesPlayWrong : ChangeSpec := { name := "gatesPlay", fn := fun _ => fun
  | [d1, d2, d3] => { results := [.lit (.bool false)], args := [d1, d2, d3] }
  | _ => none }
def GatesPlayWrongFalsely : Prop := gatesPlayRow.holds Try.pinned (OpenSpec.ofChange gatesPlayWrong)

/-- 'variorumlaw5.GatesWays': WHATEVER THE INPUT: true; the input reads as it did. -/
def gatesWaysSpec : ChangeSpec := { name := "gatesWays", fn := fun _ => fun
  | [d1, d2, d3, d4] => { results := [.lit (.bool true)], args := [d1, d2, d3, d4] }
  | _ => none }
def gatesWaysRow : OpenClaim := { program := "ytgoekobolomppaa", sum := "a9dcecb822ecd47338f3fbb369e11bad56d987fa9199043237125b1e99800c89", func := "variorum/variorumlaw5.GatesWays", spec := "gatesWays", inPlace := ["slices.overlaps[[3]int]"], unfollowed := true, recurses := true, apart := false }
def GatesWaysSaid : Prop := gatesWaysRow.holds Try.pinned (OpenSpec.ofChange gatesWaysSpec)

/-- ITS FALSE NEIGHBOUR: 'it returns false'. Refute it at one input. -/
def gatesWaysWrong : ChangeSpec := { name := "gatesWays", fn := fun _ => fun
  | [d1, d2, d3, d4] => { results := [.lit (.bool false)], args := [d1, d2, d3, d4] }
  | _ => none }
def GatesWaysWrongFalsely : Prop := gatesWaysRow.holds Try.pinned (OpenSpec.ofChange gatesWaysWrong)

/-- 'variorumlaw5.GatesApart': WHATEVER THE INPUT: true; the input reads as it did. -/
def gatesApartSpec : ChangeSpec := { name := "gatesApart", fn := fun _ => fun
  | [d1, d2, d3, d4] => { results := [.lit (.bool true)], args := [d1, d2, d3, d4] }
  | _ => none }
def gatesApartRow : OpenClaim := { program := "ytgoekobolomppaa", sum := "a9dcecb822ecd47338f3fbb369e11bad56d987fa9199043237125b1e99800c89", func := "variorum/variorumlaw5.GatesApart", spec := "gatesApart", inPlace := ["slices.overlaps[[3]int]"], unfollowed := true, recurses := true, apart := false }
def GatesApartSaid : Prop := gatesApartRow.holds Try.pinned (OpenSpec.ofChange gatesApartSpec)

/-- ITS FALSE NEIGHBOUR: 'it returns false'. Refute it at one input. -/
def gatesApartWrong : ChangeSpec := { name := "gatesApart", fn := fun _ => fun
  | [d1, d2, d3, d4] => { results := [.lit (.bool false)], args := [d1, d2, d3, d4] }
  | _ => none }
def GatesApartWrongFalsely : Prop := gatesApartRow.holds Try.pinned (OpenSpec.ofChange gatesApartWrong)

/- THE SECOND FORM. 'bulk': how many values and letters a reading holds, each counted each time it is reached (what is shared counts as often as it is met; a slice's spare places count too). A statement '..UptoSaid' is the law's where the arguments, and the package variables that the reading takes, are together of bulk at most 1048576: NARROWER than '..Said'. Prove '..Said' where nothing that the law and all that it calls make is longer than what came in: it says more and counts as full. Else prove '..UptoSaid'. A law counts once. -/
mutual
def uptoBulk {H : Type} : DataW H → Nat
  | .lit (.string bytes) => bytes.length + 1
  | .lit _ => 1
  | .nil => 1
  | .ptr d => uptoBulk d + 1
  | .slice elems spare => uptoBulkAll elems + uptoBulkAll spare + 1
  | .agg parts => uptoBulkAll parts + 1
  | .iface _ d => uptoBulk d + 1
  | .map entries => uptoBulkEntries entries + 1
  | .held _ => 1
def uptoBulkAll {H : Type} : List (DataW H) → Nat
  | [] => 0
  | d :: r => uptoBulk d + uptoBulkAll r
def uptoBulkEntries {H : Type} : List (Lit × DataW H) → Nat
  | [] => 0
  | x :: r => uptoBulkEntry x + uptoBulkEntries r
def uptoBulkEntry {H : Type} : Lit × DataW H → Nat
  | (.string bytes, d) => bytes.length + uptoBulk d + 1
  | (_, d) => uptoBulk d + 1
 end
def uptoSmall : (H : Type) → List (DataW H) → Bool := fun _ ds => decide (uptoBulkAll ds ≤ 1048576)
def OpenSpec.upto (s : _root_.Go.ChangeSpec) : _root_.Go.OpenSpec := { _root_.Go.OpenSpec.ofChange s with cond := some uptoSmall }

/-- 'variorumlaw5.GatesPlay', WHERE WHAT IT READS IS OF BULK AT MOST 1048576: true; the input reads as it did. -/
def gatesPlayUptoRow : OpenClaim := { program := "ytgoekobolomppaa", sum := "a9dcecb822ecd47338f3fbb369e11bad56d987fa9199043237125b1e99800c89", func := "variorum/variorumlaw5.GatesPlay", spec := "gatesPlay", inPlace := ["slices.overlaps[[3]int]"], unfollowed := true, recurses := true, apart := false, narrowed := true }
def GatesPlayUptoSaid : Prop := gatesPlayUptoRow.holds Try.pinned (OpenSpec.upto gatesPlaySpec)

/-- 'variorumlaw5.GatesWays', WHERE WHAT IT READS IS OF BULK AT MOST 1048576: true; the input reads as it did. -/
def gatesWaysUptoRow : OpenClaim := { program := "ytgoekobolomppaa", sum := "a9dcecb822ecd47338f3fbb369e11bad56d987fa9199043237125b1e99800c89", func := "variorum/variorumlaw5.GatesWays", spec := "gatesWays", inPlace := ["slices.overlaps[[3]int]"], unfollowed := true, recurses := true, apart := false, narrowed := true }
def GatesWaysUptoSaid : Prop := gatesWaysUptoRow.holds Try.pinned (OpenSpec.upto gatesWaysSpec)

/-- 'variorumlaw5.GatesApart', WHERE WHAT IT READS IS OF BULK AT MOST 1048576: true; the input reads as it did. -/
def gatesApartUptoRow : OpenClaim := { program := "ytgoekobolomppaa", sum := "a9dcecb822ecd47338f3fbb369e11bad56d987fa9199043237125b1e99800c89", func := "variorum/variorumlaw5.GatesApart", spec := "gatesApart", inPlace := ["slices.overlaps[[3]int]"], unfollowed := true, recurses := true, apart := false, narrowed := true }
def GatesApartUptoSaid : Prop := gatesApartUptoRow.holds Try.pinned (OpenSpec.upto gatesApartSpec)

end Rows
end Go.Proofs.Ytgoekobolomppaa
