/-
  No cell of these rows narrows 'for every input' (looked for: loops, veiled, ifaces, maps, wideKeys, modest, calm, conditions, laid).
  DERIVED. THE GIVEN ROWS OF THIS SEAT. 5 by the template 'for every input the law returns true; each argument reads behind the call as it read before'; 0 by the template 'total and deterministic' (their statements: YthjpknipnmagkaaTotals.lean).
  GIVEN WITH THE SEED: the statements are not yours to turn. If you find one false, say at which input.
  Laid BY PROGRAM, IN A SANDBOX (cutbox-rows.mjs): the forced cells as the released guide's own fill.sh prints them over the translation 47edaebaabb8399b… (all of the seat's roots in one cut). By AI agents, Wed Nov 11 2026. No macro, syntax, notation, axiom, sorry.
-/
import Derived.Test.YthjpknipnmagkaaChecked
import GoSem.Claim
import GoSem.ClaimJoined
import GoSem.ClaimMapViews
import Derived.JoinedTies
import Derived.KernelRfl
namespace Go.Proofs.Ythjpknipnmagkaa
/- THE CELL 'sum', in the pinned program and in every row, IS THE sha256 OF THE DUMP (.gsa) THAT YthjpknipnmagkaaProg.lean LOADS. Nothing in Lean hashes anything: it is a label: what it is worth is what the hold of that sum in a sandbox is worth. -/
noncomputable def Try.pinned : Pinned := { name := "ythjpknipnmagkaa", sum := "47edaebaabb8399b693d59c7fdd822726ef3b5ca2be1fa39b756362adf3de539", checked := Try.checked }
namespace Rows
def none {H : Type} : Left H := { results := [], args := [] }

/-- 'variorumlaw9.PlanZero': WHATEVER THE INPUT: true; the input reads as it did. -/
def planZeroSpec : ChangeSpec := { name := "planZero", fn := fun _ => fun
  | [d1, d2] => { results := [.lit (.bool true)], args := [d1, d2] }
  | _ => none }
def planZeroRow : OpenClaim := { program := "ythjpknipnmagkaa", sum := "47edaebaabb8399b693d59c7fdd822726ef3b5ca2be1fa39b756362adf3de539", func := "variorum/variorumlaw9.PlanZero", spec := "planZero", unfollowed := true, recurses := true, named := ["math/bits.divideError", "math/bits.overflowError"], apart := false }
def PlanZeroSaid : Prop := planZeroRow.holds Try.pinned (OpenSpec.ofChange planZeroSpec)

/-- ITS FALSE NEIGHBOUR: 'it returns false'. Refute it at one input. -/
def planZeroWrong : ChangeSpec := { name := "planZero", fn := fun _ => fun
  | [d1, d2] => { results := [.lit (.bool false)], args := [d1, d2] }
  | _ => none }
def PlanZeroWrongFalsely : Prop := planZeroRow.holds Try.pinned (OpenSpec.ofChange planZeroWrong)

/-- 'variorumlaw9.PlanNumbers': WHATEVER THE INPUT: true; the input reads as it did. -/
def planNumbersSpec : ChangeSpec := { name := "planNumbers", fn := fun _ => fun
  | [d1, d2] => { results := [.lit (.bool true)], args := [d1, d2] }
  | _ => none }
def planNumbersRow : OpenClaim := { program := "ythjpknipnmagkaa", sum := "47edaebaabb8399b693d59c7fdd822726ef3b5ca2be1fa39b756362adf3de539", func := "variorum/variorumlaw9.PlanNumbers", spec := "planNumbers", unfollowed := true, recurses := true, named := ["math/bits.divideError", "math/bits.overflowError"], apart := false }
def PlanNumbersSaid : Prop := planNumbersRow.holds Try.pinned (OpenSpec.ofChange planNumbersSpec)

/-- ITS FALSE NEIGHBOUR: 'it returns false'. Refute it at one input. -/
def planNumbersWrong : ChangeSpec := { name := "planNumbers", fn := fun _ => fun
  | [d1, d2] => { results := [.lit (.bool false)], args := [d1, d2] }
  | _ => none }
def PlanNumbersWrongFalsely : Prop := planNumbersRow.holds Try.pinned (OpenSpec.ofChange planNumbersWrong)

/-- 'variorumlaw10.TrialParts': WHATEVER THE INPUT: true; the input reads as it did. -/
def trialPartsSpec : ChangeSpec := { name := "trialParts", fn := fun _ => fun
  | [d1, d2, d3, d4, d5] => { results := [.lit (.bool true)], args := [d1, d2, d3, d4, d5] }
  | _ => none }
def trialPartsRow : OpenClaim := { program := "ythjpknipnmagkaa", sum := "47edaebaabb8399b693d59c7fdd822726ef3b5ca2be1fa39b756362adf3de539", func := "variorum/variorumlaw10.TrialParts", spec := "trialParts", inPlace := ["slices.overlaps[variorum/api.Journal]", "math/bits.Add64", "slices.overlaps[variorum/api.Account]"], unfollowed := true, recurses := true, apart := false }
def TrialPartsSaid : Prop := trialPartsRow.holds Try.pinned (OpenSpec.ofChange trialPartsSpec)

/-- ITS FALSE NEIGHBOUR: 'it returns false'. Refute it at one input. -/
def trialPartsWrong : ChangeSpec := { name := "trialParts", fn := fun _ => fun
  | [d1, d2, d3, d4, d5] => { results := [.lit (.bool false)], args := [d1, d2, d3, d4, d5] }
  | _ => none }
def TrialPartsWrongFalsely : Prop := trialPartsRow.holds Try.pinned (OpenSpec.ofChange trialPartsWrong)

/-- 'variorumlaw10.TrialVoid': WHATEVER THE INPUT: true; the input reads as it did. -/
def trialVoidSpec : ChangeSpec := { name := "trialVoid", fn := fun _ => fun
  | [d1, d2, d3, d4] => { results := [.lit (.bool true)], args := [d1, d2, d3, d4] }
  | _ => none }
def trialVoidRow : OpenClaim := { program := "ythjpknipnmagkaa", sum := "47edaebaabb8399b693d59c7fdd822726ef3b5ca2be1fa39b756362adf3de539", func := "variorum/variorumlaw10.TrialVoid", spec := "trialVoid", inPlace := ["slices.overlaps[variorum/api.Journal]", "math/bits.Add64"], unfollowed := true, recurses := true, apart := false }
def TrialVoidSaid : Prop := trialVoidRow.holds Try.pinned (OpenSpec.ofChange trialVoidSpec)

/-- ITS FALSE NEIGHBOUR: 'it returns false'. Refute it at one input. -/
def trialVoidWrong : ChangeSpec := { name := "trialVoid", fn := fun _ => fun
  | [d1, d2, d3, d4] => { results := [.lit (.bool false)], args := [d1, d2, d3, d4] }
  | _ => none }
def TrialVoidWrongFalsely : Prop := trialVoidRow.holds Try.pinned (OpenSpec.ofChange trialVoidWrong)

/-- 'variorumlaw10.TrialPlus': WHATEVER THE INPUT: true; the input reads as it did. -/
def trialPlusSpec : ChangeSpec := { name := "trialPlus", fn := fun _ => fun
  | [d1, d2] => { results := [.lit (.bool true)], args := [d1, d2] }
  | _ => none }
def trialPlusRow : OpenClaim := { program := "ythjpknipnmagkaa", sum := "47edaebaabb8399b693d59c7fdd822726ef3b5ca2be1fa39b756362adf3de539", func := "variorum/variorumlaw10.TrialPlus", spec := "trialPlus", inPlace := ["slices.overlaps[variorum/api.Journal]", "math/bits.Add64"], unfollowed := true, recurses := true, apart := false }
def TrialPlusSaid : Prop := trialPlusRow.holds Try.pinned (OpenSpec.ofChange trialPlusSpec)

/-- ITS FALSE NEIGHBOUR: 'it returns false'. Refute it at one input. -/
def trialPlusWrong : ChangeSpec := { name := "trialPlus", fn := fun _ => fun
  | [d1, d2] => { results := [.lit (.bool false)], args := [d1, d2] }
  | _ => none }
def TrialPlusWrongFalsely : Prop := trialPlusRow.holds Try.pinned (OpenSpec.ofChange trialPlusWrong)

/- THE SECOND FORM. 'bulk': how many values and letters a reading holds, each counted each time it is reached (what is shared counts as often as it is met; a slice's spare places count too). A statement '..UptoSaid' is the law's where the arguments, and the package variables that the reading takes, are together of bulk at most 1048576: NARROWER than '..Said'. Prove '..Said' where nothing that the law and all that it calls make is longer than what came in: it says more and counts as full. Else prove '..UptoSaid'. A law counts once. -/
mutual
def uptoBulk {H : Type} : DataW H → Nat
  | .lit (.string bytes) => bytes.length + 1
  | .lit _ => 1
  | .nil => 1
  | .ptr d => uptoBulk d + 1
  | .slice elems spare => uptoBulkAll elems + uptoBulkAll spare + 1
  | .agg parts => uptoBulkAll parts + 1
  | .iface _ d => uptoBulk d + 1
  | .map entries => uptoBulkEntries entries + 1
  | .held _ => 1
def uptoBulkAll {H : Type} : List (DataW H) → Nat
  | [] => 0
  | d :: r => uptoBulk d + uptoBulkAll r
def uptoBulkEntries {H : Type} : List (Lit × DataW H) → Nat
  | [] => 0
  | x :: r => uptoBulkEntry x + uptoBulkEntries r
def uptoBulkEntry {H : Type} : Lit × DataW H → Nat
  | (.string bytes, d) => bytes.length + uptoBulk d + 1
  | (_, d) => uptoBulk d + 1
 end
def uptoSmall : (H : Type) → List (DataW H) → Bool := fun _ ds => decide (uptoBulkAll ds ≤ 1048576)
def OpenSpec.upto (s : _root_.Go.ChangeSpec) : _root_.Go.OpenSpec := { _root_.Go.OpenSpec.ofChange s with cond := some uptoSmall }

/-- 'variorumlaw9.PlanZero', WHERE WHAT IT READS IS OF BULK AT MOST 1048576: true; the input reads as it did. -/
def planZeroUptoRow : OpenClaim := { program := "ythjpknipnmagkaa", sum := "47edaebaabb8399b693d59c7fdd822726ef3b5ca2be1fa39b756362adf3de539", func := "variorum/variorumlaw9.PlanZero", spec := "planZero", unfollowed := true, recurses := true, named := ["math/bits.divideError", "math/bits.overflowError"], apart := false, narrowed := true }
def PlanZeroUptoSaid : Prop := planZeroUptoRow.holds Try.pinned (OpenSpec.upto planZeroSpec)

/-- 'variorumlaw9.PlanNumbers', WHERE WHAT IT READS IS OF BULK AT MOST 1048576: true; the input reads as it did. -/
def planNumbersUptoRow : OpenClaim := { program := "ythjpknipnmagkaa", sum := "47edaebaabb8399b693d59c7fdd822726ef3b5ca2be1fa39b756362adf3de539", func := "variorum/variorumlaw9.PlanNumbers", spec := "planNumbers", unfollowed := true, recurses := true, named := ["math/bits.divideError", "math/bits.overflowError"], apart := false, narrowed := true }
def PlanNumbersUptoSaid : Prop := planNumbersUptoRow.holds Try.pinned (OpenSpec.upto planNumbersSpec)

/-- 'variorumlaw10.TrialParts', WHERE WHAT IT READS IS OF BULK AT MOST 1048576: true; the input reads as it did. -/
def trialPartsUptoRow : OpenClaim := { program := "ythjpknipnmagkaa", sum := "47edaebaabb8399b693d59c7fdd822726ef3b5ca2be1fa39b756362adf3de539", func := "variorum/variorumlaw10.TrialParts", spec := "trialParts", inPlace := ["slices.overlaps[variorum/api.Journal]", "math/bits.Add64", "slices.overlaps[variorum/api.Account]"], unfollowed := true, recurses := true, apart := false, narrowed := true }
def TrialPartsUptoSaid : Prop := trialPartsUptoRow.holds Try.pinned (OpenSpec.upto trialPartsSpec)

/-- 'variorumlaw10.TrialVoid', WHERE WHAT IT READS IS OF BULK AT MOST 1048576: true; the input reads as it did. -/
def trialVoidUptoRow : OpenClaim := { program := "ythjpknipnmagkaa", sum := "47edaebaabb8399b693d59c7fdd822726ef3b5ca2be1fa39b756362adf3de539", func := "variorum/variorumlaw10.TrialVoid", spec := "trialVoid", inPlace := ["slices.overlaps[variorum/api.Journal]", "math/bits.Add64"], unfollowed := true, recurses := true, apart := false, narrowed := true }
def TrialVoidUptoSaid : Prop := trialVoidUptoRow.holds Try.pinned (OpenSpec.upto trialVoidSpec)

/-- 'variorumlaw10.TrialPlus', WHERE WHAT IT READS IS OF BULK AT MOST 1048576: true; the input reads as it did. -/
def trialPlusUptoRow : OpenClaim := { program := "ythjpknipnmagkaa", sum := "47edaebaabb8399b693d59c7fdd822726ef3b5ca2be1fa39b756362adf3de539", func := "variorum/variorumlaw10.TrialPlus", spec := "trialPlus", inPlace := ["slices.overlaps[variorum/api.Journal]", "math/bits.Add64"], unfollowed := true, recurses := true, apart := false, narrowed := true }
def TrialPlusUptoSaid : Prop := trialPlusUptoRow.holds Try.pinned (OpenSpec.upto trialPlusSpec)

end Rows
end Go.Proofs.Ythjpknipnmagkaa
