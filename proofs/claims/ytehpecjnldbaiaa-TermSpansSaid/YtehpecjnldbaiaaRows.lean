/-
  No cell of these rows narrows 'for every input' (looked for: loops, veiled, ifaces, maps, wideKeys, modest, calm, conditions, laid).
  DERIVED. THE GIVEN ROWS OF THIS SEAT. 5 by the template 'for every input the law returns true; each argument reads behind the call as it read before'; 0 by the template 'total and deterministic' (their statements: YtehpecjnldbaiaaTotals.lean).
  GIVEN WITH THE SEED: the statements are not yours to turn. If you find one false, say at which input.
  Laid BY PROGRAM, IN A SANDBOX (cutbox-rows.mjs): the forced cells as the released guide's own fill.sh prints them over the translation 8ece6368b876a9dc… (all of the seat's roots in one cut). By AI agents, Wed Nov 11 2026. No macro, syntax, notation, axiom, sorry.
-/
import Derived.Test.YtehpecjnldbaiaaChecked
import GoSem.Claim
import GoSem.ClaimJoined
import GoSem.ClaimMapViews
import Derived.JoinedTies
import Derived.KernelRfl
namespace Go.Proofs.Ytehpecjnldbaiaa
/- THE CELL 'sum', in the pinned program and in every row, IS THE sha256 OF THE DUMP (.gsa) THAT YtehpecjnldbaiaaProg.lean LOADS. Nothing in Lean hashes anything: it is a label: what it is worth is what the hold of that sum in a sandbox is worth. -/
noncomputable def Try.pinned : Pinned := { name := "ytehpecjnldbaiaa", sum := "8ece6368b876a9dc00fda7534122110b41c5c607374d61fe805dd6e1384f239b", checked := Try.checked }
namespace Rows
def none {H : Type} : Left H := { results := [], args := [] }

/-- 'variorumlaw2.TermTells': WHATEVER THE INPUT: true; the input reads as it did. -/
def termTellsSpec : ChangeSpec := { name := "termTells", fn := fun _ => fun
  | [d1, d2, d3, d4] => { results := [.lit (.bool true)], args := [d1, d2, d3, d4] }
  | _ => none }
def termTellsRow : OpenClaim := { program := "ytehpecjnldbaiaa", sum := "8ece6368b876a9dc00fda7534122110b41c5c607374d61fe805dd6e1384f239b", func := "variorum/variorumlaw2.TermTells", spec := "termTells", apart := false }
def TermTellsSaid : Prop := termTellsRow.holds Try.pinned (OpenSpec.ofChange termTellsSpec)

/-- ITS FALSE NEIGHBOUR: 'it returns false'. Refute it at one input. -/
def termTellsWrong : ChangeSpec := { name := "termTells", fn := fun _ => fun
  | [d1, d2, d3, d4] => { results := [.lit (.bool false)], args := [d1, d2, d3, d4] }
  | _ => none }
def TermTellsWrongFalsely : Prop := termTellsRow.holds Try.pinned (OpenSpec.ofChange termTellsWrong)

/-- 'variorumlaw2.TermTexts': WHATEVER THE INPUT: true; the input reads as it did. -/
def termTextsSpec : ChangeSpec := { name := "termTexts", fn := fun _ => fun
  | [d1, d2] => { results := [.lit (.bool true)], args := [d1, d2] }
  | _ => none }
def termTextsRow : OpenClaim := { program := "ytehpecjnldbaiaa", sum := "8ece6368b876a9dc00fda7534122110b41c5c607374d61fe805dd6e1384f239b", func := "variorum/variorumlaw2.TermTexts", spec := "termTexts", apart := false }
def TermTextsSaid : Prop := termTextsRow.holds Try.pinned (OpenSpec.ofChange termTextsSpec)

/-- ITS FALSE NEIGHBOUR: 'it returns false'. Refute it at one input. -/
def termTextsWrong : ChangeSpec := { name := "termTexts", fn := fun _ => fun
  | [d1, d2] => { results := [.lit (.bool false)], args := [d1, d2] }
  | _ => none }
def TermTextsWrongFalsely : Prop := termTextsRow.holds Try.pinned (OpenSpec.ofChange termTextsWrong)

/-- 'variorumlaw2.TermSpans': WHATEVER THE INPUT: true; the input reads as it did. -/
def termSpansSpec : ChangeSpec := { name := "termSpans", fn := fun _ => fun
  | [d1, d2] => { results := [.lit (.bool true)], args := [d1, d2] }
  | _ => none }
def termSpansRow : OpenClaim := { program := "ytehpecjnldbaiaa", sum := "8ece6368b876a9dc00fda7534122110b41c5c607374d61fe805dd6e1384f239b", func := "variorum/variorumlaw2.TermSpans", spec := "termSpans", unfollowed := true, recurses := true, apart := false }
def TermSpansSaid : Prop := termSpansRow.holds Try.pinned (OpenSpec.ofChange termSpansSpec)

/-- ITS FALSE NEIGHBOUR: 'it returns false'. Refute it at one input. -/
def termSpansWrong : ChangeSpec := { name := "termSpans", fn := fun _ => fun
  | [d1, d2] => { results := [.lit (.bool false)], args := [d1, d2] }
  | _ => none }
def TermSpansWrongFalsely : Prop := termSpansRow.holds Try.pinned (OpenSpec.ofChange termSpansWrong)

/-- 'variorumlaw2.TermSteps': WHATEVER THE INPUT: true; the input reads as it did. -/
def termStepsSpec : ChangeSpec := { name := "termSteps", fn := fun _ => fun
  | [d1, d2, d3] => { results := [.lit (.bool true)], args := [d1, d2, d3] }
  | _ => none }
def termStepsRow : OpenClaim := { program := "ytehpecjnldbaiaa", sum := "8ece6368b876a9dc00fda7534122110b41c5c607374d61fe805dd6e1384f239b", func := "variorum/variorumlaw2.TermSteps", spec := "termSteps", apart := false }
def TermStepsSaid : Prop := termStepsRow.holds Try.pinned (OpenSpec.ofChange termStepsSpec)

/-- ITS FALSE NEIGHBOUR: 'it returns false'. Refute it at one input. -/
def termStepsWrong : ChangeSpec := { name := "termSteps", fn := fun _ => fun
  | [d1, d2, d3] => { results := [.lit (.bool false)], args := [d1, d2, d3] }
  | _ => none }
def TermStepsWrongFalsely : Prop := termStepsRow.holds Try.pinned (OpenSpec.ofChange termStepsWrong)

/-- 'variorumlaw2.TermYears': WHATEVER THE INPUT: true; the input reads as it did. -/
def termYearsSpec : ChangeSpec := { name := "termYears", fn := fun _ => fun
  | [d] => { results := [.lit (.bool true)], args := [d] }
  | _ => none }
def termYearsRow : OpenClaim := { program := "ytehpecjnldbaiaa", sum := "8ece6368b876a9dc00fda7534122110b41c5c607374d61fe805dd6e1384f239b", func := "variorum/variorumlaw2.TermYears", spec := "termYears", apart := false }
def TermYearsSaid : Prop := termYearsRow.holds Try.pinned (OpenSpec.ofChange termYearsSpec)

/-- ITS FALSE NEIGHBOUR: 'it returns false'. Refute it at one input. -/
def termYearsWrong : ChangeSpec := { name := "termYears", fn := fun _ => fun
  | [d] => { results := [.lit (.bool false)], args := [d] }
  | _ => none }
def TermYearsWrongFalsely : Prop := termYearsRow.holds Try.pinned (OpenSpec.ofChange termYearsWrong)

/- THE SECOND FORM. 'bulk': how many values and letters a reading holds, each counted each time it is reached (what is shared counts as often as it is met; a slice's spare places count too). A statement '..UptoSaid' is the law's where the arguments, and the package variables that the reading takes, are together of bulk at most 1048576: NARROWER than '..Said'. Prove '..Said' where nothing that the law and all that it calls make is longer than what came in: it says more and counts as full. Else prove '..UptoSaid'. A law counts once. -/
mutual
def uptoBulk {H : Type} : DataW H → Nat
  | .lit (.string bytes) => bytes.length + 1
  | .lit _ => 1
  | .nil => 1
  | .ptr d => uptoBulk d + 1
  | .slice elems spare => uptoBulkAll elems + uptoBulkAll spare + 1
  | .agg parts => uptoBulkAll parts + 1
  | .iface _ d => uptoBulk d + 1
  | .map entries => uptoBulkEntries entries + 1
  | .held _ => 1
def uptoBulkAll {H : Type} : List (DataW H) → Nat
  | [] => 0
  | d :: r => uptoBulk d + uptoBulkAll r
def uptoBulkEntries {H : Type} : List (Lit × DataW H) → Nat
  | [] => 0
  | x :: r => uptoBulkEntry x + uptoBulkEntries r
def uptoBulkEntry {H : Type} : Lit × DataW H → Nat
  | (.string bytes, d) => bytes.length + uptoBulk d + 1
  | (_, d) => uptoBulk d + 1
 end
def uptoSmall : (H : Type) → List (DataW H) → Bool := fun _ ds => decide (uptoBulkAll ds ≤ 1048576)
def OpenSpec.upto (s : _root_.Go.ChangeSpec) : _root_.Go.OpenSpec := { _root_.Go.OpenSpec.ofChange s with cond := some uptoSmall }

/-- 'variorumlaw2.TermTells', WHERE WHAT IT READS IS OF BULK AT MOST 1048576: true; the input reads as it did. -/
def termTellsUptoRow : OpenClaim := { program := "ytehpecjnldbaiaa", sum := "8ece6368b876a9dc00fda7534122110b41c5c607374d61fe805dd6e1384f239b", func := "variorum/variorumlaw2.TermTells", spec := "termTells", apart := false, narrowed := true }
def TermTellsUptoSaid : Prop := termTellsUptoRow.holds Try.pinned (OpenSpec.upto termTellsSpec)

/-- 'variorumlaw2.TermTexts', WHERE WHAT IT READS IS OF BULK AT MOST 1048576: true; the input reads as it did. -/
def termTextsUptoRow : OpenClaim := { program := "ytehpecjnldbaiaa", sum := "8ece6368b876a9dc00fda7534122110b41c5c607374d61fe805dd6e1384f239b", func := "variorum/variorumlaw2.TermTexts", spec := "termTexts", apart := false, narrowed := true }
def TermTextsUptoSaid : Prop := termTextsUptoRow.holds Try.pinned (OpenSpec.upto termTextsSpec)

/-- 'variorumlaw2.TermSpans', WHERE WHAT IT READS IS OF BULK AT MOST 1048576: true; the input reads as it did. -/
def termSpansUptoRow : OpenClaim := { program := "ytehpecjnldbaiaa", sum := "8ece6368b876a9dc00fda7534122110b41c5c607374d61fe805dd6e1384f239b", func := "variorum/variorumlaw2.TermSpans", spec := "termSpans", unfollowed := true, recurses := true, apart := false, narrowed := true }
def TermSpansUptoSaid : Prop := termSpansUptoRow.holds Try.pinned (OpenSpec.upto termSpansSpec)

/-- 'variorumlaw2.TermSteps', WHERE WHAT IT READS IS OF BULK AT MOST 1048576: true; the input reads as it did. -/
def termStepsUptoRow : OpenClaim := { program := "ytehpecjnldbaiaa", sum := "8ece6368b876a9dc00fda7534122110b41c5c607374d61fe805dd6e1384f239b", func := "variorum/variorumlaw2.TermSteps", spec := "termSteps", apart := false, narrowed := true }
def TermStepsUptoSaid : Prop := termStepsUptoRow.holds Try.pinned (OpenSpec.upto termStepsSpec)

/-- 'variorumlaw2.TermYears', WHERE WHAT IT READS IS OF BULK AT MOST 1048576: true; the input reads as it did. -/
def termYearsUptoRow : OpenClaim := { program := "ytehpecjnldbaiaa", sum := "8ece6368b876a9dc00fda7534122110b41c5c607374d61fe805dd6e1384f239b", func := "variorum/variorumlaw2.TermYears", spec := "termYears", apart := false, narrowed := true }
def TermYearsUptoSaid : Prop := termYearsUptoRow.holds Try.pinned (OpenSpec.upto termYearsSpec)

end Rows
end Go.Proofs.Ytehpecjnldbaiaa
