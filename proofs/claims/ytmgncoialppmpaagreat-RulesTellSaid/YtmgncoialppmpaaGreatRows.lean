/-
  No cell of these rows narrows 'for every input' (looked for: loops, veiled, ifaces, maps, wideKeys, modest, calm, conditions, laid).
  DERIVED. THE GIVEN ROWS OF THIS SEAT. 6 by the template 'for every input the law returns true; each argument reads behind the call as it read before'; 0 by the template 'total and deterministic' (their statements: YtmgncoialppmpaaGreatTotals.lean).
  GIVEN WITH THE SEED: the statements are not yours to turn. If you find one false, say at which input.
  Laid BY PROGRAM, IN A SANDBOX (cutbox-rows.mjs): the forced cells as the released guide's own fill.sh prints them over the translation b8ca42bd7395794f… (all of the seat's roots in one cut). By AI agents, Wed Nov 11 2026. No macro, syntax, notation, axiom, sorry.
-/
import Derived.Test.YtmgncoialppmpaaGreatChecked
import GoSem.Claim
import GoSem.ClaimJoined
import GoSem.ClaimMapViews
import Derived.JoinedTies
import Derived.KernelRfl
namespace Go.Proofs.YtmgncoialppmpaaGreat
/- THE CELL 'sum', in the pinned program and in every row, IS THE sha256 OF THE DUMP (.gsa) THAT YtmgncoialppmpaaGreatProg.lean LOADS. Nothing in Lean hashes anything: it is a label: what it is worth is what the hold of that sum in a sandbox is worth. -/
noncomputable def Tryz.pinned : Pinned := { name := "ytmgncoialppmpaagreat", sum := "b8ca42bd7395794fbc4ed8d7fe5d28e8c4e80373ce9c7d4508ec7be28a7d0ac6", checked := Tryz.checked }
namespace Rows
def none {H : Type} : Left H := { results := [], args := [] }

/-- 'variorumlaw7.RulesTell': WHATEVER THE INPUT: true; the input reads as it did. -/
def rulesTellSpec : ChangeSpec := { name := "rulesTell", fn := fun _ => fun
  | [d1, d2, d3, d4, d5, d6, d7] => { results := [.lit (.bool true)], args := [d1, d2, d3, d4, d5, d6, d7] }
  | _ => none }
def rulesTellRow : OpenClaim := { program := "ytmgncoialppmpaagreat", sum := "b8ca42bd7395794fbc4ed8d7fe5d28e8c4e80373ce9c7d4508ec7be28a7d0ac6", func := "variorum/variorumlaw7.RulesTell", spec := "rulesTell", inPlace := ["slices.overlaps[[3]int]", "slices.overlaps[variorum/api.Account]", "slices.overlaps[variorum/api.Journal]"], unfollowed := true, recurses := true, plainKeys := false, apart := false }
def RulesTellSaid : Prop := rulesTellRow.holds Tryz.pinned (OpenSpec.ofChange rulesTellSpec)

/-- ITS FALSE NEIGHBOUR: 'it returns false'. Refute it at one input. -/
def rulesTellWrong : ChangeSpec := { name := "rulesTell", fn := fun _ => fun
  | [d1, d2, d3, d4, d5, d6, d7] => { results := [.lit (.bool false)], args := [d1, d2, d3, d4, d5, d6, d7] }
  | _ => none }
def RulesTellWrongFalsely : Prop := rulesTellRow.holds Tryz.pinned (OpenSpec.ofChange rulesTellWrong)

/-- 'variorumlaw7.RulesLead': WHATEVER THE INPUT: true; the input reads as it did. -/
def rulesLeadSpec : ChangeSpec := { name := "rulesLead", fn := fun _ => fun
  | [d1, d2, d3] => { results := [.lit (.bool true)], args := [d1, d2, d3] }
  | _ => none }
def rulesLeadRow : OpenClaim := { program := "ytmgncoialppmpaagreat", sum := "b8ca42bd7395794fbc4ed8d7fe5d28e8c4e80373ce9c7d4508ec7be28a7d0ac6", func := "variorum/variorumlaw7.RulesLead", spec := "rulesLead", inPlace := ["slices.overlaps[[3]int]", "slices.overlaps[variorum/api.Account]", "slices.overlaps[variorum/api.Journal]"], unfollowed := true, recurses := true, plainKeys := false, apart := false }
def RulesLeadSaid : Prop := rulesLeadRow.holds Tryz.pinned (OpenSpec.ofChange rulesLeadSpec)

/-- ITS FALSE NEIGHBOUR: 'it returns false'. Refute it at one input. -/
def rulesLeadWrong : ChangeSpec := { name := "rulesLead", fn := fun _ => fun
  | [d1, d2, d3] => { results := [.lit (.bool false)], args := [d1, d2, d3] }
  | _ => none }
def RulesLeadWrongFalsely : Prop := rulesLeadRow.holds Tryz.pinned (OpenSpec.ofChange rulesLeadWrong)

/-- 'variorumlaw7.RulesShut': WHATEVER THE INPUT: true; the input reads as it did. -/
def rulesShutSpec : ChangeSpec := { name := "rulesShut", fn := fun _ => fun
  | [d1, d2] => { results := [.lit (.bool true)], args := [d1, d2] }
  | _ => none }
def rulesShutRow : OpenClaim := { program := "ytmgncoialppmpaagreat", sum := "b8ca42bd7395794fbc4ed8d7fe5d28e8c4e80373ce9c7d4508ec7be28a7d0ac6", func := "variorum/variorumlaw7.RulesShut", spec := "rulesShut", inPlace := ["slices.overlaps[[3]int]", "slices.overlaps[variorum/api.Account]", "slices.overlaps[variorum/api.Journal]"], unfollowed := true, recurses := true, plainKeys := false, apart := false }
def RulesShutSaid : Prop := rulesShutRow.holds Tryz.pinned (OpenSpec.ofChange rulesShutSpec)

/-- ITS FALSE NEIGHBOUR: 'it returns false'. Refute it at one input. -/
def rulesShutWrong : ChangeSpec := { name := "rulesShut", fn := fun _ => fun
  | [d1, d2] => { results := [.lit (.bool false)], args := [d1, d2] }
  | _ => none }
def RulesShutWrongFalsely : Prop := rulesShutRow.holds Tryz.pinned (OpenSpec.ofChange rulesShutWrong)

/-- 'variorumlaw7.RulesGone': WHATEVER THE INPUT: true; the input reads as it did. -/
def rulesGoneSpec : ChangeSpec := { name := "rulesGone", fn := fun _ => fun
  | [d1, d2] => { results := [.lit (.bool true)], args := [d1, d2] }
  | _ => none }
def rulesGoneRow : OpenClaim := { program := "ytmgncoialppmpaagreat", sum := "b8ca42bd7395794fbc4ed8d7fe5d28e8c4e80373ce9c7d4508ec7be28a7d0ac6", func := "variorum/variorumlaw7.RulesGone", spec := "rulesGone", inPlace := ["slices.overlaps[[3]int]", "slices.overlaps[variorum/api.Account]", "slices.overlaps[variorum/api.Journal]"], unfollowed := true, recurses := true, plainKeys := false, apart := false }
def RulesGoneSaid : Prop := rulesGoneRow.holds Tryz.pinned (OpenSpec.ofChange rulesGoneSpec)

/-- ITS FALSE NEIGHBOUR: 'it returns false'. Refute it at one input. -/
def rulesGoneWrong : ChangeSpec := { name := "rulesGone", fn := fun _ => fun
  | [d1, d2] => { results := [.lit (.bool false)], args := [d1, d2] }
  | _ => none }
def RulesGoneWrongFalsely : Prop := rulesGoneRow.holds Tryz.pinned (OpenSpec.ofChange rulesGoneWrong)

/-- 'variorumlaw9.PlanTells': WHATEVER THE INPUT: true; the input reads as it did. -/
def planTellsSpec : ChangeSpec := { name := "planTells", fn := fun _ => fun
  | [d1, d2, d3] => { results := [.lit (.bool true)], args := [d1, d2, d3] }
  | _ => none }
def planTellsRow : OpenClaim := { program := "ytmgncoialppmpaagreat", sum := "b8ca42bd7395794fbc4ed8d7fe5d28e8c4e80373ce9c7d4508ec7be28a7d0ac6", func := "variorum/variorumlaw9.PlanTells", spec := "planTells", unfollowed := true, recurses := true, named := ["math/bits.divideError", "math/bits.overflowError"], plainKeys := false, apart := false }
def PlanTellsSaid : Prop := planTellsRow.holds Tryz.pinned (OpenSpec.ofChange planTellsSpec)

/-- ITS FALSE NEIGHBOUR: 'it returns false'. Refute it at one input. -/
def planTellsWrong : ChangeSpec := { name := "planTells", fn := fun _ => fun
  | [d1, d2, d3] => { results := [.lit (.bool false)], args := [d1, d2, d3] }
  | _ => none }
def PlanTellsWrongFalsely : Prop := planTellsRow.holds Tryz.pinned (OpenSpec.ofChange planTellsWrong)

/-- 'variorumlaw9.PlanRuns': WHATEVER THE INPUT: true; the input reads as it did. -/
def planRunsSpec : ChangeSpec := { name := "planRuns", fn := fun _ => fun
  | [d1, d2] => { results := [.lit (.bool true)], args := [d1, d2] }
  | _ => none }
def planRunsRow : OpenClaim := { program := "ytmgncoialppmpaagreat", sum := "b8ca42bd7395794fbc4ed8d7fe5d28e8c4e80373ce9c7d4508ec7be28a7d0ac6", func := "variorum/variorumlaw9.PlanRuns", spec := "planRuns", unfollowed := true, recurses := true, named := ["math/bits.divideError", "math/bits.overflowError"], plainKeys := false, apart := false }
def PlanRunsSaid : Prop := planRunsRow.holds Tryz.pinned (OpenSpec.ofChange planRunsSpec)

/-- ITS FALSE NEIGHBOUR: 'it returns false'. Refute it at one input. -/
def planRunsWrong : ChangeSpec := { name := "planRuns", fn := fun _ => fun
  | [d1, d2] => { results := [.lit (.bool false)], args := [d1, d2] }
  | _ => none }
def PlanRunsWrongFalsely : Prop := planRunsRow.holds Tryz.pinned (OpenSpec.ofChange planRunsWrong)

/- THE SECOND FORM. 'bulk': how many values and letters a reading holds, each counted each time it is reached (what is shared counts as often as it is met; a slice's spare places count too). A statement '..UptoSaid' is the law's where the arguments, and the package variables that the reading takes, are together of bulk at most 1048576: NARROWER than '..Said'. Prove '..Said' where nothing that the law and all that it calls make is longer than what came in: it says more and counts as full. Else prove '..UptoSaid'. A law counts once. -/
mutual
def uptoBulk {H : Type} : DataW H → Nat
  | .lit (.string bytes) => bytes.length + 1
  | .lit _ => 1
  | .nil => 1
  | .ptr d => uptoBulk d + 1
  | .slice elems spare => uptoBulkAll elems + uptoBulkAll spare + 1
  | .agg parts => uptoBulkAll parts + 1
  | .iface _ d => uptoBulk d + 1
  | .map entries => uptoBulkEntries entries + 1
  | .held _ => 1
def uptoBulkAll {H : Type} : List (DataW H) → Nat
  | [] => 0
  | d :: r => uptoBulk d + uptoBulkAll r
def uptoBulkEntries {H : Type} : List (Lit × DataW H) → Nat
  | [] => 0
  | x :: r => uptoBulkEntry x + uptoBulkEntries r
def uptoBulkEntry {H : Type} : Lit × DataW H → Nat
  | (.string bytes, d) => bytes.length + uptoBulk d + 1
  | (_, d) => uptoBulk d + 1
 end
def uptoSmall : (H : Type) → List (DataW H) → Bool := fun _ ds => decide (uptoBulkAll ds ≤ 1048576)
def OpenSpec.upto (s : _root_.Go.ChangeSpec) : _root_.Go.OpenSpec := { _root_.Go.OpenSpec.ofChange s with cond := some uptoSmall }

/-- 'variorumlaw7.RulesTell', WHERE WHAT IT READS IS OF BULK AT MOST 1048576: true; the input reads as it did. -/
def rulesTellUptoRow : OpenClaim := { program := "ytmgncoialppmpaagreat", sum := "b8ca42bd7395794fbc4ed8d7fe5d28e8c4e80373ce9c7d4508ec7be28a7d0ac6", func := "variorum/variorumlaw7.RulesTell", spec := "rulesTell", inPlace := ["slices.overlaps[[3]int]", "slices.overlaps[variorum/api.Account]", "slices.overlaps[variorum/api.Journal]"], unfollowed := true, recurses := true, plainKeys := false, apart := false, narrowed := true }
def RulesTellUptoSaid : Prop := rulesTellUptoRow.holds Tryz.pinned (OpenSpec.upto rulesTellSpec)

/-- 'variorumlaw7.RulesLead', WHERE WHAT IT READS IS OF BULK AT MOST 1048576: true; the input reads as it did. -/
def rulesLeadUptoRow : OpenClaim := { program := "ytmgncoialppmpaagreat", sum := "b8ca42bd7395794fbc4ed8d7fe5d28e8c4e80373ce9c7d4508ec7be28a7d0ac6", func := "variorum/variorumlaw7.RulesLead", spec := "rulesLead", inPlace := ["slices.overlaps[[3]int]", "slices.overlaps[variorum/api.Account]", "slices.overlaps[variorum/api.Journal]"], unfollowed := true, recurses := true, plainKeys := false, apart := false, narrowed := true }
def RulesLeadUptoSaid : Prop := rulesLeadUptoRow.holds Tryz.pinned (OpenSpec.upto rulesLeadSpec)

/-- 'variorumlaw7.RulesShut', WHERE WHAT IT READS IS OF BULK AT MOST 1048576: true; the input reads as it did. -/
def rulesShutUptoRow : OpenClaim := { program := "ytmgncoialppmpaagreat", sum := "b8ca42bd7395794fbc4ed8d7fe5d28e8c4e80373ce9c7d4508ec7be28a7d0ac6", func := "variorum/variorumlaw7.RulesShut", spec := "rulesShut", inPlace := ["slices.overlaps[[3]int]", "slices.overlaps[variorum/api.Account]", "slices.overlaps[variorum/api.Journal]"], unfollowed := true, recurses := true, plainKeys := false, apart := false, narrowed := true }
def RulesShutUptoSaid : Prop := rulesShutUptoRow.holds Tryz.pinned (OpenSpec.upto rulesShutSpec)

/-- 'variorumlaw7.RulesGone', WHERE WHAT IT READS IS OF BULK AT MOST 1048576: true; the input reads as it did. -/
def rulesGoneUptoRow : OpenClaim := { program := "ytmgncoialppmpaagreat", sum := "b8ca42bd7395794fbc4ed8d7fe5d28e8c4e80373ce9c7d4508ec7be28a7d0ac6", func := "variorum/variorumlaw7.RulesGone", spec := "rulesGone", inPlace := ["slices.overlaps[[3]int]", "slices.overlaps[variorum/api.Account]", "slices.overlaps[variorum/api.Journal]"], unfollowed := true, recurses := true, plainKeys := false, apart := false, narrowed := true }
def RulesGoneUptoSaid : Prop := rulesGoneUptoRow.holds Tryz.pinned (OpenSpec.upto rulesGoneSpec)

/-- 'variorumlaw9.PlanTells', WHERE WHAT IT READS IS OF BULK AT MOST 1048576: true; the input reads as it did. -/
def planTellsUptoRow : OpenClaim := { program := "ytmgncoialppmpaagreat", sum := "b8ca42bd7395794fbc4ed8d7fe5d28e8c4e80373ce9c7d4508ec7be28a7d0ac6", func := "variorum/variorumlaw9.PlanTells", spec := "planTells", unfollowed := true, recurses := true, named := ["math/bits.divideError", "math/bits.overflowError"], plainKeys := false, apart := false, narrowed := true }
def PlanTellsUptoSaid : Prop := planTellsUptoRow.holds Tryz.pinned (OpenSpec.upto planTellsSpec)

/-- 'variorumlaw9.PlanRuns', WHERE WHAT IT READS IS OF BULK AT MOST 1048576: true; the input reads as it did. -/
def planRunsUptoRow : OpenClaim := { program := "ytmgncoialppmpaagreat", sum := "b8ca42bd7395794fbc4ed8d7fe5d28e8c4e80373ce9c7d4508ec7be28a7d0ac6", func := "variorum/variorumlaw9.PlanRuns", spec := "planRuns", unfollowed := true, recurses := true, named := ["math/bits.divideError", "math/bits.overflowError"], plainKeys := false, apart := false, narrowed := true }
def PlanRunsUptoSaid : Prop := planRunsUptoRow.holds Tryz.pinned (OpenSpec.upto planRunsSpec)

end Rows
end Go.Proofs.YtmgncoialppmpaaGreat
