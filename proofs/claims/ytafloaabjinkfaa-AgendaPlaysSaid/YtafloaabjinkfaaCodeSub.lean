/-
  Parts of a function's code. No code of the program.
-/
import Derived.Test.YtafloaabjinkfaaOwn
namespace Go.Proofs.Ytafloaabjinkfaa
open Go.RowKit

/-- The part of a code that a way leads to: 0 the first half, 1 the second one; a block's, a loop's inside is 0. -/
def subCode : List Nat → Code → Code
  | [], c => c
  | 0 :: r, .seq a _ => subCode r a
  | _ :: r, .seq _ b => subCode r b
  | 0 :: r, .cond _ a _ => subCode r a
  | _ :: r, .cond _ _ b => subCode r b
  | _ :: r, .block _ c => subCode r c
  | _ :: r, .loop c => subCode r c
  | _ :: r, .scope c => subCode r c
  | _ :: _, c => c
end Go.Proofs.Ytafloaabjinkfaa
