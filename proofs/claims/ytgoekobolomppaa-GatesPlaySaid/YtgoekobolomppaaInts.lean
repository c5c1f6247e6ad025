/-
  Contracts of the statements' helpers over lists of ints: copies, lent lists, comparisons.
-/
import Derived.Test.YtgoekobolomppaaBase
import Derived.Maps.AppendAt
namespace Go.Proofs.Ytgoekobolomppaa
open Go.RowKit

end Go.Proofs.Ytgoekobolomppaa
