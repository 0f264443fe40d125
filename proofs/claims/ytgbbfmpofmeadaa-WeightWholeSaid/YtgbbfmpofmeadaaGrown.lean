/-
  The document's Grown: the numbers that grow out of a seed.
-/
import Derived.Test.YtgbbfmpofmeadaaDocRows
import Derived.Test.YtgbbfmpofmeadaaAppRow
import Derived.Test.YtgbbfmpofmeadaaSeed
import Derived.IntWalk
namespace Go.Proofs.Ytgbbfmpofmeadaa
open Go.RowKit
set_option linter.unusedVariables false


end Go.Proofs.Ytgbbfmpofmeadaa
