/-
  The document's Rows: its contract.
-/
import Derived.Test.YtgbbfmpofmeadaaRowsMath
namespace Go.Proofs.Ytgbbfmpofmeadaa
open Go.RowKit
set_option linter.unusedVariables false


end Go.Proofs.Ytgbbfmpofmeadaa
