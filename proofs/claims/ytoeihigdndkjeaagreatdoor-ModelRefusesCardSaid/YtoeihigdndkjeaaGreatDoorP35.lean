import Derived.Test.YtoeihigdndkjeaaGreatDoorP33
import Derived.Test.YtoeihigdndkjeaaGreatDoorP34
/-
  The document's One, as it is asked.
-/
namespace Go.Proofs.YtoeihigdndkjeaaGreatDoor
open Go.RowKit Go.Shelf
theorem oneC : OneC := fun r t p lv s ok W K w h hsix hwt ht hp => one8 r t p lv s ok W K w h hsix hwt ht hp

end Go.Proofs.YtoeihigdndkjeaaGreatDoor
