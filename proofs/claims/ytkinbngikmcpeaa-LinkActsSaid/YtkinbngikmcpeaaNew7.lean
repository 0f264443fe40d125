/-
  A block that was just made, known whole, behind whatever left it alone.
-/
import Derived.Test.YtkinbngikmcpeaaRw
import Derived.Laws.OwnMore
import Derived.Laws.Tables
import Derived.Lib.SmallJoins
namespace Go.Proofs.Ytkinbngikmcpeaa
open Go.RowKit
set_option linter.unusedVariables false

/-- block g holds the cells cs, none of them frozen -/
def Box (w : World) (g : Nat) (T : TypeId) (cs : Array Value) : Prop := w.heap[g]? = some (.cells cs T (0, 0))
section
variable {w w' : World} {g : Nat} {T : TypeId} {cs : Array Value}
theorem Box.lt (h : Box w g T cs) : g < w.heap.size := (Array.getElem?_eq_some_iff.1 h).1
theorem Box.cell (h : Box w g T cs) (o : Nat) : w.cell? ⟨g, o, none⟩ = cs[o]? := cell_of_row w g o cs T (0, 0) h
theorem Box.frozen (h : Box w g T cs) (o : Nat) : w.frozen? ⟨g, o, none⟩ = false := frozen_of_row w g o cs T h
theorem Box.kept (h : Box w g T cs) {row : Option Nat} (hg : w.grownBy w' row) (hne : some g ≠ row) : Box w' g T cs := (hg.block g h.lt hne).trans h
theorem Box.below {B : Nat} (h : Box w g T cs) (hb : Below B w w') (hg : g < B) : Box w' g T cs := (hb.block g hg).trans h
theorem Box.bel (h : Box w g T cs) (hb : Below w.heap.size w w') : Box w' g T cs := h.below hb h.lt
theorem Box.drewN (h : Box w g T cs) (d : Nat) : Box (w.drewN d) g T cs := h
theorem Box.alloc (h : Box w g T cs) (o : Obj) : Box (w.alloc o) g T cs := h.kept (World.grownBy_alloc w o none) (by simp)
theorem Box.set (h : Box w g T cs) (o : Nat) (v : Value) : Box (w.setCell ⟨g, o, none⟩ v) g T (cs.setIfInBounds o v) := heap_setCell_same w g o cs T v h
theorem Box.other (h : Box w g T cs) {g' o : Nat} (v : Value) (hne : g ≠ g') : Box (w.setCell ⟨g', o, none⟩ v) g T cs := (heap_setCell_other w ⟨g', o, none⟩ g v hne).trans h
end
theorem box_new (w : World) (T : TypeId) (cs : Array Value) : Box (w.alloc (.cells cs T)) w.heap.size T cs := heap_alloc_new w _
theorem box_at {w : World} {g : Nat} (hg : g = w.heap.size) (T : TypeId) (cs : Array Value) : Box (w.alloc (.cells cs T)) g T cs := by subst hg; exact box_new w T cs

/-- numbers that a literal laid, whatever marks its block has -/
theorem elems_mark {kd : IntKind} {w : World} {T : TypeId} {fr : Nat × Nat} (xs : List Int) {cs : Array Value} (hcs : cs = (xs.map (Value.int kd)).toArray) {b : Nat} (hb : b = w.heap.size) (hw : ∀ x ∈ xs, (Lit.int kd x).wf = true) (hl : xs.length ≤ 100) {n : Nat} (hn : xs.length = n) : Elems kd (w.alloc (.cells cs T fr)) (some ⟨b, 0, none⟩) n xs := by
  subst hcs hb hn
  refine ⟨rfl, by omega, hw, fun _ => ⟨w.heap.size, 0, rfl, fun i hi => ?_⟩⟩
  rw [Nat.zero_add, World.cell?_alloc_mark]
  simp [List.getD, hi]

/-- six cells stored anew -/
theorem Box.six {w : World} {g : Nat} {T : TypeId} {a0 a1 a2 a3 a4 a5 : Value} (h : Box w g T #[a0, a1, a2, a3, a4, a5]) (v0 v1 v2 v3 v4 v5 : Value) :
    Box ((((((w.setCell ⟨g, 0, none⟩ v0).setCell ⟨g, 1, none⟩ v1).setCell ⟨g, 2, none⟩ v2).setCell ⟨g, 3, none⟩ v3).setCell ⟨g, 4, none⟩ v4).setCell ⟨g, 5, none⟩ v5) g T #[v0, v1, v2, v3, v4, v5] := by
  have := (((((h.set 0 v0).set 1 v1).set 2 v2).set 3 v3).set 4 v4).set 5 v5
  simpa using this
theorem Box.drew {w : World} {g : Nat} {T : TypeId} {cs : Array Value} (h : Box w g T cs) : Box w.drew g T cs := h
/-- the cells of a block of six -/
theorem Box.cells6 {w : World} {g : Nat} {T : TypeId} {v0 v1 v2 v3 v4 v5 : Value} (h : Box w g T #[v0, v1, v2, v3, v4, v5]) :
    w.cell? ⟨g, 0, none⟩ = some v0 ∧ w.cell? ⟨g, 1, none⟩ = some v1 ∧ w.cell? ⟨g, 2, none⟩ = some v2 ∧ w.cell? ⟨g, 3, none⟩ = some v3 ∧ w.cell? ⟨g, 4, none⟩ = some v4 ∧ w.cell? ⟨g, 5, none⟩ = some v5 :=
  ⟨h.cell 0, h.cell 1, h.cell 2, h.cell 3, h.cell 4, h.cell 5⟩

end Go.Proofs.Ytkinbngikmcpeaa
