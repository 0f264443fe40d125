/-
  Cells of one block stored one behind the other: what of the block and of the world is so.
-/
import Derived.Test.YtkinbngikmcpeaaResRow
import Derived.Test.YtkinbngikmcpeaaNew7
import Derived.Laws.Rows
import Derived.Laws.CopyRow
import Derived.Laws.ResultCell
namespace Go.Proofs.Ytkinbngikmcpeaa
open Go.RowKit
set_option linter.unusedVariables false

/-- vs, stored from off on -/
def setN (w : World) (g : Nat) : Nat → List Value → World
  | _, [] => w
  | off, v :: vs => setN (w.setCell ⟨g, off, none⟩ v) g (off + 1) vs
def setL (cs : Array Value) : Nat → List Value → Array Value
  | _, [] => cs
  | off, v :: vs => setL (cs.setIfInBounds off v) (off + 1) vs

theorem box_setN {g : Nat} {T : TypeId} (vs : List Value) : ∀ (off : Nat) {w : World} {cs : Array Value}, Box w g T cs → Box (setN w g off vs) g T (setL cs off vs) := by
  induction vs with
  | nil => intro off w cs h; exact h
  | cons v vs ih => intro off w cs h; exact ih (off + 1) (h.set off v)
theorem setL_size (vs : List Value) : ∀ (off : Nat) (cs : Array Value), (setL cs off vs).size = cs.size := by
  induction vs with
  | nil => intro off cs; rfl
  | cons v vs ih => intro off cs; rw [setL, ih]; simp
theorem setL_before (vs : List Value) : ∀ (off : Nat) (cs : Array Value) (k : Nat), k < off → (setL cs off vs)[k]? = cs[k]? := by
  induction vs with
  | nil => intro off cs k _; rfl
  | cons v vs ih =>
    intro off cs k hk
    rw [setL, ih _ _ _ (by omega), Array.getElem?_setIfInBounds, if_neg (by omega)]
theorem setL_behind (vs : List Value) : ∀ (off : Nat) (cs : Array Value) (k : Nat), off + vs.length ≤ k → (setL cs off vs)[k]? = cs[k]? := by
  induction vs with
  | nil => intro off cs k _; rfl
  | cons v vs ih =>
    intro off cs k hk
    simp only [List.length_cons] at hk
    rw [setL, ih _ _ _ (by omega), Array.getElem?_setIfInBounds, if_neg (by omega)]
theorem setL_at (vs : List Value) : ∀ (off : Nat) (cs : Array Value) (k : Nat), k < vs.length → off + vs.length ≤ cs.size → (setL cs off vs)[off + k]? = vs[k]? := by
  induction vs with
  | nil => intro off cs k hk; simp at hk
  | cons v vs ih =>
    intro off cs k hk hs
    simp only [List.length_cons] at hk hs
    rw [setL]
    cases k with
    | zero =>
      rw [setL_before _ _ _ _ (by omega), Nat.add_zero, Array.getElem?_setIfInBounds, if_pos rfl, if_pos (by omega)]; rfl
    | succ k =>
      rw [show off + (k + 1) = off + 1 + k by omega, ih _ _ _ (by omega) (by simp; omega)]
      rfl
/-- a block stored anew, whole -/
theorem setL_all (cs : Array Value) (vs : List Value) (h : cs.size = vs.length) : setL cs 0 vs = vs.toArray := by
  apply Array.ext_getElem?
  intro k
  by_cases hk : k < vs.length
  · have := setL_at vs 0 cs k hk (by omega)
    rw [Nat.zero_add] at this
    rw [this]; simp
  · rw [Array.getElem?_eq_none (by rw [setL_size]; omega), Array.getElem?_eq_none (by simp; omega)]
theorem Box.whole {w : World} {g : Nat} {T : TypeId} {cs : Array Value} (h : Box w g T cs) (vs : List Value) (hl : cs.size = vs.length) : Box (setN w g 0 vs) g T vs.toArray := by
  rw [← setL_all cs vs hl]; exact box_setN vs 0 h
theorem setN_below (vs : List Value) : ∀ (off : Nat) {B : Nat} {w0 w : World} {g : Nat}, Below B w0 w → B ≤ g → Below B w0 (setN w g off vs) := by
  induction vs with
  | nil => intro off B w0 w g h _; exact h
  | cons v vs ih => intro off B w0 w g h hg; exact ih _ (h.setCell (p := ⟨g, off, none⟩) hg v) hg
theorem setN_grown (vs : List Value) : ∀ (off : Nat) (w : World) (g : Nat), w.grownBy (setN w g off vs) (some g) := by
  induction vs with
  | nil => intro off w g; exact grownBy_refl _ _
  | cons v vs ih => intro off w g; exact (grownBy_setCell w g off v).trans (ih _ _ _)
theorem setN_size (vs : List Value) : ∀ (off : Nat) (w : World) (g : Nat), (setN w g off vs).heap.size = w.heap.size := by
  induction vs with
  | nil => intro off w g; rfl
  | cons v vs ih => intro off w g; rw [setN, ih]; simp

theorem Box.setRow {w : World} {g : Nat} {T : TypeId} {cs cs' : Array Value} (h : Box w g T cs) : Box (w.setRow g cs') g T cs' := setRow_heap w g cs cs' T (0, 0) h
theorem Box.setRow_other {w : World} {g g' : Nat} {T : TypeId} {cs cs' : Array Value} (h : Box w g T cs) (hne : g ≠ g') : Box (w.setRow g' cs') g T cs := h.kept (grownBy_setRow w g' cs') (by simpa using hne)
theorem below_setRow {B : Nat} {w0 w : World} {g : Nat} {cs : Array Value} (h : Below B w0 w) (hg : B ≤ g) (hs : B ≤ w.heap.size) : Below B w0 (w.setRow g cs) :=
  h.grown (grownBy_setRow w g cs) hs (fun k hk => by cases hk; exact hg)

end Go.Proofs.Ytkinbngikmcpeaa
