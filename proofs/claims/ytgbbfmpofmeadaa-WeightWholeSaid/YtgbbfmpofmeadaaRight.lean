/-
  Contracts of within, Right and handy, of any slice of sides or of grids, and of the document's Right and Fit.
-/
import Derived.Test.YtgbbfmpofmeadaaGrids
namespace Go.Proofs.Ytgbbfmpofmeadaa
open Go.RowKit
set_option linter.unusedVariables false


/-- are all of them right? -/
def rightAll (gs : List Gr) : Bool := gs.all fun g => rightB g.r g.c g.n

theorem all_step {α : Type} [Inhabited α] (p : α → Bool) (gs : List α) (k : Nat) (hk : k < gs.length) (g : α) (hg : gs.getD k default = g) (ht : (gs.take k).all p = true) :
    (gs.take (k + 1)).all p = p g ∧ (p g = false → gs.all p = false) := by
  have h1 : (gs.take (k + 1)).all p = p g := by
    rw [List.take_add_one, List.all_append, ht, Bool.true_and, ← hg]
    simp [List.getD, List.getElem?_eq_getElem hk]
  refine ⟨h1, fun e => ?_⟩
  rw [e] at h1
  rw [← Bool.not_eq_true] at h1 ⊢
  intro h3
  apply h1
  rw [List.all_eq_true] at h3 ⊢
  exact fun x hx => h3 x (List.mem_of_mem_take hx)

theorem two_elems {w : World} {T : TypeId} {b : Nat} {p q : Int} (hb : b = w.heap.size) (hp : -9223372036854775808 ≤ p ∧ p ≤ 9223372036854775807) (hq : -9223372036854775808 ≤ q ∧ q ≤ 9223372036854775807) :
    Elems .i64 (w.alloc (.cells #[.int .i64 p, .int .i64 q] T)) (some ⟨b, 0, none⟩) 2 [p, q] := by
  subst hb
  exact pair_elems (by simp) (by simp) (WalkArith.wf_i64 hp) (WalkArith.wf_i64 hq)
theorem two_sides (p q : Int) : [p, q].all sideB = (sideB p && sideB q) := by simp



/-- are all of them right, and not too large? -/
def fitAll (gs : List Gr) : Bool := gs.all fun g => fitB g.r g.c g.n



/-! ### the document's -/




end Go.Proofs.Ytgbbfmpofmeadaa
