/-
  The table of powers of 2: its numbers, and what a world is said to hold of it.
-/
import Derived.Test.YthblniakghfchaaDoorKit
namespace Go.Proofs.YthblniakghfchaaDoor
open Go.RowKit
set_option linter.unusedVariables false

/-- the table's numbers -/
def ptab : List Int := [65536, 64132, 62757, 61413, 60097, 58809, 57549, 56316, 55109, 53928, 52773, 51642, 50535, 49452, 48393, 47356, 46341, 45348, 44376, 43425, 42495, 41584, 40693, 39821, 38968, 38133, 37316, 36516, 35734, 34968, 34219, 33486, 32768]
/-- the program's table holds them -/
def Tab (w : World) : Prop := ∀ i, i < 33 → w.cell? ⟨0, i, none⟩ = some (.int .i64 (ptab.getD i 0))

theorem Tab.below {w w' : World} (h : Tab w) (hb : Below w.heap.size w w') : Tab w' := fun i hi => (hb.cell (p := ⟨0, i, none⟩) (World.block_lt_of_cell? _ _ (h i hi))).trans (h i hi)
theorem Tab.drewN {w : World} (h : Tab w) (d : Nat) : Tab (w.drewN d) := h

theorem tab_bd : ∀ i, i < 33 → 32768 ≤ ptab.getD i 0 ∧ ptab.getD i 0 ≤ 65536 := by decide
theorem tab_falls : ∀ i, i < 32 → 1 ≤ ptab.getD i 0 - ptab.getD (i + 1) 0 ∧ ptab.getD i 0 - ptab.getD (i + 1) 0 ≤ 1404 := by decide
theorem tab_mono : ∀ i, i < 33 → ∀ j, j ≤ i → ptab.getD i 0 ≤ ptab.getD j 0 := by decide +kernel

/-- two to the power of -f, between the table's places -/
def btw (f : Int) : Int := ptab.getD (f / 2048).toNat 0 - half ((ptab.getD (f / 2048).toNat 0 - ptab.getD ((f / 2048).toNat + 1) 0) * (f % 2048)) 2048

theorem shr_eleven (x : Int) : shr x 11 = half x 2048 := by
  have h : near 11 0 62 = 11 := by decide
  unfold shr; rw [h]; rfl

theorem half_bd (x P : Int) : x / P ≤ half x P ∧ half x P ≤ x / P + 1 := by unfold half; split <;> omega

/-- what is taken off: from 0 to the step -/
theorem off_bd (D r : Int) (hD : 1 ≤ D) (h0 : 0 ≤ r) (h1 : r < 2048) : 0 ≤ D * r ∧ D * r ≤ D * 2047 ∧ 0 ≤ half (D * r) 2048 ∧ half (D * r) 2048 ≤ D := by
  have h2 : 0 ≤ D * r := Int.mul_nonneg (by omega) h0
  have h3 : D * r ≤ D * 2047 := Int.mul_le_mul_of_nonneg_left (by omega) (by omega)
  have h4 := half_bd (D * r) 2048
  omega

theorem btw_bd (f : Int) (h0 : 0 ≤ f) (h1 : f < 65536) : 32768 ≤ btw f ∧ btw f ≤ 65536 ∧ ptab.getD ((f / 2048).toNat + 1) 0 ≤ btw f ∧ btw f ≤ ptab.getD (f / 2048).toNat 0 := by
  have hi : (f / 2048).toNat < 32 := by omega
  have a := tab_bd (f / 2048).toNat (by omega)
  have b := tab_bd ((f / 2048).toNat + 1) (by omega)
  have c := tab_falls (f / 2048).toNat hi
  have d := off_bd (ptab.getD (f / 2048).toNat 0 - ptab.getD ((f / 2048).toNat + 1) 0) (f % 2048) c.1 (by omega) (by omega)
  unfold btw
  omega

end Go.Proofs.YthblniakghfchaaDoor
