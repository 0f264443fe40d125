/-
  Contracts of line (a row of a right grid, where it lies), inside, and the document's Cell.
-/
import Derived.Test.YtkiedganojaniaaGrids
namespace Go.Proofs.Ytkiedganojaniaa
open Go.RowKit
set_option linter.unusedVariables false

/-- where row i of a grid of C columns at a lies -/
theorem rowOf_elems {w : World} {b off R C i : Nat} {xs : List Int} (h : Elems .i32 w (some ⟨b, off, none⟩) (R * C) xs) (hi : i < R) : Elems .i32 w (some ⟨b, off + i * C, none⟩) C (rowOf xs C i) := by
  have hl := row_le (C := C) hi
  have := (h.drop (i * C) (by omega)).take C (by omega)
  exact this





/-- a cell of a right grid -/
theorem ref_cell (R C i j : Nat) (a : Option Addr) (cap : Nat) (xs : List Int) (w : World) (h : Elems .i32 w a (R * C) xs) (hR : R ≤ 4096) (hC : C ≤ 4096) (hi : i < R) (hj : j < C) :
    Calls Try.prog 41 #[.agg #[.int .i64 R, .int .i64 C, .slice a (R * C : Nat) cap], .int .i64 i, .int .i64 j] w fun e w' => e = .returned (.int .i32 (xs.getD (i * C + j) 0)) ∧ Below w.heap.size w w' := by
  have hk := row_lt hi hj
  have p1 : R * C ≤ 4096 * 4096 := Nat.mul_le_mul hR hC
  obtain ⟨b, off, v, rfl, hc, hv, wv⟩ := (h.below ((Below.refl _ w).alloc (Nat.le_refl _) (Obj.cells #[.int .i64 R, .int .i64 C, .slice a (R * C : Nat) cap] 43))).at_ hk
  obtain ⟨m, hm⟩ : ∃ m, m = i * C := ⟨_, rfl⟩
  have e1 : (i : Int) * (C : Int) = (m : Int) := by rw [hm]; push_cast; rfl
  rw [← hm] at hk hv hc ⊢
  obtain ⟨n, hn⟩ : ∃ n, n = R * C := ⟨_, rfl⟩
  rw [← hn] at hk p1 hc ⊢
  obtain ⟨k, hk2⟩ : ∃ k, k = m + j := ⟨_, rfl⟩
  have e2 : (m : Int) + (j : Int) = (k : Int) := by rw [hk2]; push_cast; rfl
  rw [← hk2] at hk hv hc ⊢
  clear h hm hn wv hk2
  go_enter Try.func41, Try.ntmps41
  go_wp2
  go_ret
  exact ⟨ret_int hv.out.symm, (Below.refl _ _).alloc (Nat.le_refl _) _⟩

end Go.Proofs.Ytkiedganojaniaa
