/-
  The code's matrix: noughts in new memory.
-/
import Derived.Test.YtgbbfmpofmeadaaShape
import Derived.Test.YtgbbfmpofmeadaaNew7
import Derived.Maps.RangeWalk
namespace Go.Proofs.Ytgbbfmpofmeadaa
open Go.RowKit
set_option linter.unusedVariables false

/-- n numbers of 8 bits, all noughts, as a block -/
def Z8 (n : Nat) : Obj := .cells (((List.replicate n (0 : Int)).map (Value.int .i8)).toArray) 56 (0, 0)
theorem z8_mine {w : World} {g n : Nat} (h : w.heap[g]? = some (Z8 n)) : MineK .i8 w g 56 (List.replicate n 0) := h
theorem mine_z8 {w : World} {g n : Nat} (h : MineK .i8 w g 56 (List.replicate n 0)) : w.heap[g]? = some (Z8 n) := h

set_option maxHeartbeats 800000 in
theorem matrix_any (R C : Nat) (w : World) (hR : R ≤ 512) (hC : C ≤ 512) :
    Calls Try.prog 31 #[.int .i64 R, .int .i64 C] w fun e w' => (∃ g, e = .returned (.agg #[.int .i64 R, .int .i64 C, .slice (some ⟨g, 0, none⟩) (R * C : Nat) (R * C : Nat)]) ∧ w.heap.size ≤ g ∧ w'.heap[g]? = some (Z8 (R * C))) ∧ Below w.heap.size w w' := by
  have p1 : R * C ≤ 512 * 512 := Nat.mul_le_mul hR hC
  have q : (R : Int) * C = ((R * C : Nat) : Int) := by push_cast; rfl
  generalize R * C = n at *
  have hmk := run_make_row' (P := Try.prog) 27 56 (.int .i8 0) 1 Try.underlying27 info8 rfl .i64 .i64 n (by omega) (by omega)
  have B : ∀ x y, Below w.heap.size w ((w.alloc x).alloc y) := fun x y => ((Below.refl _ _).alloc (Nat.le_refl _) x).alloc (by simp) y
  have M := fun x => mine_made .i8 (w.alloc x) 56 n rfl
  have HB := Lib.hid B
  have HM := Lib.hid M
  clear B M
  go_enter Try.func31, Try.ntmps31
  go_wp2
  refine bodyPost_ret (v := .agg #[.int .i64 R, .int .i64 C, .slice (some ⟨w.heap.size + 1, 0, none⟩) n n]) (by simp [results, Try.results31, go_sem]) rfl ⟨⟨_, rfl, by omega, ?_⟩, ?_⟩
  · have h := HM.out (.cells #[.int .i64 R, .int .i64 C, .slice (some ⟨w.heap.size + 1, 0, none⟩) n n] 29)
    rw [World.size_alloc] at h
    exact mine_z8 h
  · exact HB.out _ _

end Go.Proofs.Ytgbbfmpofmeadaa
