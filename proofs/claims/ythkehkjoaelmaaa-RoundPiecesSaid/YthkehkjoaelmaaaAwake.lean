/-
  The document's examples: 'awake' returns true in every world, and makes at most new blocks.
-/
import Derived.Test.YthkehkjoaelmaaaScale
import Derived.Test.YthkehkjoaelmaaaSums
import Derived.Test.YthkehkjoaelmaaaArgmax
import Derived.RowKit3
namespace Go.Proofs.Ythkehkjoaelmaaa
open Go.RowKit
set_option linter.unusedVariables false

theorem shift_c (x n y : Int) (h1 : -9223372036854775808 ≤ x) (h2 : x ≤ 9223372036854775807) (he : shr x n = y) (w : World) :
    Calls Try.prog 19 #[.int .i64 x, .int .i64 n] w fun e w' => e = .returned (.int .i64 y) ∧ w = w' := by
  rw [← he]; exact shift x n h1 h2 w
theorem quant_c (x y n z : Int) (hx1 : -2147483648 ≤ x) (hx2 : x ≤ 2147483647) (hy1 : -2147483648 ≤ y) (hy2 : y ≤ 2147483647) (he : near (shr (x * y) n) (-128) 127 = z) (w : World) :
    Calls Try.prog 23 #[.int .i32 x, .int .i32 y, .int .i64 n] w fun e w' => e = .returned (.int .i8 z) ∧ w = w' := by
  rw [← he]; exact quant x y n hx1 hx2 hy1 hy2 w

theorem elems_two (w : World) (T : TypeId) : Elems .i64 (w.alloc (.cells #[.int .i64 2147483647, .int .i64 1] T)) (some ⟨w.heap.size, 0, none⟩) 2 [2147483647, 1] := by
  refine ⟨rfl, by omega, by decide, fun _ => ⟨w.heap.size, 0, rfl, fun i hi => ?_⟩⟩
  rw [World.cell?_alloc_new]
  match i, hi with
  | 0, _ => rfl
  | 1, _ => rfl
theorem elems_three (w : World) (T : TypeId) : Elems .i32 (w.alloc (.cells #[.int .i32 3, .int .i32 9, .int .i32 9] T)) (some ⟨w.heap.size, 0, none⟩) 3 [3, 9, 9] := by
  refine ⟨rfl, by omega, by decide, fun _ => ⟨w.heap.size, 0, rfl, fun i hi => ?_⟩⟩
  rw [World.cell?_alloc_new]
  match i, hi with
  | 0, _ => rfl
  | 1, _ => rfl
  | 2, _ => rfl

theorem wrap_c (w : World) (T : TypeId) : Calls Try.prog 13 #[.slice (some ⟨w.heap.size, 0, none⟩) 2 2] (w.alloc (.cells #[.int .i64 2147483647, .int .i64 1] T)) fun e w' => e = .returned (.int .i32 (-2147483648)) ∧ w.alloc (.cells #[.int .i64 2147483647, .int .i64 1] T) = w' := by
  have h := wrapsum _ 2 2 _ _ (elems_two w T)
  rwa [show wsum [2147483647, 1] = -2147483648 by unfold wsum wrap32; decide] at h
theorem argmax_c (w : World) (o : Obj) (T : TypeId) : Calls Try.prog 27 #[.slice (some ⟨w.heap.size + 1, 0, none⟩) 3 3] ((w.alloc o).alloc (.cells #[.int .i32 3, .int .i32 9, .int .i32 9] T)) fun e w' => e = .returned (.int .i64 1) ∧ (w.alloc o).alloc (.cells #[.int .i32 3, .int .i32 9, .int .i32 9] T) = w' := by
  have hs : (w.alloc o).heap.size = w.heap.size + 1 := by simp
  have h := argmax _ 3 3 _ _ (elems_three (w.alloc o) T) 1 (.inr ⟨1, rfl, by omega, by decide, by decide⟩)
  rwa [hs] at h

theorem awake (w : World) :
    Calls Try.prog 12 #[] w fun e w' => e = .returned (.bool true) ∧ Grown w w' ∧ Below w.heap.size w w' := by
  have s1 := shift_c 5 1 2 (by decide) (by decide) (by decide)
  have s2 := shift_c 7 1 4 (by decide) (by decide) (by decide)
  have s3 := shift_c (-5) 1 (-2) (by decide) (by decide) (by decide)
  have s4 := shift_c (-7) 1 (-4) (by decide) (by decide) (by decide)
  have q1 := quant_c 1000 3 4 127 (by decide) (by decide) (by decide) (by decide) (by decide)
  have q2 := quant_c (-40) 3 4 (-8) (by decide) (by decide) (by decide) (by decide) (by decide)
  go_enter Try.func12, Try.ntmps12
  go_wp2_with (first | (go_at_call 19; (with_reducible refine (s1 _).mono ?_); rintro e w' ⟨rfl, rfl⟩) | (go_at_call 19; (with_reducible refine (s2 _).mono ?_); rintro e w' ⟨rfl, rfl⟩) | (go_at_call 19; (with_reducible refine (s3 _).mono ?_); rintro e w' ⟨rfl, rfl⟩) | (go_at_call 19; (with_reducible refine (s4 _).mono ?_); rintro e w' ⟨rfl, rfl⟩) | (go_at_call 23; (with_reducible refine (q1 _).mono ?_); rintro e w' ⟨rfl, rfl⟩) | (go_at_call 23; (with_reducible refine (q2 _).mono ?_); rintro e w' ⟨rfl, rfl⟩) | (go_at_call 13; (with_reducible refine (wrap_c _ _).mono ?_); rintro e w' ⟨rfl, rfl⟩) | (go_at_call 27; (with_reducible refine (argmax_c _ _ _).mono ?_); rintro e w' ⟨rfl, rfl⟩))
  go_ret
  exact ⟨rfl, ((Grown.refl _).alloc _ _).alloc _ _, ((Below.refl _ _).alloc (Nat.le_refl _) _).alloc (by simp) _⟩

end Go.Proofs.Ythkehkjoaelmaaa
