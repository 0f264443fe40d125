/-
  The document's examples of layer 6: 'awake' returns true in every world whose table holds the document's numbers; what was in memory stays.
-/
import Derived.Test.YtbggklhnmkiamaaDoorTurns
import Derived.Test.YtbggklhnmkiamaaDoorSame1
import Derived.Deep.CutRange
namespace Go.Proofs.YtbggklhnmkiamaaDoor
open Go.RowKit
set_option linter.unusedVariables false

theorem turn_lit (a : Nat) (w : World) (h : Elems .i8 w (some ⟨a, 0, none⟩) 2 [100, 0]) (hT : STab w) :
    Calls Tryd.prog 15 #[.int .i64 2, .slice (some ⟨a, 0, none⟩) 2 2] w fun e w' => (∃ g, e = .returned (.tuple #[.slice (some ⟨g, 0, none⟩) 2 2, .int .i64 0]) ∧ Elems .i8 w' (some ⟨g, 0, none⟩) 2 [0, 100]) ∧ Below w.heap.size w w' := by
  have e : turnL 2 [100, 0] 2 = [0, 100] := by decide +kernel
  have := turn_yes 2 (some ⟨a, 0, none⟩) 2 2 [100, 0] w h (by decide) (by decide) (by decide) (by decide) hT
  rwa [e] at this
theorem sin_lit (x v : Int) (h : sine x = v) (h1 : -9223372036854775808 ≤ x) (h2 : x ≤ 9223372036854775807) (w : World) (hT : STab w) :
    Calls Tryd.prog 9 #[.int .i64 x] w fun e w' => e = .returned (.int .i32 v) ∧ ∃ d, w' = w.drewN d := by
  have := sin_any x h1 h2 w hT
  rwa [h] at this
theorem cos_lit (x v : Int) (h : cosi x = v) (w : World) (hT : STab w) :
    Calls Tryd.prog 11 #[.int .i64 x] w fun e w' => e = .returned (.int .i32 v) ∧ ∃ d, w' = w.drewN d := by
  have := cos_any x w hT
  rwa [h] at this
theorem ang_lit (p i v : Int) (h : ang p i = v) (h1 : -9223372036854775808 ≤ i) (h2 : i ≤ 9223372036854775807) (w : World) :
    Calls Tryd.prog 13 #[.int .i64 p, .int .i64 i] w fun e w' => e = .returned (.int .i64 v) ∧ w = w' := by
  have := angle_any p i h1 h2 w
  rwa [h] at this

set_option maxHeartbeats 2000000 in
theorem awake6 (w : World) (hT : STab w) : Calls Tryd.prog 8 #[] w fun e w' => e = .returned (.bool true) ∧ Below w.heap.size w w' := by
  have E0 : ∀ T, Elems .i8 (w.alloc (.cells #[.int .i8 100, .int .i8 0] T)) (some ⟨w.heap.size, 0, none⟩) 2 [100, 0] := fun T => elems_litK [100, 0] rfl rfl (by decide) (by decide) rfl
  have B0 := fun o => (Below.refl w.heap.size w).alloc (Nat.le_refl _) o
  have T0 := fun o => hT.below (B0 o)
  have s1 := sin_lit 8192 11585 (by decide +kernel) (by decide) (by decide)
  have s2 := sin_lit 16384 16384 (by decide +kernel) (by decide) (by decide)
  have s3 := sin_lit (-16384) (-16384) (by decide +kernel) (by decide) (by decide)
  have c1 := cos_lit 0 16384 (by decide +kernel)
  have a1 := ang_lit 3 1 12288 (by decide +kernel) (by decide) (by decide)
  go_enter Tryd.func8, Tryd.ntmps8
  go_wp2_with fail
  refine (turn_lit _ _ (E0 _) (T0 _)).mono ?_
  rintro e wa ⟨⟨g, rfl, hE⟩, hb⟩
  have B1 := below_two (B0 _) hb
  have HT := hT.below B1
  clear E0 B0 T0 hb hT
  go_wp2_with fail
  refine (s1 _ HT).mono ?_
  rintro e w' ⟨rfl, d1, rfl⟩
  go_wp2_with fail
  refine (s2 _ (HT.drewN _)).mono ?_
  rintro e w' ⟨rfl, d2, rfl⟩
  go_wp2_with fail
  refine (s3 _ (HT.drewN _)).mono ?_
  rintro e w' ⟨rfl, d3, rfl⟩
  go_wp2_with fail
  refine (c1 _ (HT.drewN _)).mono ?_
  rintro e w' ⟨rfl, d4, rfl⟩
  go_wp2_with fail
  refine (a1 _).mono ?_
  rintro e w' ⟨rfl, rfl⟩
  clear s1 s2 s3 c1 a1 HT
  generalize hwb : wa.drewN _ = wb
  have hbb : Below wa.heap.size wa wb := by rw [← hwb]; exact below_drewN (Below.refl _ _) _
  have B2 := below_two B1 hbb
  have hE2 := hE.below hbb
  clear hwb hbb B1 hE
  have F0 : ∀ T, Elems .i8 (wb.alloc (.cells #[.int .i8 0, .int .i8 100] T)) (some ⟨wb.heap.size, 0, none⟩) 2 [0, 100] := fun T => elems_litK [0, 100] rfl rfl (by decide) (by decide) rfl
  have F1 := fun o => hE2.below ((Below.refl wb.heap.size wb).alloc (Nat.le_refl _) o)
  have B3 := fun o => B2.alloc B2.size o
  clear hE2 B2
  go_wp2_with fail
  refine (bytes_yes _ _ 2 2 2 [0, 100] _ (F1 _) (F0 _)).mono ?_
  rintro e w' ⟨rfl, d, rfl⟩
  have B4 := below_drewN (B3 (.cells #[.int .i8 0, .int .i8 100] 41)) d
  clear F0 F1 B3
  go_wp2
  go_ret
  exact ⟨rfl, B4⟩

end Go.Proofs.YtbggklhnmkiamaaDoor
