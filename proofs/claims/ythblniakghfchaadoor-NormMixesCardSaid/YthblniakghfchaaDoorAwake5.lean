/-
  The document's examples of layer 5: 'awake' returns true in every world whose table holds the document's numbers; what was in memory stays.
-/
import Derived.Test.YthblniakghfchaaDoorSoft
import Derived.Test.YthblniakghfchaaDoorMixes
import Derived.Test.YthblniakghfchaaDoorJoins
import Derived.Test.YthblniakghfchaaDoorSame1
namespace Go.Proofs.YthblniakghfchaaDoor
open Go.RowKit
set_option linter.unusedVariables false

theorem norm_ex : IsInv (msq [300, -300]) 55924 := by unfold IsInv IsRoot; decide +kernel
theorem norm_lit (a b : Nat) (w : World) (h : Elems .i8 w (some ⟨a, 0, none⟩) 2 [16, 16]) (h2 : Elems .i32 w (some ⟨b, 0, none⟩) 2 [300, -300]) :
    Calls Tryd.prog 11 #[.slice (some ⟨a, 0, none⟩) 2 2, .slice (some ⟨b, 0, none⟩) 2 2] w fun e w' => (∃ g, e = .returned (.tuple #[.slice (some ⟨g, 0, none⟩) 2 2, .int .i64 0]) ∧ Elems .i8 w' (some ⟨g, 0, none⟩) 2 [32, -32]) ∧ Below w.heap.size w w' := by
  have e : norms 55924 [16, 16] [300, -300] 2 = [32, -32] := by decide +kernel
  have := norm_some (some ⟨a, 0, none⟩) (some ⟨b, 0, none⟩) 2 2 2 [16, 16] [300, -300] 55924 w h h2 (by decide) (by decide) norm_ex
  rwa [e] at this
theorem mix_lit (a b c : Nat) (w : World) (h : Elems .i32 w (some ⟨a, 0, none⟩) 1 [65536]) (h2 : Rws .i8 w (some ⟨b, 0, none⟩) 1 [⟨some ⟨c, 0, none⟩, 3, 3, [1, -2, 3]⟩]) :
    Calls Tryd.prog 18 #[.slice (some ⟨a, 0, none⟩) 1 1, .slice (some ⟨b, 0, none⟩) 1 1] w fun e w' => (∃ g, e = .returned (.tuple #[.slice (some ⟨g, 0, none⟩) 3 3, .int .i64 0]) ∧ Elems .i8 w' (some ⟨g, 0, none⟩) 3 [1, -2, 3]) ∧ Below w.heap.size w w' := by
  have e : mixL [65536] [⟨some ⟨c, 0, none⟩, 3, 3, [1, -2, 3]⟩] 1 3 = [1, -2, 3] := by
    simp [mixL, msum, List.range_succ]
    decide +kernel
  have := mix_some (some ⟨a, 0, none⟩) (some ⟨b, 0, none⟩) 1 1 1 3 [65536] _ w h h2 (by decide) (by decide) (by simp [sameW]) rfl (by decide)
  rwa [e] at this
theorem top_five : IsTop [5, 5] 5 := by unfold IsTop; decide
theorem soft_lit (a : Nat) (w : World) (h : Elems .i32 w (some ⟨a, 0, none⟩) 2 [5, 5]) (hT : Tab w) :
    Calls Tryd.prog 15 #[.int .i32 65536, .int .i64 0, .slice (some ⟨a, 0, none⟩) 2 2] w fun e w' => (∃ g, e = .returned (.slice (some ⟨g, 0, none⟩) 2 2) ∧ Elems .i32 w' (some ⟨g, 0, none⟩) 2 [32768, 32768]) ∧ Below w.heap.size w w' := by
  have e : soft 65536 0 5 [5, 5] = [32768, 32768] := by decide +kernel
  have := softmax_some 65536 0 5 (some ⟨a, 0, none⟩) 2 2 [5, 5] w h (by decide) (by decide) (by decide) (by decide) top_five hT
  rwa [e] at this
theorem gate_lit (a : Nat) (w : World) (h : Elems .i8 w (some ⟨a, 0, none⟩) 3 [-1, 0, 7]) :
    Calls Tryd.prog 17 #[.slice (some ⟨a, 0, none⟩) 3 3] w fun e w' => (∃ g, e = .returned (.slice (some ⟨g, 0, none⟩) 3 3) ∧ Elems .i8 w' (some ⟨g, 0, none⟩) 3 [0, 0, 7]) ∧ Below w.heap.size w w' :=
  (gates (some ⟨a, 0, none⟩) 3 3 [-1, 0, 7] w h (by decide)).mono (by
    rintro e w' ⟨rfl, hE, hb⟩
    exact ⟨⟨_, rfl, by rwa [show [-1, 0, 7].map gate1 = [0, 0, 7] by decide] at hE⟩, hb⟩)

set_option maxHeartbeats 2000000 in
theorem awake5 (w : World) (hT : Tab w) : Calls Tryd.prog 10 #[] w fun e w' => e = .returned (.bool true) ∧ Below w.heap.size w w' := by
  have E0 : ∀ T o, Elems .i8 ((w.alloc (.cells #[.int .i8 16, .int .i8 16] T)).alloc o) (some ⟨w.heap.size, 0, none⟩) 2 [16, 16] := fun T o => (elems_litK [16, 16] rfl rfl (by decide) (by decide) rfl).below ((Below.refl _ _).alloc (Nat.le_refl _) o)
  have E1 : ∀ T o, Elems .i32 ((w.alloc o).alloc (.cells #[.int .i32 300, .int .i32 (-300)] T)) (some ⟨w.heap.size + 1, 0, none⟩) 2 [300, -300] := fun T o => elems_litK [300, -300] rfl (by simp) (by decide) (by decide) rfl
  have B0 := fun o o2 => ((Below.refl w.heap.size w).alloc (Nat.le_refl _) o).alloc (by simp) o2
  go_enter Tryd.func10, Tryd.ntmps10
  go_wp2_with fail
  refine (norm_lit _ _ _ (E0 _ _) (E1 _ _)).mono ?_
  rintro e wa ⟨⟨g, rfl, hE⟩, hb⟩
  have B1 := below_two (B0 _ _) hb
  have HT := Lib.hid hT
  clear E0 E1 B0 hb hT
  have F0 : ∀ T o o2, Elems .i32 (((wa.alloc (.cells #[.int .i32 65536] T)).alloc o).alloc o2) (some ⟨wa.heap.size, 0, none⟩) 1 [65536] := fun T o o2 => (elems_litK [65536] rfl rfl (by decide) (by decide) rfl).below (((Below.refl _ _).alloc (Nat.le_refl _) o).alloc (by simp) o2)
  have F1 : ∀ T o, Elems .i8 ((wa.alloc o).alloc (.cells #[.int .i8 1, .int .i8 (-2), .int .i8 3] T)) (some ⟨wa.heap.size + 1, 0, none⟩) 3 [1, -2, 3] := fun T o => elems_litK [1, -2, 3] rfl (by simp) (by decide) (by decide) rfl
  have F2 : ∀ T o T2, Rws .i8 (((wa.alloc o).alloc (.cells #[.int .i8 1, .int .i8 (-2), .int .i8 3] T)).alloc (.cells #[.slice (some ⟨wa.heap.size + 1, 0, none⟩) 3 3] T2)) (some ⟨wa.heap.size + 2, 0, none⟩) 1 [⟨some ⟨wa.heap.size + 1, 0, none⟩, 3, 3, [1, -2, 3]⟩] := fun T o T2 => rws_one _ (rw_in (F1 T o) (by decide)) (by simp)
  have C0 := fun o o2 o3 => ((B1.alloc B1.size o).alloc (by have := B1.size; simp; omega) o2).alloc (by have := B1.size; simp; omega) o3
  have A0 := fun o o2 o3 => hE.below ((((Below.refl wa.heap.size wa).alloc (Nat.le_refl _) o).alloc (by simp) o2).alloc (by simp; omega) o3)
  clear F1 hE
  go_wp2_with fail
  refine (mix_lit _ _ _ _ (F0 _ _ _) (F2 _ _ _)).mono ?_
  rintro e wb ⟨⟨g2, rfl, hE2⟩, hb2⟩
  have B2 := below_two (C0 _ _ _) hb2
  have A1 := (A0 _ _ _).below hb2
  clear F0 F2 C0 A0 B1 hb2
  have A2 := fun o => A1.below ((Below.refl wb.heap.size wb).alloc (Nat.le_refl _) o)
  have L1 : ∀ T, Elems .i8 (wb.alloc (.cells #[.int .i8 32, .int .i8 (-32)] T)) (some ⟨wb.heap.size, 0, none⟩) 2 [32, -32] := fun T => elems_litK [32, -32] rfl rfl (by decide) (by decide) rfl
  have B3 := fun o => B2.alloc B2.size o
  have G2 := fun o => hE2.below ((Below.refl wb.heap.size wb).alloc (Nat.le_refl _) o)
  clear A1 B2 hE2
  go_wp2_with fail
  refine (bytes_yes _ _ 2 2 2 [32, -32] _ (A2 _) (L1 _)).mono ?_
  rintro e wc ⟨rfl, d, rfl⟩
  generalize hwc : (wb.alloc (.cells #[.int .i8 32, .int .i8 (-32)] 39)).drewN d = wc
  have B4 : Below w.heap.size w wc := by rw [← hwc]; exact below_drewN (B3 _) d
  have G3 : Elems .i8 wc (some ⟨g2, 0, none⟩) 3 [1, -2, 3] := by rw [← hwc]; exact G2 _
  clear A2 L1 B3 G2 hwc
  have M1 : ∀ T, Elems .i32 (wc.alloc (.cells #[.int .i32 5, .int .i32 5] T)) (some ⟨wc.heap.size, 0, none⟩) 2 [5, 5] := fun T => elems_litK [5, 5] rfl rfl (by decide) (by decide) rfl
  have B5 := fun o => B4.alloc B4.size o
  have G4 := fun o => G3.below ((Below.refl wc.heap.size wc).alloc (Nat.le_refl _) o)
  clear G3 B4
  go_wp2_with fail
  refine (soft_lit _ _ (M1 _) (HT.out.below (B5 _))).mono ?_
  rintro e wd ⟨⟨g3, rfl, hE3⟩, hb3⟩
  have B6 := below_two (B5 _) hb3
  have G5 := (G4 _).below hb3
  clear M1 B5 G4 hb3
  have S1 := fun o => hE3.below ((Below.refl wd.heap.size wd).alloc (Nat.le_refl _) o)
  have S2 : ∀ T, Elems .i32 (wd.alloc (.cells #[.int .i32 32768, .int .i32 32768] T)) (some ⟨wd.heap.size, 0, none⟩) 2 [32768, 32768] := fun T => elems_litK [32768, 32768] rfl rfl (by decide) (by decide) rfl
  have B7 := fun o => B6.alloc B6.size o
  have G6 := fun o => G5.below ((Below.refl wd.heap.size wd).alloc (Nat.le_refl _) o)
  clear hE3 B6 G5
  go_wp2_with fail
  refine (ints_yes _ _ 2 2 2 [32768, 32768] _ (S1 _) (S2 _)).mono ?_
  rintro e we ⟨rfl, d, rfl⟩
  generalize hwe : (wd.alloc (.cells #[.int .i32 32768, .int .i32 32768] 21)).drewN d = we
  have B8 : Below w.heap.size w we := by rw [← hwe]; exact below_drewN (B7 _) d
  have G7 : Elems .i8 we (some ⟨g2, 0, none⟩) 3 [1, -2, 3] := by rw [← hwe]; exact G6 _
  clear S1 S2 B7 G6 hwe
  have G8 := fun o => G7.below ((Below.refl we.heap.size we).alloc (Nat.le_refl _) o)
  have L2 : ∀ T, Elems .i8 (we.alloc (.cells #[.int .i8 1, .int .i8 (-2), .int .i8 3] T)) (some ⟨we.heap.size, 0, none⟩) 3 [1, -2, 3] := fun T => elems_litK [1, -2, 3] rfl rfl (by decide) (by decide) rfl
  have B9 := fun o => B8.alloc B8.size o
  clear G7 B8
  go_wp2_with fail
  refine (bytes_yes _ _ 3 3 3 [1, -2, 3] _ (G8 _) (L2 _)).mono ?_
  rintro e wf ⟨rfl, d, rfl⟩
  generalize hwf : (we.alloc (.cells #[.int .i8 1, .int .i8 (-2), .int .i8 3] 39)).drewN d = wf
  have C1 : Below w.heap.size w wf := by rw [← hwf]; exact below_drewN (B9 _) d
  clear G8 L2 B9 hwf
  have L3 : ∀ T, Elems .i8 (wf.alloc (.cells #[.int .i8 (-1), .int .i8 0, .int .i8 7] T)) (some ⟨wf.heap.size, 0, none⟩) 3 [-1, 0, 7] := fun T => elems_litK [-1, 0, 7] rfl rfl (by decide) (by decide) rfl
  have C2 := fun o => C1.alloc C1.size o
  clear C1
  go_wp2_with fail
  refine (gate_lit _ _ (L3 _)).mono ?_
  rintro e wg ⟨⟨g4, rfl, hE4⟩, hb4⟩
  have C3 := below_two (C2 _) hb4
  clear L3 C2 hb4
  have T1 := fun o => hE4.below ((Below.refl wg.heap.size wg).alloc (Nat.le_refl _) o)
  have T2 : ∀ T, Elems .i8 (wg.alloc (.cells #[.int .i8 0, .int .i8 0, .int .i8 7] T)) (some ⟨wg.heap.size, 0, none⟩) 3 [0, 0, 7] := fun T => elems_litK [0, 0, 7] rfl rfl (by decide) (by decide) rfl
  have C4 := fun o => C3.alloc C3.size o
  clear hE4 C3
  go_wp2_with fail
  refine (bytes_yes _ _ 3 3 3 [0, 0, 7] _ (T1 _) (T2 _)).mono ?_
  rintro e wh ⟨rfl, d, rfl⟩
  have C5 := below_drewN (C4 (.cells #[.int .i8 0, .int .i8 0, .int .i8 7] 39)) d
  clear T1 T2 C4 HT
  go_wp2
  go_ret
  exact ⟨rfl, C5⟩

end Go.Proofs.YthblniakghfchaaDoor
