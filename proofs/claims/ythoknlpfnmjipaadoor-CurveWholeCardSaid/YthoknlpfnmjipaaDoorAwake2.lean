/-
  The document's examples of layer 2: 'awake' returns true in every world whose table holds the document's numbers; what was in memory stays.
-/
import Derived.Test.YthoknlpfnmjipaaDoorExp
import Derived.Test.YthoknlpfnmjipaaDoorRoots
import Derived.Test.YthoknlpfnmjipaaDoorShares
import Derived.Test.YthoknlpfnmjipaaDoorInts
namespace Go.Proofs.YthoknlpfnmjipaaDoor
open Go.RowKit
set_option linter.unusedVariables false

theorem exp_c (x y : Int) (h1 : -9223372036854775808 ≤ x) (h2 : x ≤ 9223372036854775807) (he : E x = y) (w : World) (hT : Tab w) :
    Calls Tryd.prog 13 #[.int .i64 x] w fun e w' => e = .returned (.int .i32 y) ∧ ∃ d, w' = w.drewN d := by
  rw [← he]; exact exp x h1 h2 w hT
theorem root_c (n r : Int) (h0 : 0 ≤ n) (h1 : n ≤ 18446744073709551615) (hr : IsRoot n r) (w : World) :
    Calls Tryd.prog 14 #[.int .u64 n] w fun e w' => e = .returned (.int .u64 r) ∧ w = w' :=
  (root n h0 h1 w).mono (by rintro e w' ⟨⟨s, rfl, hs, _⟩, rfl⟩; exact ⟨by rw [hs.unique hr], rfl⟩)
theorem inverse_c (n r : Int) (h0 : 0 ≤ n) (h1 : n ≤ 18446744073709551615) (hr : IsRoot (281474976710656 / one_of n) r) (w : World) :
    Calls Tryd.prog 16 #[.int .u64 n] w fun e w' => e = .returned (.int .u64 r) ∧ w = w' :=
  (inverse n h0 h1 w).mono (by rintro e w' ⟨⟨s, rfl, hs, _⟩, rfl⟩; exact ⟨by rw [hs.unique hr], rfl⟩)

theorem elems_trio (w : World) (T : TypeId) (a b c : Int) (ha : (Lit.int .i32 a).wf = true) (hb : (Lit.int .i32 b).wf = true) (hc : (Lit.int .i32 c).wf = true) : Elems .i32 (w.alloc (.cells #[.int .i32 a, .int .i32 b, .int .i32 c] T)) (some ⟨w.heap.size, 0, none⟩) 3 [a, b, c] := by
  refine ⟨rfl, by omega, by simp only [List.mem_cons, List.not_mem_nil, or_false]; rintro x (rfl | rfl | rfl) <;> assumption, fun _ => ⟨w.heap.size, 0, rfl, fun i hi => ?_⟩⟩
  rw [World.cell?_alloc_new]
  match i, hi with
  | 0, _ => rfl
  | 1, _ => rfl
  | 2, _ => rfl

theorem awake (w : World) (hT : Tab w) :
    Calls Tryd.prog 10 #[] w fun e w' => e = .returned (.bool true) ∧ Below w.heap.size w w' := by
  have e1 := exp_c 0 65536 (by decide) (by decide) (by decide +kernel)
  have e2 := exp_c (-65536) 24110 (by decide) (by decide) (by decide +kernel)
  have e3 := exp_c (-45426) 32768 (by decide) (by decide) (by decide +kernel)
  have e4 := exp_c (-1000000000) 0 (by decide) (by decide) (by decide +kernel)
  have r1 := root_c 99 9 (by decide) (by decide) (by unfold IsRoot; decide)
  have r2 := inverse_c 4 8388608 (by decide) (by decide) (by unfold IsRoot; decide)
  go_enter Tryd.func10, Tryd.ntmps10
  go_wp2_with fail
  refine (e1 _ hT).mono ?_
  rintro e wa ⟨rfl, d1, rfl⟩
  go_wp2_with fail
  refine (e2 _ (hT.drewN _)).mono ?_
  rintro e wa ⟨rfl, d2, rfl⟩
  go_wp2_with fail
  refine (e3 _ (hT.drewN _)).mono ?_
  rintro e wa ⟨rfl, d3, rfl⟩
  go_wp2_with fail
  refine (e4 _ (hT.drewN _)).mono ?_
  rintro e wa ⟨rfl, d4, rfl⟩
  go_wp2_with fail
  refine (r1 _).mono ?_
  rintro e wa ⟨rfl, rfl⟩
  go_wp2_with fail
  refine (r2 _).mono ?_
  rintro e wa ⟨rfl, rfl⟩
  clear e1 e2 e3 e4 r1 r2
  go_wp2_with fail
  refine (shares 100 _ 3 3 [1, -5, 2] _ (elems_trio (w.drewN _) _ 1 (-5) 2 rfl rfl rfl) (by decide) (by decide) (by decide)).mono ?_
  rintro e wb ⟨g, rfl, hE, hb⟩
  rw [show [1, -5, 2].map (share 100 (tot [1, -5, 2])) = [33, 0, 66] by decide] at hE
  have hb0 : Below w.heap.size w wb := below_two (((below_drewN (Below.refl _ _) _).alloc (Nat.le_refl _) _)) hb
  have hs := hb0.size
  have hEo : ∀ o, Elems .i32 (wb.alloc o) (some ⟨g, 0, none⟩) 3 [33, 0, 66] := fun o => hE.below ((Below.refl _ _).alloc (Nat.le_refl _) o)
  have hba : ∀ o, Below w.heap.size w (wb.alloc o) := fun o => hb0.alloc hs o
  clear hE hb hb0
  go_wp2_with fail
  refine (ints_same _ 3 3 [33, 0, 66] _ 3 _ (hEo _) (elems_trio wb _ 33 0 66 rfl rfl rfl)).mono ?_
  rintro e wc ⟨rfl, d, rfl⟩
  have hbc := below_drewN (hba (.cells #[.int .i32 33, .int .i32 0, .int .i32 66] 21)) d
  clear hEo hba hT
  go_wp2
  go_ret
  exact ⟨rfl, hbc⟩

end Go.Proofs.YthoknlpfnmjipaaDoor
