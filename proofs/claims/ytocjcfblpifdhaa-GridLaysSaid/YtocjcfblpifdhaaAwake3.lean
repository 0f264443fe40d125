/-
  The document's examples of layer 3: 'awake' returns true in every world; what was in memory stays.
-/
import Derived.Test.YtocjcfblpifdhaaStack
import Derived.Test.YtocjcfblpifdhaaTimes
import Derived.Test.YtocjcfblpifdhaaHeld
import Derived.Deep.RegionHeld3
namespace Go.Proofs.Ytocjcfblpifdhaa
open Go.RowKit
set_option linter.unusedVariables false

theorem elems_lit {w : World} {T : TypeId} (xs : List Int) {cs : Array Value} (hcs : cs = (xs.map (Value.int .i32)).toArray) {b : Nat} (hb : b = w.heap.size) (hw : ∀ x ∈ xs, (Lit.int .i32 x).wf = true) (hl : xs.length ≤ 100) {n : Nat} (hn : xs.length = n) : Elems .i32 (w.alloc (.cells cs T)) (some ⟨b, 0, none⟩) n xs := by
  subst hcs hb hn
  refine ⟨rfl, by omega, hw, fun _ => ⟨w.heap.size, 0, rfl, fun i hi => ?_⟩⟩
  rw [Nat.zero_add, World.cell?_alloc_new]
  simp [List.getD, hi]

theorem two_four (b : Nat) (w : World) : Calls Try.prog 16 #[.slice (some ⟨b, 0, none⟩) 4 4] w fun e w' => e = .returned (.agg #[.int .i64 2, .int .i64 2, .slice (some ⟨b, 0, none⟩) 4 4]) ∧ Below w.heap.size w w' := by
  go_enter Try.func16, Try.ntmps16
  go_wp2
  exact bodyPost_ret (v := .agg #[.int .i64 2, .int .i64 2, .slice (some ⟨b, 0, none⟩) 4 4]) (by simp [results, Try.results16, go_sem]) rfl ⟨rfl, (Below.refl _ _).alloc (Nat.le_refl _) _⟩
theorem two_none (w : World) : Calls Try.prog 16 #[.slice none 0 0] w fun e w' => e = .returned (.agg #[.int .i64 0, .int .i64 2, .slice none 0 0]) ∧ Below w.heap.size w w' := by
  go_enter Try.func16, Try.ntmps16
  go_wp2
  exact bodyPost_ret (v := .agg #[.int .i64 0, .int .i64 2, .slice none 0 0]) (by simp [results, Try.results16, go_sem]) rfl ⟨rfl, (Below.refl _ _).alloc (Nat.le_refl _) _⟩

theorem lit_in {w : World} {b n : Nat} {xs : List Int} (h : Elems .i32 w (some ⟨b, 0, none⟩) n xs) (r c : Nat) (hr : r ≤ 100) (hc : c ≤ 100) (hn : n ≤ 100) : Gr.In w ⟨r, c, some ⟨b, 0, none⟩, n, n, xs⟩ :=
  ⟨h, Nat.le_refl _, by show n ≤ _; omega, ⟨fun e => (by cases e), fun x e _ => (by cases e; rfl)⟩, by show _ ≤ (r : Int); omega, by show (r : Int) ≤ _; omega, by show _ ≤ (c : Int); omega, by show (c : Int) ≤ _; omega⟩

theorem times_lit (a a2 : Nat) (w : World) (h : Elems .i32 w (some ⟨a, 0, none⟩) 4 [1, 2, 3, 4]) (h2 : Elems .i32 w (some ⟨a2, 0, none⟩) 2 [1, 1]) :
    Calls Try.prog 34 #[.agg #[.int .i64 2, .int .i64 2, .slice (some ⟨a, 0, none⟩) 4 4], .agg #[.int .i64 2, .int .i64 1, .slice (some ⟨a2, 0, none⟩) 2 2]] w fun e w' => (∃ g, e = .returned (.tuple #[.agg #[.int .i64 2, .int .i64 1, .slice (some ⟨g, 0, none⟩) 2 2], .int .i64 0]) ∧ Elems .i32 w' (some ⟨g, 0, none⟩) 2 [3, 7]) ∧ Below w.heap.size w w' :=
  (times_yes 2 2 2 1 _ _ 4 2 4 2 [1, 2, 3, 4] [1, 1] _ (lit_in h 2 2 (by decide) (by decide) (by decide)) (lit_in h2 2 1 (by decide) (by decide) (by decide)) 2 2 1 rfl rfl rfl rfl rfl rfl (by decide) (by decide) (by decide) (by decide) (by decide) (by decide)).mono (by
    rintro e w' ⟨⟨g, rfl, hE⟩, hb⟩
    refine ⟨⟨g, rfl, ?_⟩, hb⟩
    have e : (tab 2 1 fun i j => prod [1, 2, 3, 4] [1, 1] 2 1 i j) = [3, 7] := by decide +kernel
    rw [e] at hE
    exact hE)
theorem turn_lit (a : Nat) (w : World) (h : Elems .i32 w (some ⟨a, 0, none⟩) 4 [1, 2, 3, 4]) :
    Calls Try.prog 22 #[.agg #[.int .i64 2, .int .i64 2, .slice (some ⟨a, 0, none⟩) 4 4]] w fun e w' => (∃ g, e = .returned (.tuple #[.agg #[.int .i64 2, .int .i64 2, .slice (some ⟨g, 0, none⟩) 4 4], .int .i64 0]) ∧ Elems .i32 w' (some ⟨g, 0, none⟩) 4 [1, 3, 2, 4]) ∧ Below w.heap.size w w' :=
  (turn_yes 2 2 _ 4 4 [1, 2, 3, 4] _ (lit_in h 2 2 (by decide) (by decide) (by decide)) 2 2 rfl rfl (by decide) (by decide) rfl (by decide)).mono (by
    rintro e w' ⟨⟨g, rfl, hE⟩, hb⟩
    refine ⟨⟨g, rfl, ?_⟩, hb⟩
    have e : (tab 2 2 fun i j => [1, 2, 3, 4].getD (j * 2 + i) 0) = [1, 3, 2, 4] := by decide +kernel
    rw [e] at hE
    exact hE)
theorem stack_lit (a a2 b : Nat) (w : World) (T : TypeId) (hb : b = w.heap.size) (h : Elems .i32 w (some ⟨a, 0, none⟩) 4 [1, 2, 3, 4]) (h2 : Elems .i32 w (some ⟨a2, 0, none⟩) 3 [1, 2, 3]) :
    Calls Try.prog 28 #[.slice (some ⟨b, 0, none⟩) 2 2] (w.alloc (.cells #[.int .i64 2, .int .i64 2, .slice (some ⟨a, 0, none⟩) 4 4, .int .i64 1, .int .i64 3, .slice (some ⟨a2, 0, none⟩) 3 3] T)) fun e w' => NoGrid 30 e ∧ Below (w.alloc (.cells #[.int .i64 2, .int .i64 2, .slice (some ⟨a, 0, none⟩) 4 4, .int .i64 1, .int .i64 3, .slice (some ⟨a2, 0, none⟩) 3 3] T)).heap.size (w.alloc (.cells #[.int .i64 2, .int .i64 2, .slice (some ⟨a, 0, none⟩) 4 4, .int .i64 1, .int .i64 3, .slice (some ⟨a2, 0, none⟩) 3 3] T)) w' :=
  stack_no _ 2 2 [⟨2, 2, some ⟨a, 0, none⟩, 4, 4, [1, 2, 3, 4]⟩, ⟨1, 3, some ⟨a2, 0, none⟩, 3, 3, [1, 2, 3]⟩] _ (grids_two ⟨2, 2, some ⟨a, 0, none⟩, 4, 4, [1, 2, 3, 4]⟩ ⟨1, 3, some ⟨a2, 0, none⟩, 3, 3, [1, 2, 3]⟩ (lit_in h 2 2 (by decide) (by decide) (by decide)) (lit_in h2 1 3 (by decide) (by decide) (by decide)) hb) (by decide) rfl

set_option maxHeartbeats 4000000 in
theorem awake (w : World) : Calls Try.prog 11 #[] w fun e w' => e = .returned (.bool true) ∧ Below w.heap.size w w' := by
  have E0 : ∀ T, Elems .i32 (w.alloc (.cells #[.int .i32 1, .int .i32 2, .int .i32 3, .int .i32 4] T)) (some ⟨w.heap.size, 0, none⟩) 4 [1, 2, 3, 4] := fun T => elems_lit [1, 2, 3, 4] rfl rfl (by decide) (by decide) rfl
  go_enter Try.func11, Try.ntmps11
  go_wp2_with fail
  refine (two_four _ _).mono ?_
  rintro e wa ⟨rfl, hb⟩
  have E1 := (E0 _).below hb
  have hB := below_two ((Below.refl _ _).alloc (Nat.le_refl _) _) hb
  have hsz := hB.size
  obtain ⟨hlt, _⟩ : w.heap.size < wa.heap.size ∧ True := ⟨by have := hb.size; simp at this; omega, trivial⟩
  clear E0 hb
  have X0 := box3_new wa (.int .i64 2) (.int .i64 2) (.slice (some ⟨w.heap.size, 0, none⟩) 4 4) 24
  have E2 := fun o o2 => E1.below (((Below.refl wa.heap.size wa).alloc (Nat.le_refl _) o).alloc (by simp) o2)
  have hB2 := fun o o2 => (hB.alloc hsz o).alloc (by simp; omega) o2
  have P2 : ∀ o, Elems .i32 ((wa.alloc o).alloc (.cells #[.int .i32 1, .int .i32 1] 21)) (some ⟨wa.heap.size + 1, 0, none⟩) 2 [1, 1] := fun o => elems_lit [1, 1] rfl (by simp) (by decide) (by decide) rfl
  have X1 := X0.alloc (.cells #[.int .i32 1, .int .i32 1] 21)
  obtain ⟨_, c0, c1, c2, _, _, _⟩ := X0
  clear E1 hB
  go_wp2_with fail
  refine (times_lit _ _ _ (E2 _ _) (P2 _)).mono ?_
  rintro e wb ⟨⟨g1, rfl, hE1⟩, hb⟩
  have Y0 := X1.below hb
  have hB := below_two (hB2 _ _) hb
  have hEg := (E2 _ _).below hb
  have hsz := hB.size
  clear E2 P2 hB2 X1 c0 c1 c2
  have hE1' := fun o => hE1.below ((Below.refl wb.heap.size wb).alloc (Nat.le_refl _) o)
  have hEg' := fun o => hEg.below ((Below.refl wb.heap.size wb).alloc (Nat.le_refl _) o)
  have Y1 := Y0.alloc (.cells #[.int .i64 2, .int .i64 1, .slice (some ⟨g1, 0, none⟩) 2 2] 24)
  have Z1 := box3_new wb (.int .i64 2) (.int .i64 1) (.slice (some ⟨g1, 0, none⟩) 2 2) 24
  have hB1 := fun o => hB.alloc hsz o
  clear hE1 hEg hb hB
  obtain ⟨_, c0, c1, c2, _, _, _⟩ := Y0
  go_wp2_with fail
  refine (turn_lit _ _ (hEg' _)).mono ?_
  rintro e wc ⟨⟨g2, rfl, hE2⟩, hb⟩
  have Y2 := Y1.below hb
  have Z2 := Z1.below hb
  have hB := below_two (hB1 _) hb
  have hE1 := (hE1' _).below hb
  have hEg := (hEg' _).below hb
  have hsz := hB.size
  clear hE1' hEg' Y1 Z1 hB1 hb c0 c1 c2
  have hE1' := fun o o2 => hE1.below (((Below.refl wc.heap.size wc).alloc (Nat.le_refl _) o).alloc (by simp) o2)
  have hEg' := fun o o2 => hEg.below (((Below.refl wc.heap.size wc).alloc (Nat.le_refl _) o).alloc (by simp) o2)
  have hE2' := fun o o2 => hE2.below (((Below.refl wc.heap.size wc).alloc (Nat.le_refl _) o).alloc (by simp) o2)
  have Q3 : ∀ o, Elems .i32 ((wc.alloc o).alloc (.cells #[.int .i32 1, .int .i32 2, .int .i32 3] 21)) (some ⟨wc.heap.size + 1, 0, none⟩) 3 [1, 2, 3] := fun o => elems_lit [1, 2, 3] rfl (by simp) (by decide) (by decide) rfl
  have Z3 := fun o o2 o3 => ((Z2.alloc o).alloc o2).alloc o3
  have V3 := fun o2 o3 => ((box3_new wc (.int .i64 2) (.int .i64 2) (.slice (some ⟨g2, 0, none⟩) 4 4) 24).alloc o2).alloc o3
  have hB1 := fun o o2 o3 => ((hB.alloc hsz o).alloc (by simp; omega) o2).alloc (by simp; omega) o3
  have hal := fun o o2 o3 => (((Below.refl wc.heap.size wc).alloc (Nat.le_refl _) o).alloc (by simp) o2).alloc (by simp; omega) o3
  have G1 := fun o o2 o3 => hE1.below (hal o o2 o3)
  have G2 := fun o o2 o3 => hE2.below (hal o o2 o3)
  obtain ⟨_, c0, c1, c2, _, _, _⟩ := Y2
  clear hE1 hEg hE2 hB Z2 hal hE1' hE2'
  go_wp2_with fail
  refine (stack_lit _ _ _ _ _ (by simp) (hEg' _ _) (Q3 _)).mono ?_
  rintro e wd ⟨he, hb⟩
  unfold NoGrid at he
  subst he
  have Z4 := (Z3 _ _ _).below hb
  have V4 := (V3 _ _).below hb
  have hB := below_two (hB1 _ _ _) hb
  have F1 := (G1 _ _ _).below hb
  have F2 := (G2 _ _ _).below hb
  clear Z3 V3 hB1 G1 G2 hEg' Q3 c0 c1 c2 hb
  have hz0 := hB.size
  have hx1 : ∀ o o2, Below wd.heap.size wd ((wd.alloc o).alloc o2).drew := fun o o2 => (((Below.refl wd.heap.size wd).alloc (Nat.le_refl _) o).alloc (by simp) o2).drew
  obtain ⟨_, p0, p1, p2, _, _, _⟩ := Z4.below (hx1 (.cells #[.int .i64 0, .int .i64 0, .slice none 0 0] 24) (.cells #[.int .i32 3, .int .i32 7] 21))
  obtain ⟨_, p3, p4, p5, _, _, _⟩ := V4.below (hx1 (.cells #[.int .i64 0, .int .i64 0, .slice none 0 0] 24) (.cells #[.int .i32 3, .int .i32 7] 21))
  obtain ⟨_, c0, c1, c2, _, _, _⟩ := Z4.alloc (.cells #[.int .i64 0, .int .i64 0, .slice none 0 0] 24)
  obtain ⟨_, d0, d1, d2, _, _, _⟩ := V4.alloc (.cells #[.int .i64 0, .int .i64 0, .slice none 0 0] 24)
  have hB1 : ∀ o W, Below (wd.alloc o).heap.size (wd.alloc o) W → Below w.heap.size w W := fun o W h => below_two (hB.alloc hz0 o) h
  go_wp2_with fail
  generalize hW0 : wd.alloc (.cells #[.int .i64 0, .int .i64 0, .slice none 0 0] 24) = W0 at *
  have hsW0 : wd.heap.size + 1 = W0.heap.size := by rw [← hW0]; simp
  have hx2 : Below wd.heap.size wd (W0.alloc (.cells #[.int .i32 3, .int .i32 7] 21)).drew := by
    rw [← hW0]; exact hx1 _ _
  have L1 : Elems .i32 (W0.alloc (.cells #[.int .i32 3, .int .i32 7] 21)).drew (some ⟨W0.heap.size, 0, none⟩) 2 [3, 7] := (elems_lit (w := W0) [3, 7] rfl rfl (by decide) (by decide) rfl).drewN 1
  have R1 := same_yes 2 1 (some ⟨g1, 0, none⟩) (some ⟨W0.heap.size, 0, none⟩) 2 2 2 [3, 7] _ (F1.below hx2) L1
  have hB2 := hB1
  clear hB1 hx1
  go_region_held3 (fun w' => w'.cell? ⟨wb.heap.size, 0, none⟩ = some (.int .i64 2) ∧ w'.cell? ⟨wb.heap.size, 1, none⟩ = some (.int .i64 1) ∧ w'.cell? ⟨wb.heap.size, 2, none⟩ = some (.slice (some ⟨g1, 0, none⟩) 2 2) ∧
      w'.cell? ⟨wc.heap.size, 0, none⟩ = some (.int .i64 2) ∧ w'.cell? ⟨wc.heap.size, 1, none⟩ = some (.int .i64 2) ∧ w'.cell? ⟨wc.heap.size, 2, none⟩ = some (.slice (some ⟨g2, 0, none⟩) 4 4))
    (first | go_keep | (go_split_ands; refine ⟨?_, ?_, ?_, ?_, ?_, ?_⟩ <;> assumption))
    (first
      | (go_at_call 23; (with_reducible refine R1.mono ?_); rintro e ws ⟨rfl, hs1⟩
         have hS1 := below_two hx2 hs1
         obtain ⟨_, a0, a1, a2, _, _, _⟩ := Z4.below hS1
         obtain ⟨_, a3, a4, a5, _, _, _⟩ := V4.below hS1
         obtain ⟨_, b0, b1, b2, _, _, _⟩ := (Z4.below hS1).alloc (.cells #[.int .i32 1, .int .i32 3, .int .i32 2, .int .i32 4] 21)
         obtain ⟨_, b3, b4, b5, _, _, _⟩ := (V4.below hS1).alloc (.cells #[.int .i32 1, .int .i32 3, .int .i32 2, .int .i32 4] 21)
         have L2 : Elems .i32 (ws.alloc (.cells #[.int .i32 1, .int .i32 3, .int .i32 2, .int .i32 4] 21)) (some ⟨ws.heap.size, 0, none⟩) 4 [1, 3, 2, 4] := elems_lit [1, 3, 2, 4] rfl rfl (by decide) (by decide) rfl)
      | (go_at_call 16; (with_reducible refine (two_four _ _).mono ?_); rintro e wt ⟨rfl, hs2⟩
         have hS2 := below_two (hS1.alloc hS1.size _) hs2
         obtain ⟨_, m0, m1, m2, _, _, _⟩ := Z4.below hS2
         obtain ⟨_, m3, m4, m5, _, _, _⟩ := V4.below hS2
         have R2 := same_yes 2 2 (some ⟨g2, 0, none⟩) (some ⟨ws.heap.size, 0, none⟩) 4 4 4 [1, 3, 2, 4] _ (F2.below hS2) (L2.below hs2))
      | (go_at_call 23; (with_reducible refine R2.mono ?_); rintro e wu ⟨rfl, hs3⟩
         have hS3 := below_two hS2 hs3
         obtain ⟨_, n0, n1, n2, _, _, _⟩ := Z4.below hS3
         obtain ⟨_, n3, n4, n5, _, _, _⟩ := V4.below hS3))
  have hfin := below_two hB hS3
  go_wp2
  go_ret
  exact ⟨rfl, hfin⟩

end Go.Proofs.Ytocjcfblpifdhaa
