/-
  GridCells, a branch of it.
-/
import Derived.Test.YtocjcfblpifdhaaLawKit2
import Derived.Test.YtocjcfblpifdhaaAt
import Derived.WalkKit
import Derived.Deep.RegionHeld3
namespace Go.Proofs.Ytocjcfblpifdhaa
open Go.RowKit
set_option linter.unusedVariables false

set_option maxHeartbeats 8000000 in
set_option maxRecDepth 100000 in
theorem cells_in (g0 : Gr) (a1 : Int) (a2 : Int) (w : World) (h0 : g0.In w) (h1 : (Lit.int .i64 a1).wf = true) (h2 : (Lit.int .i64 a2).wf = true) (hsm : smallB [g0] = true) (hright : rightB g0.r g0.c g0.n = true) (hin : 0 ≤ a1 ∧ a1 < g0.r ∧ 0 ≤ a2 ∧ a2 < g0.c) :
    Calls Try.prog 3 #[.agg #[.int .i64 g0.r, .int .i64 g0.c, .slice g0.a g0.n g0.cap], .int .i64 a1, .int .i64 a2] w fun e w' => e = .returned (.bool true) ∧ Below w.heap.size w w' := by
  have n1 := wf64 h1
  have n2 := wf64 h2
  clear h1 h2
  have hin0 := Lib.hid h0
  have hst := (st_nil w).box g0 h0 24 (b := w.heap.size) rfl
  clear h0
  obtain ⟨R, C, x1, x2, hR, hC, x3⟩ := rightB_yes hright
  obtain ⟨i, rfl⟩ : ∃ i : Nat, a1 = i := ⟨a1.toNat, by omega⟩
  obtain ⟨j, rfl⟩ : ∃ j : Nat, a2 = j := ⟨a2.toNat, by omega⟩
  have hi : i < R := by omega
  have hj : j < C := by omega
  have HG := Lib.hid (And.intro x1 (And.intro x2 x3))
  obtain ⟨y1, y2, y3, y4⟩ := hin
  clear x1 x2 x3
  go_enter Try.func3, Try.ntmps3
  go_wp2_with fail
  refine (awake _).mono ?_
  rintro e w1 ⟨rfl, hb⟩
  replace hst := hst.below hb
  clear hb
  obtain ⟨r2l, r2a, r2b, r2c, _, _, _⟩ := (hst.get (b := w.heap.size) (g := g0) (by simp)).box
  have hG := fun T => grids_one (T := T) (b := w1.heap.size) g0 (hst.inn (b := w.heap.size) (g := g0) (by simp)) rfl
  go_wp2_with fail
  refine (small_c _ _ _ [g0] _ (hG _) true hsm).mono ?_
  rintro e3 e3w ⟨rfl, rfl⟩
  replace hst := hst.alloc (.cells #[.int .i64 g0.r, .int .i64 g0.c, .slice g0.a g0.n g0.cap] 24)
  clear hG hsm r2l r2a r2b r2c
  obtain ⟨r4l, r4a, r4b, r4c, _, _, _⟩ := (hst.get (b := w.heap.size) (g := g0) (by simp)).box
  go_wp2_with fail
  refine (ref_right_c g0.r g0.c g0.a g0.n g0.cap _ (hst.inn (b := w.heap.size) (g := g0) (by simp)).1.2.1 true hright).mono ?_
  rintro e w5 ⟨rfl, hb⟩
  replace hst := hst.below hb
  clear hb r4l r4a r4b r4c
  obtain ⟨r6l, r6a, r6b, r6c, _, _, _⟩ := (hst.get (b := w.heap.size) (g := g0) (by simp)).box
  go_wp2_with fail
  refine (at_yes g0.r g0.c g0.a g0.n g0.cap g0.v _ (hst.inn (b := w.heap.size) (g := g0) (by simp)) R C i j HG.out.1 HG.out.2.1 hR hC HG.out.2.2 hi hj).mono ?_
  rintro e w7 ⟨rfl, hb⟩
  replace hst := hst.below hb
  clear hb r6l r6a r6b r6c
  obtain ⟨r8l, r8a, r8b, r8c, _, _, _⟩ := (hst.get (b := w.heap.size) (g := g0) (by simp)).box
  obtain ⟨v0, hv0⟩ : ∃ v0, v0 = g0.v.getD (i * C + j) 0 := ⟨_, rfl⟩
  rw [← hv0]
  have hbox := (hst.get (b := w.heap.size) (g := g0) (by simp)).box
  have hinn := hst.inn (b := w.heap.size) (g := g0) (by simp)
  have hx1 : Below w7.heap.size w7 (w7.alloc (.cells #[.int .i64 g0.r, .int .i64 g0.c, .slice g0.a g0.n g0.cap] 24)).drew := ((Below.refl _ _).alloc (Nat.le_refl _) _).drew
  have R1 := right_one g0 true hright w7.heap.size 1 (w7.alloc (.cells #[.int .i64 g0.r, .int .i64 g0.c, .slice g0.a g0.n g0.cap] 24)).drew (show Grids (w7.alloc (.cells #[.int .i64 g0.r, .int .i64 g0.c, .slice g0.a g0.n g0.cap] 24)).drew _ _ _ from grids_one (T := 24) (b := w7.heap.size) g0 hinn rfl)
  have HI := Lib.hid hinn
  clear hinn
  obtain ⟨_, y0, y1, y2, _, _, _⟩ := hbox.below hx1
  obtain ⟨_, z0, z1, z2, _, _, _⟩ := hbox
  have hbox2 := (hst.get (b := w.heap.size) (g := g0) (by simp)).box
  have h2all : ∀ (W : World), g0.In W → Calls Try.prog 15 #[.slice (some ⟨W.heap.size, 0, none⟩) 2 2] (W.alloc (.cells #[.int .i64 g0.r, .int .i64 g0.c, .slice g0.a g0.n g0.cap, .int .i64 0, .int .i64 2, .slice none 0 0] 24)) fun e w2 => e = .returned (.bool true) ∧ Below (W.alloc (.cells #[.int .i64 g0.r, .int .i64 g0.c, .slice g0.a g0.n g0.cap, .int .i64 0, .int .i64 2, .slice none 0 0] 24)).heap.size (W.alloc (.cells #[.int .i64 g0.r, .int .i64 g0.c, .slice g0.a g0.n g0.cap, .int .i64 0, .int .i64 2, .slice none 0 0] 24)) w2 := fun W hg => by
    have h := right_any (some ⟨W.heap.size, 0, none⟩) 2 2 [g0, ⟨0, 2, none, 0, 0, []⟩] _ (grids_two (T := 24) (b := W.heap.size) g0 ⟨0, 2, none, 0, 0, []⟩ hg ⟨Elems.nil_ _ _ _, Nat.le_refl _, by show (0 : Nat) ≤ _; omega, ⟨fun _ => rfl, fun x e => (by cases e)⟩, by show _ ≤ (0 : Int); omega, by show (0 : Int) ≤ _; omega, by show _ ≤ (2 : Int); omega, by show (2 : Int) ≤ _; omega⟩ rfl)
    have e : rightAll [g0, ⟨0, 2, none, 0, 0, []⟩] = true := by
      unfold rightAll
      simp only [List.all_cons, List.all_nil, Bool.and_true, hright]
      decide
    rw [e] at h
    exact h
  have h3all : ∀ (W : World), Calls Try.prog 15 #[.slice none 0 0] W fun e w2 => e = .returned (.bool true) ∧ Below W.heap.size W w2 := fun W => right_any none 0 0 [] W (Grids.nil_ _ _)
  have hcell : ∀ W, Below w7.heap.size w7 W → Calls Try.prog 17 #[.agg #[.int .i64 g0.r, .int .i64 g0.c, .slice g0.a g0.n g0.cap], .int .i64 i, .int .i64 j] W fun e w2 => e = .returned (.int .i32 v0) ∧ Below W.heap.size W w2 := fun W hb => by
    have h := (HI.out.below hb).1
    rw [hv0, HG.out.1, HG.out.2.1, HG.out.2.2]
    rw [HG.out.2.2] at h
    exact ref_cell R C i j g0.a g0.cap g0.v W h hR hC hi hj
  clear hv0
  clear hright
  go_wp2_with fail
  refine wp_region_held_drew (S := (fun w' => w'.cell? ⟨w.heap.size, 0, none⟩ = some (.int .i64 g0.r) ∧ w'.cell? ⟨w.heap.size, 1, none⟩ = some (.int .i64 g0.c) ∧ w'.cell? ⟨w.heap.size, 2, none⟩ = some (.slice g0.a g0.n g0.cap))) (by kernel_rfl) ?_ (fun hHeld => ?_)
  · (first | go_keep | (go_split_ands; refine ⟨?_, ?_, ?_⟩ <;> assumption))
  refine wpAnyH_take (i := 0) (oi := ⟨some 52, _, _, _, _, _⟩) (v := ?_) rfl (by kernel_rfl) (by kernel_rfl) (by kernel_rfl) (fun _ _ _ h => h) (Or.inl ⟨by rfl, ?hy42⟩) hHeld ?rest42
  case hy42 => (intro W hSw; (try dsimp only at hSw); go_simp; (try with_reducible rfl))
  simp only [Act.put, List.setIfInBounds_toArray, List.set_cons_zero, List.set_cons_succ]
  refine wpAnyH_take (i := 3) (oi := ⟨some 55, _, _, _, _, _⟩) (v := ?_) rfl (by kernel_rfl) (by kernel_rfl) (by kernel_rfl) (fun _ _ _ h => h) (Or.inl ⟨by rfl, ?hy43⟩) hHeld ?rest43
  case hy43 => (intro W hSw; (try dsimp only at hSw); go_simp; (try with_reducible rfl))
  simp only [Act.put, List.setIfInBounds_toArray, List.set_cons_zero, List.set_cons_succ]
  refine wpAnyH_ready (rs := [1]) (by kernel_rfl) (by simp) ?_
  refine AllReadyH.cons (o := ⟨some 53, _, _, _, _, _⟩) rfl (fun K hK => ?_) AllReadyH.nil
  go_simp
  refine hK.out _ _ ?_ (fun hNew => ?_)
  · ((try dsimp only); (first | go_keep | (go_split_ands; refine ⟨?_, ?_, ?_⟩ <;> assumption)))
  clear hK K hHeld
  have hHeld := hNew
  clear hNew
  try simp only [Act.put, List.setIfInBounds_toArray, List.set_cons_zero, List.set_cons_succ]
  refine wpAnyH_ready (rs := [2]) (by kernel_rfl) (by simp) ?_
  refine AllReadyH.cons (o := ⟨some 54, _, _, _, _, _⟩) rfl (fun K hK => ?_) AllReadyH.nil
  go_simp
  (go_at_call 15; (with_reducible refine R1.mono ?_); rintro e ws ⟨rfl, hs1⟩)
  have hS1 := below_two hx1 hs1
  obtain ⟨_, b0, b1, b2, _, _, _⟩ := hbox2.below hS1
  (try go_wp2_with fail)
  refine hK.out _ _ ?_ (fun hNew => ?_)
  · ((try dsimp only); (first | go_keep | (go_split_ands; refine ⟨?_, ?_, ?_⟩ <;> assumption)))
  clear hK K hHeld
  have hHeld := hNew
  clear hNew
  try simp only [Act.put, List.setIfInBounds_toArray, List.set_cons_zero, List.set_cons_succ]
  refine wpAnyH_take (i := 4) (oi := ⟨some 56, _, _, _, _, _⟩) (v := ?_) rfl (by kernel_rfl) (by kernel_rfl) (by kernel_rfl) (fun _ _ _ h => h) (Or.inl ⟨by rfl, ?hy46⟩) hHeld ?rest46
  case hy46 => (intro W hSw; (try dsimp only at hSw); go_simp; (try with_reducible rfl))
  simp only [Act.put, List.setIfInBounds_toArray, List.set_cons_zero, List.set_cons_succ]
  refine wpAnyH_take (i := 5) (oi := ⟨some 57, _, _, _, _, _⟩) (v := ?_) rfl (by kernel_rfl) (by kernel_rfl) (by kernel_rfl) (fun _ _ _ h => h) (Or.inl ⟨by rfl, ?hy47⟩) hHeld ?rest47
  case hy47 => (intro W hSw; (try dsimp only at hSw); go_simp; (try with_reducible rfl))
  simp only [Act.put, List.setIfInBounds_toArray, List.set_cons_zero, List.set_cons_succ]
  refine wpAnyH_take (i := 6) (oi := ⟨some 58, _, _, _, _, _⟩) (v := ?_) rfl (by kernel_rfl) (by kernel_rfl) (by kernel_rfl) (fun _ _ _ h => h) (Or.inl ⟨by rfl, ?hy48⟩) hHeld ?rest48
  case hy48 => (intro W hSw; (try dsimp only at hSw); go_simp; (try with_reducible rfl))
  simp only [Act.put, List.setIfInBounds_toArray, List.set_cons_zero, List.set_cons_succ]
  refine wpAnyH_take (i := 10) (oi := ⟨some 62, _, _, _, _, _⟩) (v := ?_) rfl (by kernel_rfl) (by kernel_rfl) (by kernel_rfl) (fun _ _ _ h => h) (Or.inl ⟨by rfl, ?hy49⟩) hHeld ?rest49
  case hy49 => (intro W hSw; (try dsimp only at hSw); go_simp; (try with_reducible rfl))
  simp only [Act.put, List.setIfInBounds_toArray, List.set_cons_zero, List.set_cons_succ]
  refine wpAnyH_ready (rs := [7]) (by kernel_rfl) (by simp) ?_
  refine AllReadyH.cons (o := ⟨some 59, _, _, _, _, _⟩) rfl (fun K hK => ?_) AllReadyH.nil
  go_simp
  (go_at_call 16; (with_reducible refine (two_none _).mono ?_); rintro e wt ⟨rfl, hs2⟩)
  have hS2 := below_two hS1 hs2
  obtain ⟨_, c0, c1, c2, _, _, _⟩ := hbox2.below hS2
  obtain ⟨_, d0, d1, d2, _, _, _⟩ := (hbox2.below hS2).alloc (.cells #[.int .i64 g0.r, .int .i64 g0.c, .slice g0.a g0.n g0.cap, .int .i64 0, .int .i64 2, .slice none 0 0] 24)
  have R2 := h2all wt (HI.out.below hS2)
  (try go_wp2_with fail)
  refine hK.out _ _ ?_ (fun hNew => ?_)
  · ((try dsimp only); (first | go_keep | (go_split_ands; refine ⟨?_, ?_, ?_⟩ <;> assumption)))
  clear hK K hHeld
  have hHeld := hNew
  clear hNew
  try simp only [Act.put, List.setIfInBounds_toArray, List.set_cons_zero, List.set_cons_succ]
  refine wpAnyH_ready (rs := [8]) (by kernel_rfl) (by simp) ?_
  refine AllReadyH.cons (o := ⟨some 60, _, _, _, _, _⟩) rfl (fun K hK => ?_) AllReadyH.nil
  go_simp
  refine hK.out _ _ ?_ (fun hNew => ?_)
  · ((try dsimp only); (first | go_keep | (go_split_ands; refine ⟨?_, ?_, ?_⟩ <;> assumption)))
  clear hK K hHeld
  have hHeld := hNew
  clear hNew
  try simp only [Act.put, List.setIfInBounds_toArray, List.set_cons_zero, List.set_cons_succ]
  refine wpAnyH_ready (rs := [9]) (by kernel_rfl) (by simp) ?_
  refine AllReadyH.cons (o := ⟨some 61, _, _, _, _, _⟩) rfl (fun K hK => ?_) AllReadyH.nil
  go_simp
  (go_at_call 15; (with_reducible refine R2.mono ?_); rintro e wu ⟨rfl, hs3⟩)
  have hS3 := below_two (hS2.alloc hS2.size (.cells #[.int .i64 g0.r, .int .i64 g0.c, .slice g0.a g0.n g0.cap, .int .i64 0, .int .i64 2, .slice none 0 0] 24)) hs3
  obtain ⟨_, i0, i1, i2, _, _, _⟩ := hbox2.below hS3
  (try go_wp2_with fail)
  refine hK.out _ _ ?_ (fun hNew => ?_)
  · ((try dsimp only); (first | go_keep | (go_split_ands; refine ⟨?_, ?_, ?_⟩ <;> assumption)))
  clear hK K hHeld
  have hHeld := hNew
  clear hNew
  try simp only [Act.put, List.setIfInBounds_toArray, List.set_cons_zero, List.set_cons_succ]
  refine wpAnyH_take (i := 11) (oi := ⟨some 63, _, _, _, _, _⟩) (v := ?_) rfl (by kernel_rfl) (by kernel_rfl) (by kernel_rfl) (fun _ _ _ h => h) (Or.inl ⟨by rfl, ?hy53⟩) hHeld ?rest53
  case hy53 => (intro W hSw; (try dsimp only at hSw); go_simp; (try with_reducible rfl))
  simp only [Act.put, List.setIfInBounds_toArray, List.set_cons_zero, List.set_cons_succ]
  refine wpAnyH_take (i := 12) (oi := ⟨some 64, _, _, _, _, _⟩) (v := ?_) rfl (by kernel_rfl) (by kernel_rfl) (by kernel_rfl) (fun _ _ _ h => h) (Or.inl ⟨by rfl, ?hy54⟩) hHeld ?rest54
  case hy54 => (intro W hSw; (try dsimp only at hSw); go_simp; (try with_reducible rfl))
  simp only [Act.put, List.setIfInBounds_toArray, List.set_cons_zero, List.set_cons_succ]
  refine wpAnyH_take (i := 13) (oi := ⟨some 65, _, _, _, _, _⟩) (v := ?_) rfl (by kernel_rfl) (by kernel_rfl) (by kernel_rfl) (fun _ _ _ h => h) (Or.inl ⟨by rfl, ?hy55⟩) hHeld ?rest55
  case hy55 => (intro W hSw; (try dsimp only at hSw); go_simp; (try with_reducible rfl))
  simp only [Act.put, List.setIfInBounds_toArray, List.set_cons_zero, List.set_cons_succ]
  refine wpAnyH_ready (rs := [14]) (by kernel_rfl) (by simp) ?_
  refine AllReadyH.cons (o := ⟨some 66, _, _, _, _, _⟩) rfl (fun K hK => ?_) AllReadyH.nil
  go_simp
  (go_at_call 15; (with_reducible refine (h3all _).mono ?_); rintro e wv ⟨rfl, hs4⟩)
  have hS4 := below_two hS3 hs4
  obtain ⟨_, j0, j1, j2, _, _, _⟩ := hbox2.below hS4
  (try go_wp2_with fail)
  refine hK.out _ _ ?_ (fun hNew => ?_)
  · ((try dsimp only); (first | go_keep | (go_split_ands; refine ⟨?_, ?_, ?_⟩ <;> assumption)))
  clear hK K hHeld
  have hHeld := hNew
  clear hNew
  try simp only [Act.put, List.setIfInBounds_toArray, List.set_cons_zero, List.set_cons_succ]
  refine wpAnyH_take (i := 15) (oi := ⟨some 67, _, _, _, _, _⟩) (v := ?_) rfl (by kernel_rfl) (by kernel_rfl) (by kernel_rfl) (fun _ _ _ h => h) (Or.inl ⟨by rfl, ?hy57⟩) hHeld ?rest57
  case hy57 => (intro W hSw; (try dsimp only at hSw); go_simp; (try with_reducible rfl))
  simp only [Act.put, List.setIfInBounds_toArray, List.set_cons_zero, List.set_cons_succ]
  refine wpAnyH_take (i := 16) (oi := ⟨some 68, _, _, _, _, _⟩) (v := ?_) rfl (by kernel_rfl) (by kernel_rfl) (by kernel_rfl) (fun _ _ _ h => h) (Or.inl ⟨by rfl, ?hy58⟩) hHeld ?rest58
  case hy58 => (intro W hSw; (try dsimp only at hSw); go_simp; (try with_reducible rfl))
  simp only [Act.put, List.setIfInBounds_toArray, List.set_cons_zero, List.set_cons_succ]
  refine wpAnyH_take (i := 17) (oi := ⟨some 69, _, _, _, _, _⟩) (v := ?_) rfl (by kernel_rfl) (by kernel_rfl) (by kernel_rfl) (fun _ _ _ h => h) (Or.inl ⟨by rfl, ?hy59⟩) hHeld ?rest59
  case hy59 => (intro W hSw; (try dsimp only at hSw); go_simp; (try with_reducible rfl))
  simp only [Act.put, List.setIfInBounds_toArray, List.set_cons_zero, List.set_cons_succ]
  refine wpAnyH_take (i := 18) (oi := ⟨some 70, _, _, _, _, _⟩) (v := ?_) rfl (by kernel_rfl) (by kernel_rfl) (by kernel_rfl) (fun _ _ _ h => h) (Or.inl ⟨by rfl, ?hy60⟩) hHeld ?rest60
  case hy60 => (intro W hSw; (try dsimp only at hSw); go_simp; (try with_reducible rfl))
  simp only [Act.put, List.setIfInBounds_toArray, List.set_cons_zero, List.set_cons_succ]
  refine wpAnyH_take (i := 19) (oi := ⟨some 71, _, _, _, _, _⟩) (v := ?_) rfl (by kernel_rfl) (by kernel_rfl) (by kernel_rfl) (fun _ _ _ h => h) (Or.inl ⟨by rfl, ?hy61⟩) hHeld ?rest61
  case hy61 => (intro W hSw; (try dsimp only at hSw); go_simp; (try with_reducible rfl))
  simp only [Act.put, List.setIfInBounds_toArray, List.set_cons_zero, List.set_cons_succ]
  refine wpAnyH_take (i := 20) (oi := ⟨some 72, _, _, _, _, _⟩) (v := ?_) rfl (by kernel_rfl) (by kernel_rfl) (by kernel_rfl) (fun _ _ _ h => h) (Or.inl ⟨by rfl, ?hy62⟩) hHeld ?rest62
  case hy62 => (intro W hSw; (try dsimp only at hSw); go_simp; (try with_reducible rfl))
  simp only [Act.put, List.setIfInBounds_toArray, List.set_cons_zero, List.set_cons_succ]
  refine wpAnyH_take (i := 21) (oi := ⟨some 73, _, _, _, _, _⟩) (v := ?_) rfl (by kernel_rfl) (by kernel_rfl) (by kernel_rfl) (fun _ _ _ h => h) (Or.inl ⟨by rfl, ?hy63⟩) hHeld ?rest63
  case hy63 => (intro W hSw; (try dsimp only at hSw); go_simp; (try with_reducible rfl))
  simp only [Act.put, List.setIfInBounds_toArray, List.set_cons_zero, List.set_cons_succ]
  refine wpAnyH_take (i := 22) (oi := ⟨some 74, _, _, _, _, _⟩) (v := ?_) rfl (by kernel_rfl) (by kernel_rfl) (by kernel_rfl) (fun _ _ _ h => h) (Or.inl ⟨by rfl, ?hy64⟩) hHeld ?rest64
  case hy64 => (intro W hSw; (try dsimp only at hSw); go_simp; (try with_reducible rfl))
  simp only [Act.put, List.setIfInBounds_toArray, List.set_cons_zero, List.set_cons_succ]
  refine wpAnyH_take (i := 23) (oi := ⟨some 75, _, _, _, _, _⟩) (v := ?_) rfl (by kernel_rfl) (by kernel_rfl) (by kernel_rfl) (fun _ _ _ h => h) (Or.inl ⟨by rfl, ?hy65⟩) hHeld ?rest65
  case hy65 => (intro W hSw; (try dsimp only at hSw); go_simp; (try with_reducible rfl))
  simp only [Act.put, List.setIfInBounds_toArray, List.set_cons_zero, List.set_cons_succ]
  refine wpAnyH_take (i := 24) (oi := ⟨some 76, _, _, _, _, _⟩) (v := ?_) rfl (by kernel_rfl) (by kernel_rfl) (by kernel_rfl) (fun _ _ _ h => h) (Or.inl ⟨by rfl, ?hy66⟩) hHeld ?rest66
  case hy66 => (intro W hSw; (try dsimp only at hSw); go_simp; (try with_reducible rfl))
  simp only [Act.put, List.setIfInBounds_toArray, List.set_cons_zero, List.set_cons_succ]
  refine wpAnyH_take (i := 25) (oi := ⟨some 77, _, _, _, _, _⟩) (v := ?_) rfl (by kernel_rfl) (by kernel_rfl) (by kernel_rfl) (fun _ _ _ h => h) (Or.inl ⟨by rfl, ?hy67⟩) hHeld ?rest67
  case hy67 => (intro W hSw; (try dsimp only at hSw); go_simp; (try with_reducible rfl))
  simp only [Act.put, List.setIfInBounds_toArray, List.set_cons_zero, List.set_cons_succ]
  refine wpAnyH_take (i := 26) (oi := ⟨some 78, _, _, _, _, _⟩) (v := ?_) rfl (by kernel_rfl) (by kernel_rfl) (by kernel_rfl) (fun _ _ _ h => h) (Or.inl ⟨by rfl, ?hy68⟩) hHeld ?rest68
  case hy68 => (intro W hSw; (try dsimp only at hSw); go_simp; (try with_reducible rfl))
  simp only [Act.put, List.setIfInBounds_toArray, List.set_cons_zero, List.set_cons_succ]
  refine wpAnyH_take (i := 27) (oi := ⟨some 79, _, _, _, _, _⟩) (v := ?_) rfl (by kernel_rfl) (by kernel_rfl) (by kernel_rfl) (fun _ _ _ h => h) (Or.inl ⟨by rfl, ?hy69⟩) hHeld ?rest69
  case hy69 => (intro W hSw; (try dsimp only at hSw); go_simp; (try with_reducible rfl))
  simp only [Act.put, List.setIfInBounds_toArray, List.set_cons_zero, List.set_cons_succ]
  refine wpAnyH_take (i := 28) (oi := ⟨some 80, _, _, _, _, _⟩) (v := ?_) rfl (by kernel_rfl) (by kernel_rfl) (by kernel_rfl) (fun _ _ _ h => h) (Or.inl ⟨by rfl, ?hy70⟩) hHeld ?rest70
  case hy70 => (intro W hSw; (try dsimp only at hSw); go_simp; (try with_reducible rfl))
  simp only [Act.put, List.setIfInBounds_toArray, List.set_cons_zero, List.set_cons_succ]
  refine wpAnyH_ready (rs := [29]) (by kernel_rfl) (by simp) ?_
  refine AllReadyH.cons (o := ⟨some 81, _, _, _, _, _⟩) rfl (fun K hK => ?_) AllReadyH.nil
  go_simp
  (go_at_call 17; (with_reducible refine (hcell _ hS4).mono ?_); rintro e wx ⟨rfl, hs5⟩)
  have hS5 := below_two hS4 hs5
  obtain ⟨_, l0, l1, l2, _, _, _⟩ := hbox2.below hS5
  (try go_wp2_with fail)
  refine hK.out _ _ ?_ (fun hNew => ?_)
  · ((try dsimp only); (first | go_keep | (go_split_ands; refine ⟨?_, ?_, ?_⟩ <;> assumption)))
  clear hK K hHeld
  have hHeld := hNew
  clear hNew
  try simp only [Act.put, List.setIfInBounds_toArray, List.set_cons_zero, List.set_cons_succ]
  refine wpAnyH_take (i := 30) (oi := ⟨some 82, _, _, _, _, _⟩) (v := ?_) rfl (by kernel_rfl) (by kernel_rfl) (by kernel_rfl) (fun _ _ _ h => h) (Or.inl ⟨by rfl, ?hy72⟩) hHeld ?rest72
  case hy72 => (intro W hSw; (try dsimp only at hSw); go_simp; (try with_reducible rfl))
  simp only [Act.put, List.setIfInBounds_toArray, List.set_cons_zero, List.set_cons_succ]
  refine wpAnyH_take (i := 31) (oi := ⟨some 83, _, _, _, _, _⟩) (v := ?_) rfl (by kernel_rfl) (by kernel_rfl) (by kernel_rfl) (fun _ _ _ h => h) (Or.inl ⟨by rfl, ?hy73⟩) hHeld ?rest73
  case hy73 => (intro W hSw; (try dsimp only at hSw); go_simp; (try with_reducible rfl))
  simp only [Act.put, List.setIfInBounds_toArray, List.set_cons_zero, List.set_cons_succ]
  refine wpAnyH_take (i := 32) (oi := ⟨some 84, _, _, _, _, _⟩) (v := ?_) rfl (by kernel_rfl) (by kernel_rfl) (by kernel_rfl) (fun _ _ _ h => h) (Or.inl ⟨by rfl, ?hy74⟩) hHeld ?rest74
  case hy74 => (intro W hSw; (try dsimp only at hSw); go_simp; (try with_reducible rfl))
  simp only [Act.put, List.setIfInBounds_toArray, List.set_cons_zero, List.set_cons_succ]
  refine wpAnyH_take (i := 33) (oi := ⟨some 85, _, _, _, _, _⟩) (v := ?_) rfl (by kernel_rfl) (by kernel_rfl) (by kernel_rfl) (fun _ _ _ h => h) (Or.inl ⟨by rfl, ?hy75⟩) hHeld ?rest75
  case hy75 => (intro W hSw; (try dsimp only at hSw); go_simp; (try with_reducible rfl))
  simp only [Act.put, List.setIfInBounds_toArray, List.set_cons_zero, List.set_cons_succ]
  refine wpAnyH_take (i := 34) (oi := ⟨some 86, _, _, _, _, _⟩) (v := ?_) rfl (by kernel_rfl) (by kernel_rfl) (by kernel_rfl) (fun _ _ _ h => h) (Or.inl ⟨by rfl, ?hy76⟩) hHeld ?rest76
  case hy76 => (intro W hSw; (try dsimp only at hSw); go_simp; (try with_reducible rfl))
  simp only [Act.put, List.setIfInBounds_toArray, List.set_cons_zero, List.set_cons_succ]
  refine wpAnyH_take (i := 35) (oi := ⟨some 87, _, _, _, _, _⟩) (v := ?_) rfl (by kernel_rfl) (by kernel_rfl) (by kernel_rfl) (fun _ _ _ h => h) (Or.inl ⟨by rfl, ?hy77⟩) hHeld ?rest77
  case hy77 => (intro W hSw; (try dsimp only at hSw); go_simp; (try with_reducible rfl))
  simp only [Act.put, List.setIfInBounds_toArray, List.set_cons_zero, List.set_cons_succ]
  refine wpAnyH_take (i := 36) (oi := ⟨some 88, _, _, _, _, _⟩) (v := ?_) rfl (by kernel_rfl) (by kernel_rfl) (by kernel_rfl) (fun _ _ _ h => h) (Or.inl ⟨by rfl, ?hy78⟩) hHeld ?rest78
  case hy78 => (intro W hSw; (try dsimp only at hSw); go_simp; (try with_reducible rfl))
  simp only [Act.put, List.setIfInBounds_toArray, List.set_cons_zero, List.set_cons_succ]
  refine wpAnyH_take (i := 37) (oi := ⟨some 89, _, _, _, _, _⟩) (v := undef) rfl (by kernel_rfl) (by kernel_rfl) (by kernel_rfl) (fun _ _ _ h => h) (Or.inr ⟨by rfl, rfl⟩) hHeld ?rest79
  simp only [Act.put, List.setIfInBounds_toArray, List.set_cons_zero, List.set_cons_succ]
  refine wpAnyH_take (i := 38) (oi := ⟨some 90, _, _, _, _, _⟩) (v := undef) rfl (by kernel_rfl) (by kernel_rfl) (by kernel_rfl) (fun _ _ _ h => h) (Or.inr ⟨by rfl, rfl⟩) hHeld ?rest80
  simp only [Act.put, List.setIfInBounds_toArray, List.set_cons_zero, List.set_cons_succ]
  refine wpAnyH_take (i := 39) (oi := ⟨some 91, _, _, _, _, _⟩) (v := ?_) rfl (by kernel_rfl) (by kernel_rfl) (by kernel_rfl) (fun _ _ _ h => h) (Or.inl ⟨by rfl, ?hy81⟩) hHeld ?rest81
  case hy81 => (intro W hSw; (try dsimp only at hSw); go_simp; (try with_reducible rfl))
  simp only [Act.put, List.setIfInBounds_toArray, List.set_cons_zero, List.set_cons_succ]
  refine wpAnyH_take (i := 40) (oi := ⟨some 92, _, _, _, _, _⟩) (v := ?_) rfl (by kernel_rfl) (by kernel_rfl) (by kernel_rfl) (fun _ _ _ h => h) (Or.inl ⟨by rfl, ?hy82⟩) hHeld ?rest82
  case hy82 => (intro W hSw; (try dsimp only at hSw); go_simp; (try with_reducible rfl))
  simp only [Act.put, List.setIfInBounds_toArray, List.set_cons_zero, List.set_cons_succ]
  refine wpAnyH_done (by kernel_rfl) ?_ _
  clear hHeld
  have hB := below_two hst.bel hS5
  clear hst
  cases hnb : newB (i : Int) (j : Int) with
  | false =>
    have hcases : (i : Int) < 0 ∨ (0 ≤ (i : Int) ∧ (j : Int) < 0) ∨ (0 ≤ (i : Int) ∧ 0 ≤ (j : Int) ∧ 4096 < (i : Int)) ∨ (0 ≤ (i : Int) ∧ 0 ≤ (j : Int) ∧ (i : Int) ≤ 4096 ∧ 4096 < (j : Int)) ∨ (0 ≤ (i : Int) ∧ 0 ≤ (j : Int) ∧ (i : Int) ≤ 4096 ∧ (j : Int) ≤ 4096 ∧ 1048576 < (i : Int) * (j : Int) ∧ (i : Int) * (j : Int) ≤ 16777216) := by
      have h := hnb
      unfold newB sideB at h
      simp only [Bool.and_eq_false_iff, decide_eq_false_iff_not] at h
      by_cases q1 : 0 ≤ (i : Int) <;> by_cases q2 : 0 ≤ (j : Int) <;> by_cases q3 : (i : Int) ≤ 4096 <;> by_cases q4 : (j : Int) ≤ 4096 <;> first | omega | (have p1 : (i : Int) * (j : Int) ≤ 4096 * 4096 := Int.mul_le_mul q3 q4 q2 (by omega); omega)
    have HNB := Lib.hid hnb
    clear hnb
    rcases hcases with q1 | ⟨q1, q2⟩ | ⟨q1, q2, q3⟩ | ⟨q1, q2, q3, q4⟩ | ⟨q1, q2, q3, q4, q5, q6⟩
    all_goals first
      | (exfalso; omega)
      | (go_wp2_with fail
         refine (new_no (i : Int) (j : Int) HNB.out n1 n2 _).mono ?_
         rintro e wn ⟨rfl, hb⟩
         have hB2 := below_alloc (below_two hB hb) (.cells #[.int .i64 0, .int .i64 0, .slice none 0 0] 24)
         clear hb
         go_wp2
         all_goals
           go_ret
           exact ⟨rfl, hB2⟩)
  | true =>
    obtain ⟨R9, C9, z1, z2, hR9, hC9, hl9⟩ := newB_yes hnb
    obtain rfl : R9 = i := by omega
    obtain rfl : C9 = j := by omega
    clear z1 z2
    clear hnb
    have p0 : (0 : Int) ≤ (R9 : Int) * C9 := Int.mul_nonneg (by omega) (by omega)
    have p1 : (R9 : Int) * C9 ≤ 1048576 := by rw [← Int.natCast_mul]; omega
    first
      | (exfalso; omega)
      | (go_wp2_with fail
         refine (new_yes R9 C9 hR9 hC9 hl9 _).mono ?_
         rintro e wn ⟨gn, rfl, _, _, hb⟩
         obtain ⟨m9, hm9⟩ : ∃ m9, m9 = R9 * C9 := ⟨_, rfl⟩
         rw [← hm9]
         have e9 : (R9 : Int) * (C9 : Int) = (m9 : Int) := by rw [hm9]; push_cast; rfl
         have hB2 := below_alloc (below_two hB hb) (.cells #[.int .i64 R9, .int .i64 C9, .slice (some ⟨gn, 0, none⟩) m9 m9] 24)
         clear hb hm9
         go_wp2
         all_goals
           go_ret
           exact ⟨rfl, hB2⟩)

end Go.Proofs.Ytocjcfblpifdhaa
