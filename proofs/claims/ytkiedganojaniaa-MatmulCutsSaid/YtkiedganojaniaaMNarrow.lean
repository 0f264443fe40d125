/-
  Contracts of layer 4's Narrow and Spans: answers in new memory, or refusals.
-/
import Derived.Test.YtkiedganojaniaaMWide
namespace Go.Proofs.Ytkiedganojaniaa
open Go.RowKit
set_option linter.unusedVariables false

set_option maxHeartbeats 800000 in
theorem narrow_no (g : Gr) (by_ n : Int) (h : fitB g.r g.c g.n = false) (w : World) (hg : g.In w) :
    Calls Try.prog 23 #[.agg #[.int .i64 g.r, .int .i64 g.c, .slice g.a g.n g.cap], .int .i32 by_, .int .i64 n] w fun e w' => NoMat 30 e ∧ Below w.heap.size w w' := by
  have a2 := fun o o2 => ((Below.refl w.heap.size w).alloc (Nat.le_refl _) o).alloc (by simp) o2
  have a3 := fun o o2 o3 => (a2 o o2).alloc (by simp; omega) o3
  have hG := fun o o2 T => grids_one (T := T) (b := w.heap.size + 1 + 1) g (hg.below (a2 o o2)) (by simp)
  have X1 := fun o T o3 => (box3_at (w := w.alloc o) (b := w.heap.size + 1) (by simp) (.int .i64 0) (.int .i64 0) (.slice none 0 0) T).alloc o3
  have X0 := fun o2 o3 => ((box3_at (w := w) rfl (.int .i64 g.r) (.int .i64 g.c) (.slice g.a g.n g.cap) 43).alloc o2).alloc o3
  have hn := hg.1.2.1
  clear hg
  cases hr : rightB g.r g.c g.n with
  | false =>
    clear h
    go_enter Try.func23, Try.ntmps23
    go_wp2_with fail
    refine (right_one g false hr _ _ _ (hG _ _ _)).mono ?_
    rintro e wb ⟨rfl, hb⟩
    have B1 := below_two (a3 _ _ _) hb
    obtain ⟨_, d0, d1, d2, _, _, _⟩ := (X1 _ _ _).below hb
    clear a2 a3 hG X1 X0 hb hr
    go_wp2
    exact bodyPost_ret (v := .tuple #[.agg #[.int .i64 0, .int .i64 0, .slice none 0 0], .int .i64 30]) (by simp [results, Try.results23, go_sem, d0, d1, d2]) rfl
      ⟨rfl, below_res B1 (by omega) _ _ _⟩
  | true =>
    have hbig : 1048576 < g.n := by
      unfold fitB at h
      rw [hr, Bool.true_and] at h
      have := of_decide_eq_false h
      omega
    clear h
    go_enter Try.func23, Try.ntmps23
    go_wp2_with fail
    refine (right_one g true hr _ _ _ (hG _ _ _)).mono ?_
    rintro e wb ⟨rfl, hb⟩
    have B1 := below_two (a3 _ _ _) hb
    obtain ⟨_, d0, d1, d2, _, _, _⟩ := (X1 _ _ _).below hb
    obtain ⟨_, c0, c1, c2, _, _, _⟩ := (X0 _ _).below hb
    clear a2 a3 hG X1 X0 hb hr
    go_wp2
    exact bodyPost_ret (v := .tuple #[.agg #[.int .i64 0, .int .i64 0, .slice none 0 0], .int .i64 30]) (by simp [results, Try.results23, go_sem, d0, d1, d2]) rfl
      ⟨rfl, below_res B1 (by omega) _ _ _⟩

set_option maxHeartbeats 1600000 in
theorem narrow_walk (R C : Nat) (a : Option Addr) (cap : Nat) (v : List Int) (by_ m : Int) (hb1 : -2147483648 ≤ by_) (hb2 : by_ ≤ 2147483647) (w : World) (hg : (⟨R, C, a, R * C, cap, v⟩ : Gr).In w) (hR : R ≤ 4096) (hC : C ≤ 4096) (hle : R * C ≤ 1048576) :
    Calls Try.prog 23 #[.agg #[.int .i64 R, .int .i64 C, .slice a (R * C : Nat) cap], .int .i32 by_, .int .i64 m] w fun e w' => NewMat w w' R C (v.map (qua · by_ m)) e ∧ Below w.heap.size w w' := by
  have hf := rightB_nat R C hR hC
  unfold NewMat
  obtain ⟨n, hn⟩ : ∃ n, n = R * C := ⟨_, rfl⟩
  rw [← hn] at hf hg hle ⊢
  have hE := hg.1
  simp only at hE
  have a2 := fun o o2 => ((Below.refl w.heap.size w).alloc (Nat.le_refl _) o).alloc (by simp) o2
  have a3 := fun o o2 o3 => (a2 o o2).alloc (by simp; omega) o3
  have hG := fun o o2 T => grids_one (T := T) (b := w.heap.size + 1 + 1) (⟨R, C, a, n, cap, v⟩ : Gr) (hg.below (a2 o o2)) (by simp)
  have X1 := fun o T o3 => (box3_at (w := w.alloc o) (b := w.heap.size + 1) (by simp) (.int .i64 0) (.int .i64 0) (.slice none 0 0) T).alloc o3
  have X0 := fun o2 o3 => ((box3_at (w := w) rfl (.int .i64 R) (.int .i64 C) (.slice a n cap) 43).alloc o2).alloc o3
  have HE := Lib.hid hE
  clear hg hE hn
  go_enter Try.func23, Try.ntmps23
  go_wp2_with fail
  refine (right_one _ true hf _ _ _ (hG _ _ _)).mono ?_
  rintro e wb ⟨rfl, hb⟩
  have B1 := below_two (a3 _ _ _) hb
  have Y1 := (X1 _ _ _).below hb
  have Y0 := (X0 _ _).below hb
  have hlow := Y1.1
  clear hf a2 a3 hG X1 X0 hb
  have Y0' := Y0
  obtain ⟨_, c0, c1, c2, _, _, _⟩ := Y0
  have hq := fun W (hW : Below wb.heap.size wb W) => quants_new by_ m a n cap v W (HE.out.below (below_two B1 hW)) (by omega) hb1 hb2
  have hS0 : Below wb.heap.size wb wb.drew := (Below.refl _ _).drew
  go_wp2_with fail
  go_region_law (first
    | (go_simp; go_at_call 37; (with_reducible refine (hq _ hS0).mono ?_); rintro e wc ⟨G, rfl, hG1, hE2, hc⟩
       obtain ⟨_, m0, m1, m2, _, _, _⟩ := Y0'.below (below_two hS0 hc)
       obtain ⟨_, n0, n1, n2, _, _, _⟩ := Y1.below (below_two hS0 hc)))
  all_goals
    have hsz : wb.heap.size ≤ G := by have := hc.size; simpa using hG1
    have B3 := below_two B1 (below_two hS0 hc)
    have HB := Lib.hid (below_res B3 (b := w.heap.size + 1) (by omega) (.int .i64 R) (.int .i64 C) (.slice (some ⟨G, 0, none⟩) n n))
    have HE3 := Lib.hid (hE2.other (grownBy_res wc (w.heap.size + 1) (.int .i64 R) (.int .i64 C) (.slice (some ⟨G, 0, none⟩) n n)) (by omega))
    clear hE2 hc B3 c0 c1 c2 m0 m1 m2 hq hS0 B1
    go_wp2
    exact bodyPost_ret (v := .tuple #[.agg #[.int .i64 R, .int .i64 C, .slice (some ⟨G, 0, none⟩) n n], .int .i64 0]) (by simp [results, Try.results23, go_sem, n0, n1, n2]) rfl
      ⟨⟨_, rfl, by omega, HE3.out⟩, HB.out⟩

theorem narrow_yes (g : Gr) (R C : Nat) (e1 : g.r = R) (e2 : g.c = C) (e3 : g.n = R * C) (hR : R ≤ 4096) (hC : C ≤ 4096) (hle : R * C ≤ 1048576) (by_ m : Int) (hb1 : -2147483648 ≤ by_) (hb2 : by_ ≤ 2147483647) (w : World) (hg : g.In w) :
    Calls Try.prog 23 #[.agg #[.int .i64 g.r, .int .i64 g.c, .slice g.a g.n g.cap], .int .i32 by_, .int .i64 m] w fun e w' => NewMat w w' R C (g.v.map (qua · by_ m)) e ∧ Below w.heap.size w w' := by
  obtain ⟨gr, gc, ga, gn, gcap, gv⟩ := g
  simp only at e1 e2 e3 ⊢
  subst e1 e2 e3
  exact narrow_walk R C ga gcap gv by_ m hb1 hb2 w hg hR hC hle

end Go.Proofs.Ytkiedganojaniaa
