/-
  Proved: for every matrix and every two places MatmulCuts returns true (rows and columns of a matrix, and its numbers as a grid, are the document's) and nothing that was in memory turns. Conditions: none.
-/
import Derived.Test.YtkiedganojaniaaRows
import Derived.WalkKit
import Derived.ProofKit
import Derived.OpenShut
import Derived.ShutString
import Derived.ChangeOld
import Derived.Below
import Derived.Test.YtkiedganojaniaaMatRow
import Derived.Test.YtkiedganojaniaaLaw4
import Derived.Test.YtkiedganojaniaaMNarrow
namespace Go.Proofs.Ytkiedganojaniaa.matmulCuts
open Go.ChangeShapes Go.WideShapes Go.ChangeAt Go.RowKit
open Go.ChangeMaps (open_string shut_string)
set_option linter.unusedVariables false

theorem own : ownKnob Try.prog.godebug = none := by kernel_rfl
theorem laidOut : laidOutB Try.prog = true := by kernel_rfl

set_option maxHeartbeats 16000000 in
set_option maxRecDepth 100000 in
theorem walk (g0 : Gr) (a1 : Int) (a2 : Int) (w : World) (h0 : g0.In8 w) (h1 : (Lit.int .i64 a1).wf = true) (h2 : (Lit.int .i64 a2).wf = true) :
    Calls Try.prog 4 #[.agg #[.int .i64 g0.r, .int .i64 g0.c, .slice g0.a g0.n g0.cap], .int .i64 a1, .int .i64 a2] w fun e w' => e = .returned (.bool true) ∧ Below w.heap.size w w' := by
  have hgn := h0.1.2.1
  have b1 := wf64 h1
  have b2 := wf64 h2
  have X0 := box3_at (w := w) rfl (.int .i64 g0.r) (.int .i64 g0.c) (.slice g0.a g0.n g0.cap) 24
  have B0 := fun o => (Below.refl w.heap.size w).alloc (Nat.le_refl _) o
  by_cases hsm : g0.n ≤ 600
  rotate_left
  · clear h0
    go_enter Try.func4, Try.ntmps4
    go_wp2_with fail
    refine (awake4 _).mono ?_
    rintro e wa ⟨rfl, hb⟩
    have B1 := below_two (B0 _) hb
    have X1 := X0.below hb
    have X1' := X1
    obtain ⟨_, c0, c1, c2, _, _, _⟩ := X1
    clear X0 B0 hb
    go_wp2_with fail
    refine (small4 _ _ _ _ _ hgn false (decide_eq_false (by omega)) _).mono ?_
    rintro e wb ⟨rfl, hb⟩
    have B2 := below_two B1 hb
    have X2 := X1'.below hb
    have X2' := X2
    obtain ⟨_, d0, d1, d2, _, _, _⟩ := X2
    clear c0 c1 c2 hb B1 X1'
    clear d0 d1 d2 X2'
    go_wp2_with fail
    refine (awake4 _).mono ?_
    rintro e wc ⟨rfl, hb⟩
    have B3 := below_two B2 hb
    go_wp2
    go_ret
    exact ⟨rfl, B3⟩
  cases hf : fitB g0.r g0.c g0.n with
  | false =>
    have HG := Lib.hid h0
    clear h0
    go_enter Try.func4, Try.ntmps4
    go_wp2_with fail
    refine (awake4 _).mono ?_
    rintro e wa ⟨rfl, hb⟩
    have B1 := below_two (B0 _) hb
    have X1 := X0.below hb
    have X1' := X1
    obtain ⟨_, c0, c1, c2, _, _, _⟩ := X1
    clear X0 B0 hb
    go_wp2_with fail
    refine (small4 _ _ _ _ _ hgn true (decide_eq_true hsm) _).mono ?_
    rintro e wb ⟨rfl, hb⟩
    have B2 := below_two B1 hb
    have X2 := X1'.below hb
    have X2' := X2
    obtain ⟨_, d0, d1, d2, _, _, _⟩ := X2
    clear c0 c1 c2 hb B1 X1'
    have G2 := HG.out.below B2
    go_wp2_with fail
    refine (mrows_shape g0 a1 a2 hf _ G2).mono ?_
    rintro e wc ⟨he, hb⟩
    unfold NoMat at he
    subst he
    have B3 := below_two B2 hb
    have X3 := X2'.below hb
    have al := fun o => (Below.refl wc.heap.size wc).alloc (Nat.le_refl _) o
    have B3' := fun o => below_two B3 (al o)
    have X3' := fun o => X3.below (al o)
    have A3 := fun T => box3_new wc (.int .i64 0) (.int .i64 0) (.slice none 0 0) T
    obtain ⟨_, c0, c1, c2, _, _, _⟩ := X3
    clear d0 d1 d2 hb B2 G2 X2' B3
    have G3 := fun o => HG.out.below (B3' o)
    go_wp2_with fail
    refine (mcols_shape g0 a1 a2 hf _ (G3 _)).mono ?_
    rintro e wd ⟨he, hb⟩
    unfold NoMat at he
    subst he
    have B4 := below_two (B3' _) hb
    have X4 := (X3' _).below hb
    have A4 := (A3 _).below hb
    have al4 := fun o => (Below.refl wd.heap.size wd).alloc (Nat.le_refl _) o
    have B4' := fun o => below_two B4 (al4 o)
    have X4' := fun o => X4.below (al4 o)
    have A4' := fun o => A4.below (al4 o)
    have C4 := fun T => box3_new wd (.int .i64 0) (.int .i64 0) (.slice none 0 0) T
    obtain ⟨_, d0, d1, d2, _, _, _⟩ := X4
    clear c0 c1 c2 hb X3' B3' A3 G3 al B4 A4
    have G4 := fun o => HG.out.below (B4' o)
    go_wp2_with fail
    refine (wide_no g0 hf _ (G4 _)).mono ?_
    rintro e we ⟨he, hb⟩
    unfold NoMat at he
    subst he
    have B5 := below_two (B4' _) hb
    have X5 := (X4' _).below hb
    have A5 := (A4' _).below hb
    have C5 := (C4 _).below hb
    have al5 := fun o => (Below.refl we.heap.size we).alloc (Nat.le_refl _) o
    have B5' := fun o => below_two B5 (al5 o)
    have X5' := fun o => X5.below (al5 o)
    have A5' := fun o => A5.below (al5 o)
    have C5' := fun o => C5.below (al5 o)
    have W5 := fun T => box3_new we (.int .i64 0) (.int .i64 0) (.slice none 0 0) T
    obtain ⟨_, c0, c1, c2, _, _, _⟩ := X5
    clear d0 d1 d2 hb X4' B4' A4' C4 G4 al4 B5 A5 C5
    go_wp2_with fail
    refine (doc_right _ _ _ _ _ _ hgn false hf).mono ?_
    rintro e wf ⟨rfl, hb⟩
    have B6 := below_two (B5' _) hb
    have X6 := (X5' _).below hb
    have A6 := (A5' _).below hb
    have C6 := (C5' _).below hb
    have W6 := (W5 _).below hb
    have A6' := A6
    have C6' := C6
    obtain ⟨_, a0, a1', a2', _, _, _⟩ := A6
    clear c0 c1 c2 hb X5' A5' C5' W5 B5' al5 hf
    go_wp2_with fail
    refine (msame_yes 0 0 none none 0 0 0 [] _ (Elems.nil_ _ _ _) (Elems.nil_ _ _ _)).mono ?_
    rintro e wg ⟨rfl, hb⟩
    have B7 := below_two B6 hb
    obtain ⟨_, k0, k1, k2, _, _, _⟩ := C6'.below hb
    clear hb B6 a0 a1' a2'
    go_wp2_with fail
    refine (msame_yes 0 0 none none 0 0 0 [] _ (Elems.nil_ _ _ _) (Elems.nil_ _ _ _)).mono ?_
    rintro e wh ⟨rfl, hb⟩
    have B8 := below_two B7 hb
    go_wp2
    go_ret
    exact ⟨rfl, B8⟩
  | true =>
    obtain ⟨R, C, e1, e2, hR, hC, e3, hle⟩ := fitB_yes hf
    obtain ⟨gr, gc, ga, gn, gcap, gv⟩ := g0
    simp only at e1 e2 e3 hsm hf hgn X0 ⊢
    subst e1 e2
    have HG := Lib.hid h0
    have HN := Lib.hid e3
    have hmr := fun (k : Nat) (hk : k ≤ R) => (show k * C ≤ 16777216 by have := Nat.mul_le_mul_right C hk; omega)
    have hmc := fun (k : Nat) (hk : k ≤ C) => (show R * k ≤ 16777216 by have := Nat.mul_le_mul_left R hk; omega)
    clear h0 e3
    have hcases : a1 < 0 ∨ (0 ≤ a1 ∧ a2 < a1) ∨ (0 ≤ a1 ∧ a1 ≤ a2 ∧ (R : Int) < a2 ∧ (C : Int) < a2) ∨ (0 ≤ a1 ∧ a1 ≤ a2 ∧ a2 ≤ (R : Int) ∧ (C : Int) < a2) ∨ (0 ≤ a1 ∧ a1 ≤ a2 ∧ (R : Int) < a2 ∧ a2 ≤ (C : Int)) ∨ (0 ≤ a1 ∧ a1 ≤ a2 ∧ a2 ≤ (R : Int) ∧ a2 ≤ (C : Int)) := by omega
    rcases hcases with o1 | ⟨o1, o2⟩ | ⟨o1, o2, o3, o4⟩ | ⟨o1, o2, o3, o4⟩ | ⟨o1, o2, o3, o4⟩ | ⟨o1, o2, o3, o4⟩
    · have hir : insB a1 a2 (R : Int) = false := by unfold insB; exact decide_eq_false (by omega)
      have hic : insB a1 a2 (C : Int) = false := by unfold insB; exact decide_eq_false (by omega)
      go_enter Try.func4, Try.ntmps4
      go_wp2_with fail
      refine (awake4 _).mono ?_
      rintro e wa ⟨rfl, hb⟩
      have B1 := below_two (B0 _) hb
      have X1 := X0.below hb
      have X1' := X1
      obtain ⟨_, c0, c1, c2, _, _, _⟩ := X1
      clear X0 B0 hb
      go_wp2_with fail
      refine (small4 _ _ _ _ _ hgn true (decide_eq_true hsm) _).mono ?_
      rintro e wb ⟨rfl, hb⟩
      have B2 := below_two B1 hb
      have X2 := X1'.below hb
      have X2' := X2
      obtain ⟨_, d0, d1, d2, _, _, _⟩ := X2
      clear c0 c1 c2 hb B1 X1'
      have G2 := HG.out.below B2
      go_wp2_with fail
      refine (mrows_arg ⟨R, C, ga, gn, gcap, gv⟩ a1 a2 hf hir _ G2).mono ?_
      rintro e wc ⟨he, hb⟩
      unfold NoMat at he
      subst he
      have B3 := below_two B2 hb
      have X3 := X2'.below hb
      have al := fun o => (Below.refl wc.heap.size wc).alloc (Nat.le_refl _) o
      have B3' := fun o => below_two B3 (al o)
      have X3' := fun o => X3.below (al o)
      have A3 := fun T => box3_new wc (.int .i64 0) (.int .i64 0) (.slice none 0 0) T
      obtain ⟨_, c0, c1, c2, _, _, _⟩ := X3
      clear d0 d1 d2 hb B2 G2 X2' B3
      have G3 := fun o => HG.out.below (B3' o)
      go_wp2_with fail
      refine (mcols_arg ⟨R, C, ga, gn, gcap, gv⟩ a1 a2 hf hic _ (G3 _)).mono ?_
      rintro e wd ⟨he, hb⟩
      unfold NoMat at he
      subst he
      have B4 := below_two (B3' _) hb
      have X4 := (X3' _).below hb
      have A4 := (A3 _).below hb
      have al4 := fun o => (Below.refl wd.heap.size wd).alloc (Nat.le_refl _) o
      have B4' := fun o => below_two B4 (al4 o)
      have X4' := fun o => X4.below (al4 o)
      have A4' := fun o => A4.below (al4 o)
      have C4 := fun T => box3_new wd (.int .i64 0) (.int .i64 0) (.slice none 0 0) T
      obtain ⟨_, d0, d1, d2, _, _, _⟩ := X4
      clear c0 c1 c2 hb X3' B3' A3 G3 al B4 A4
      have G4 := fun o => HG.out.below (B4' o)
      go_wp2_with fail
      refine (wide_yes ⟨R, C, ga, gn, gcap, gv⟩ R C rfl rfl HN.out hR hC hle _ (G4 _)).mono ?_
      rintro e we ⟨⟨g2, rfl, _, hEW⟩, hb⟩
      rw [← HN.out] at hEW ⊢
      have B5 := below_two (B4' _) hb
      have X5 := (X4' _).below hb
      have A5 := (A4' _).below hb
      have C5 := (C4 _).below hb
      have al5 := fun o => (Below.refl we.heap.size we).alloc (Nat.le_refl _) o
      have B5' := fun o => below_two B5 (al5 o)
      have X5' := fun o => X5.below (al5 o)
      have A5' := fun o => A5.below (al5 o)
      have C5' := fun o => C5.below (al5 o)
      have W5 := fun T => box3_new we (.int .i64 R) (.int .i64 C) (.slice (some ⟨g2, 0, none⟩) gn gn) T
      have EW5 := fun o => hEW.below (al5 o)
      clear hEW
      obtain ⟨_, c0, c1, c2, _, _, _⟩ := X5
      clear d0 d1 d2 hb X4' B4' A4' C4 G4 al4 B5 A5 C5
      go_wp2_with fail
      refine (doc_right _ _ _ _ _ _ hgn true hf).mono ?_
      rintro e wf ⟨rfl, hb⟩
      have B6 := below_two (B5' _) hb
      have X6 := (X5' _).below hb
      have A6 := (A5' _).below hb
      have C6 := (C5' _).below hb
      have W6 := (W5 _).below hb
      have EW6 := (EW5 _).below hb
      have X6' := X6
      have A6' := A6
      have C6' := C6
      have W6' := W6
      obtain ⟨_, d0, d1, d2, _, _, _⟩ := X6
      obtain ⟨_, w0, w1, w2, _, _, _⟩ := W6
      clear c0 c1 c2 hb X5' A5' C5' W5 B5' al5 hf EW5 A6 C6
      go_wp2_with fail
      clear d0 d1 d2 w0 w1 w2
      go_loopw [13] (fun i wr => ∃ k : Nat, k ≤ gn ∧ i = .int .i64 k ∧ Below wf.heap.size wf wr) (fun i _ => gn - (intOf i).toNat)
      case atStart => exact ⟨0, by omega, rfl, Below.refl _ _⟩
      case round =>
        obtain ⟨k, hk, rfl, hbr⟩ := hrel
        have B7 := below_two B6 hbr
        have X7 := X6'.below hbr
        have X7' := X7
        obtain ⟨_, d0, d1, d2, _, _, _⟩ := X7
        obtain ⟨_, w0, w1, w2, _, _, _⟩ := W6'.below hbr
        by_cases hlt : k < gn
        · have hgd := HG.out.1.below B7
          simp only at hgd
          obtain ⟨b, off, x, rfl, hcx, hx, wx⟩ := hgd.at_ hlt
          obtain ⟨b', off', y, he, hcy, hy, wy⟩ := (EW6.below hbr).at_ hlt
          cases he
          rw [Nat.zero_add] at hcy
          obtain rfl : x = y := by rw [← hx.out, ← hy.out]
          have bx := wf8 wx
          have e1 : IntKind.i32.wrap x = x := IntWalk.i32_in _ (by omega)
          have f0 : (0 : Int) ≤ (k : Int) := by omega
          have f1 : (k : Int) < (gn : Int) := by omega
          clear hx hy wx wy hgd
          go_wp2_with fail
          go_quiet (fail)
          go_wp2
          go_roundw
          case rel => exact ⟨k + 1, by omega, by go_num, below_drewN hbr _⟩
          case measure => simp [intOf]; omega
        · obtain rfl : k = gn := by omega
          have A7 := A6'.below hbr
          have C7 := C6'.below hbr
          have A7' := A7
          have C7' := C7
          obtain ⟨_, a0, a1', a2', _, _, _⟩ := A7
          clear hbr X6' A6' C6' W6' B6 EW6
          go_wp2_with fail
          refine (msame_yes 0 0 none none 0 0 0 [] _ (Elems.nil_ _ _ _) (Elems.nil_ _ _ _)).mono ?_
          rintro e wt ⟨rfl, hb⟩
          have B8 := below_two B7 hb
          have X8 := X7'.below hb
          have C8 := C7'.below hb
          clear hb
          have X8' := X8
          have C8' := C8
          obtain ⟨_, l0, l1, l2, _, _, _⟩ := X8
          obtain ⟨_, c0, c1, c2, _, _, _⟩ := C8
          clear d0 d1 d2 a0 a1' a2' X7' A7' C7' B7
          go_wp2_with fail
          refine (msame_yes 0 0 none none 0 0 0 [] _ (Elems.nil_ _ _ _) (Elems.nil_ _ _ _)).mono ?_
          rintro e wu ⟨rfl, hb⟩
          have B9 := below_two B8 hb
          go_wp2
          go_ret
          exact ⟨rfl, B9⟩
    · have hir : insB a1 a2 (R : Int) = false := by unfold insB; exact decide_eq_false (by omega)
      have hic : insB a1 a2 (C : Int) = false := by unfold insB; exact decide_eq_false (by omega)
      go_enter Try.func4, Try.ntmps4
      go_wp2_with fail
      refine (awake4 _).mono ?_
      rintro e wa ⟨rfl, hb⟩
      have B1 := below_two (B0 _) hb
      have X1 := X0.below hb
      have X1' := X1
      obtain ⟨_, c0, c1, c2, _, _, _⟩ := X1
      clear X0 B0 hb
      go_wp2_with fail
      refine (small4 _ _ _ _ _ hgn true (decide_eq_true hsm) _).mono ?_
      rintro e wb ⟨rfl, hb⟩
      have B2 := below_two B1 hb
      have X2 := X1'.below hb
      have X2' := X2
      obtain ⟨_, d0, d1, d2, _, _, _⟩ := X2
      clear c0 c1 c2 hb B1 X1'
      have G2 := HG.out.below B2
      go_wp2_with fail
      refine (mrows_arg ⟨R, C, ga, gn, gcap, gv⟩ a1 a2 hf hir _ G2).mono ?_
      rintro e wc ⟨he, hb⟩
      unfold NoMat at he
      subst he
      have B3 := below_two B2 hb
      have X3 := X2'.below hb
      have al := fun o => (Below.refl wc.heap.size wc).alloc (Nat.le_refl _) o
      have B3' := fun o => below_two B3 (al o)
      have X3' := fun o => X3.below (al o)
      have A3 := fun T => box3_new wc (.int .i64 0) (.int .i64 0) (.slice none 0 0) T
      obtain ⟨_, c0, c1, c2, _, _, _⟩ := X3
      clear d0 d1 d2 hb B2 G2 X2' B3
      have G3 := fun o => HG.out.below (B3' o)
      go_wp2_with fail
      refine (mcols_arg ⟨R, C, ga, gn, gcap, gv⟩ a1 a2 hf hic _ (G3 _)).mono ?_
      rintro e wd ⟨he, hb⟩
      unfold NoMat at he
      subst he
      have B4 := below_two (B3' _) hb
      have X4 := (X3' _).below hb
      have A4 := (A3 _).below hb
      have al4 := fun o => (Below.refl wd.heap.size wd).alloc (Nat.le_refl _) o
      have B4' := fun o => below_two B4 (al4 o)
      have X4' := fun o => X4.below (al4 o)
      have A4' := fun o => A4.below (al4 o)
      have C4 := fun T => box3_new wd (.int .i64 0) (.int .i64 0) (.slice none 0 0) T
      obtain ⟨_, d0, d1, d2, _, _, _⟩ := X4
      clear c0 c1 c2 hb X3' B3' A3 G3 al B4 A4
      have G4 := fun o => HG.out.below (B4' o)
      go_wp2_with fail
      refine (wide_yes ⟨R, C, ga, gn, gcap, gv⟩ R C rfl rfl HN.out hR hC hle _ (G4 _)).mono ?_
      rintro e we ⟨⟨g2, rfl, _, hEW⟩, hb⟩
      rw [← HN.out] at hEW ⊢
      have B5 := below_two (B4' _) hb
      have X5 := (X4' _).below hb
      have A5 := (A4' _).below hb
      have C5 := (C4 _).below hb
      have al5 := fun o => (Below.refl we.heap.size we).alloc (Nat.le_refl _) o
      have B5' := fun o => below_two B5 (al5 o)
      have X5' := fun o => X5.below (al5 o)
      have A5' := fun o => A5.below (al5 o)
      have C5' := fun o => C5.below (al5 o)
      have W5 := fun T => box3_new we (.int .i64 R) (.int .i64 C) (.slice (some ⟨g2, 0, none⟩) gn gn) T
      have EW5 := fun o => hEW.below (al5 o)
      clear hEW
      obtain ⟨_, c0, c1, c2, _, _, _⟩ := X5
      clear d0 d1 d2 hb X4' B4' A4' C4 G4 al4 B5 A5 C5
      go_wp2_with fail
      refine (doc_right _ _ _ _ _ _ hgn true hf).mono ?_
      rintro e wf ⟨rfl, hb⟩
      have B6 := below_two (B5' _) hb
      have X6 := (X5' _).below hb
      have A6 := (A5' _).below hb
      have C6 := (C5' _).below hb
      have W6 := (W5 _).below hb
      have EW6 := (EW5 _).below hb
      have X6' := X6
      have A6' := A6
      have C6' := C6
      have W6' := W6
      obtain ⟨_, d0, d1, d2, _, _, _⟩ := X6
      obtain ⟨_, w0, w1, w2, _, _, _⟩ := W6
      clear c0 c1 c2 hb X5' A5' C5' W5 B5' al5 hf EW5 A6 C6
      go_wp2_with fail
      clear d0 d1 d2 w0 w1 w2
      go_loopw [13] (fun i wr => ∃ k : Nat, k ≤ gn ∧ i = .int .i64 k ∧ Below wf.heap.size wf wr) (fun i _ => gn - (intOf i).toNat)
      case atStart => exact ⟨0, by omega, rfl, Below.refl _ _⟩
      case round =>
        obtain ⟨k, hk, rfl, hbr⟩ := hrel
        have B7 := below_two B6 hbr
        have X7 := X6'.below hbr
        have X7' := X7
        obtain ⟨_, d0, d1, d2, _, _, _⟩ := X7
        obtain ⟨_, w0, w1, w2, _, _, _⟩ := W6'.below hbr
        by_cases hlt : k < gn
        · have hgd := HG.out.1.below B7
          simp only at hgd
          obtain ⟨b, off, x, rfl, hcx, hx, wx⟩ := hgd.at_ hlt
          obtain ⟨b', off', y, he, hcy, hy, wy⟩ := (EW6.below hbr).at_ hlt
          cases he
          rw [Nat.zero_add] at hcy
          obtain rfl : x = y := by rw [← hx.out, ← hy.out]
          have bx := wf8 wx
          have e1 : IntKind.i32.wrap x = x := IntWalk.i32_in _ (by omega)
          have f0 : (0 : Int) ≤ (k : Int) := by omega
          have f1 : (k : Int) < (gn : Int) := by omega
          clear hx hy wx wy hgd
          go_wp2_with fail
          go_quiet (fail)
          go_wp2
          go_roundw
          case rel => exact ⟨k + 1, by omega, by go_num, below_drewN hbr _⟩
          case measure => simp [intOf]; omega
        · obtain rfl : k = gn := by omega
          have A7 := A6'.below hbr
          have C7 := C6'.below hbr
          have A7' := A7
          have C7' := C7
          obtain ⟨_, a0, a1', a2', _, _, _⟩ := A7
          clear hbr X6' A6' C6' W6' B6 EW6
          go_wp2_with fail
          refine (msame_yes 0 0 none none 0 0 0 [] _ (Elems.nil_ _ _ _) (Elems.nil_ _ _ _)).mono ?_
          rintro e wt ⟨rfl, hb⟩
          have B8 := below_two B7 hb
          have X8 := X7'.below hb
          have C8 := C7'.below hb
          clear hb
          have X8' := X8
          have C8' := C8
          obtain ⟨_, l0, l1, l2, _, _, _⟩ := X8
          obtain ⟨_, c0, c1, c2, _, _, _⟩ := C8
          clear d0 d1 d2 a0 a1' a2' X7' A7' C7' B7
          go_wp2_with fail
          refine (msame_yes 0 0 none none 0 0 0 [] _ (Elems.nil_ _ _ _) (Elems.nil_ _ _ _)).mono ?_
          rintro e wu ⟨rfl, hb⟩
          have B9 := below_two B8 hb
          go_wp2
          go_ret
          exact ⟨rfl, B9⟩
    · obtain ⟨fr, rfl⟩ : ∃ fr : Nat, a1 = fr := ⟨a1.toNat, by omega⟩
      obtain ⟨to, rfl⟩ : ∃ to : Nat, a2 = to := ⟨a2.toNat, by omega⟩
      obtain ⟨m, hm⟩ : ∃ m, m = to - fr := ⟨_, rfl⟩
      have HM := Lib.hid hm
      clear hm
      have hir : insB (fr : Int) (to : Int) (R : Int) = false := by unfold insB; exact decide_eq_false (by omega)
      have hic : insB (fr : Int) (to : Int) (C : Int) = false := by unfold insB; exact decide_eq_false (by omega)
      go_enter Try.func4, Try.ntmps4
      go_wp2_with fail
      refine (awake4 _).mono ?_
      rintro e wa ⟨rfl, hb⟩
      have B1 := below_two (B0 _) hb
      have X1 := X0.below hb
      have X1' := X1
      obtain ⟨_, c0, c1, c2, _, _, _⟩ := X1
      clear X0 B0 hb
      go_wp2_with fail
      refine (small4 _ _ _ _ _ hgn true (decide_eq_true hsm) _).mono ?_
      rintro e wb ⟨rfl, hb⟩
      have B2 := below_two B1 hb
      have X2 := X1'.below hb
      have X2' := X2
      obtain ⟨_, d0, d1, d2, _, _, _⟩ := X2
      clear c0 c1 c2 hb B1 X1'
      have G2 := HG.out.below B2
      go_wp2_with fail
      refine (mrows_arg ⟨R, C, ga, gn, gcap, gv⟩ (fr : Int) (to : Int) hf hir _ G2).mono ?_
      rintro e wc ⟨he, hb⟩
      unfold NoMat at he
      subst he
      have B3 := below_two B2 hb
      have X3 := X2'.below hb
      have al := fun o => (Below.refl wc.heap.size wc).alloc (Nat.le_refl _) o
      have B3' := fun o => below_two B3 (al o)
      have X3' := fun o => X3.below (al o)
      have A3 := fun T => box3_new wc (.int .i64 0) (.int .i64 0) (.slice none 0 0) T
      obtain ⟨_, c0, c1, c2, _, _, _⟩ := X3
      clear d0 d1 d2 hb B2 G2 X2' B3
      have G3 := fun o => HG.out.below (B3' o)
      go_wp2_with fail
      refine (mcols_arg ⟨R, C, ga, gn, gcap, gv⟩ (fr : Int) (to : Int) hf hic _ (G3 _)).mono ?_
      rintro e wd ⟨he, hb⟩
      unfold NoMat at he
      subst he
      have B4 := below_two (B3' _) hb
      have X4 := (X3' _).below hb
      have A4 := (A3 _).below hb
      have al4 := fun o => (Below.refl wd.heap.size wd).alloc (Nat.le_refl _) o
      have B4' := fun o => below_two B4 (al4 o)
      have X4' := fun o => X4.below (al4 o)
      have A4' := fun o => A4.below (al4 o)
      have C4 := fun T => box3_new wd (.int .i64 0) (.int .i64 0) (.slice none 0 0) T
      obtain ⟨_, d0, d1, d2, _, _, _⟩ := X4
      clear c0 c1 c2 hb X3' B3' A3 G3 al B4 A4
      have G4 := fun o => HG.out.below (B4' o)
      go_wp2_with fail
      refine (wide_yes ⟨R, C, ga, gn, gcap, gv⟩ R C rfl rfl HN.out hR hC hle _ (G4 _)).mono ?_
      rintro e we ⟨⟨g2, rfl, _, hEW⟩, hb⟩
      rw [← HN.out] at hEW ⊢
      have B5 := below_two (B4' _) hb
      have X5 := (X4' _).below hb
      have A5 := (A4' _).below hb
      have C5 := (C4 _).below hb
      have al5 := fun o => (Below.refl we.heap.size we).alloc (Nat.le_refl _) o
      have B5' := fun o => below_two B5 (al5 o)
      have X5' := fun o => X5.below (al5 o)
      have A5' := fun o => A5.below (al5 o)
      have C5' := fun o => C5.below (al5 o)
      have W5 := fun T => box3_new we (.int .i64 R) (.int .i64 C) (.slice (some ⟨g2, 0, none⟩) gn gn) T
      have EW5 := fun o => hEW.below (al5 o)
      clear hEW
      obtain ⟨_, c0, c1, c2, _, _, _⟩ := X5
      clear d0 d1 d2 hb X4' B4' A4' C4 G4 al4 B5 A5 C5
      go_wp2_with fail
      refine (doc_right _ _ _ _ _ _ hgn true hf).mono ?_
      rintro e wf ⟨rfl, hb⟩
      have B6 := below_two (B5' _) hb
      have X6 := (X5' _).below hb
      have A6 := (A5' _).below hb
      have C6 := (C5' _).below hb
      have W6 := (W5 _).below hb
      have EW6 := (EW5 _).below hb
      have X6' := X6
      have A6' := A6
      have C6' := C6
      have W6' := W6
      obtain ⟨_, d0, d1, d2, _, _, _⟩ := X6
      obtain ⟨_, w0, w1, w2, _, _, _⟩ := W6
      clear c0 c1 c2 hb X5' A5' C5' W5 B5' al5 hf EW5 A6 C6
      go_wp2_with fail
      clear d0 d1 d2 w0 w1 w2
      go_loopw [13] (fun i wr => ∃ k : Nat, k ≤ gn ∧ i = .int .i64 k ∧ Below wf.heap.size wf wr) (fun i _ => gn - (intOf i).toNat)
      case atStart => exact ⟨0, by omega, rfl, Below.refl _ _⟩
      case round =>
        obtain ⟨k, hk, rfl, hbr⟩ := hrel
        have B7 := below_two B6 hbr
        have X7 := X6'.below hbr
        have X7' := X7
        obtain ⟨_, d0, d1, d2, _, _, _⟩ := X7
        obtain ⟨_, w0, w1, w2, _, _, _⟩ := W6'.below hbr
        by_cases hlt : k < gn
        · have hgd := HG.out.1.below B7
          simp only at hgd
          obtain ⟨b, off, x, rfl, hcx, hx, wx⟩ := hgd.at_ hlt
          obtain ⟨b', off', y, he, hcy, hy, wy⟩ := (EW6.below hbr).at_ hlt
          cases he
          rw [Nat.zero_add] at hcy
          obtain rfl : x = y := by rw [← hx.out, ← hy.out]
          have bx := wf8 wx
          have e1 : IntKind.i32.wrap x = x := IntWalk.i32_in _ (by omega)
          have f0 : (0 : Int) ≤ (k : Int) := by omega
          have f1 : (k : Int) < (gn : Int) := by omega
          clear hx hy wx wy hgd
          go_wp2_with fail
          go_quiet (fail)
          go_wp2
          go_roundw
          case rel => exact ⟨k + 1, by omega, by go_num, below_drewN hbr _⟩
          case measure => simp [intOf]; omega
        · obtain rfl : k = gn := by omega
          have A7 := A6'.below hbr
          have C7 := C6'.below hbr
          have A7' := A7
          have C7' := C7
          obtain ⟨_, a0, a1', a2', _, _, _⟩ := A7
          clear hbr X6' A6' C6' W6' B6 EW6
          go_wp2_with fail
          refine (msame_yes 0 0 none none 0 0 0 [] _ (Elems.nil_ _ _ _) (Elems.nil_ _ _ _)).mono ?_
          rintro e wt ⟨rfl, hb⟩
          have B8 := below_two B7 hb
          have X8 := X7'.below hb
          have C8 := C7'.below hb
          clear hb
          have X8' := X8
          have C8' := C8
          obtain ⟨_, l0, l1, l2, _, _, _⟩ := X8
          obtain ⟨_, c0, c1, c2, _, _, _⟩ := C8
          clear d0 d1 d2 a0 a1' a2' X7' A7' C7' B7
          go_wp2_with fail
          refine (msame_yes 0 0 none none 0 0 0 [] _ (Elems.nil_ _ _ _) (Elems.nil_ _ _ _)).mono ?_
          rintro e wu ⟨rfl, hb⟩
          have B9 := below_two B8 hb
          go_wp2
          go_ret
          exact ⟨rfl, B9⟩
    · obtain ⟨fr, rfl⟩ : ∃ fr : Nat, a1 = fr := ⟨a1.toNat, by omega⟩
      obtain ⟨to, rfl⟩ : ∃ to : Nat, a2 = to := ⟨a2.toNat, by omega⟩
      obtain ⟨m, hm⟩ : ∃ m, m = to - fr := ⟨_, rfl⟩
      have HM := Lib.hid hm
      have hrow := fun W (hW : Gr.In8 W ⟨R, C, ga, gn, gcap, gv⟩) => mrows_yes ⟨R, C, ga, gn, gcap, gv⟩ R C fr to rfl rfl HN.out hR hC hle (by omega) (by omega) fr to rfl rfl W hW
      rw [← hm] at hrow
      obtain ⟨TA, hTA⟩ : ∃ TA, (tab m C fun i j => gv.getD ((fr + i) * C + j) 0) = TA := ⟨_, rfl⟩
      simp only at hrow
      rw [hTA] at hrow
      have hpr := fun W (hW : Below w.heap.size w W) => doc_part R C fr to 0 C ga gcap gv W (by have := HG.out.1.below hW; simp only at this; rw [← HN.out]; exact this) hR hC (by omega) (by omega) (by omega) (by omega)
      rw [← HN.out, ← hm] at hpr
      simp only [Nat.sub_zero, Nat.zero_add] at hpr
      rw [hTA] at hpr
      have hTAl : TA.length = m * C := by rw [← hTA]; exact tab_length _ _ _
      have hpr2 : ∀ W, Below w.heap.size w W → Calls Try.prog 22 #[.agg #[.int .i64 R, .int .i64 C, .slice ga gn gcap], .int .i64 fr, .int .i64 to, .int .i64 0, .int .i64 C] W (fun e w' => (∃ pa pcap, e = .returned (.agg #[.int .i64 m, .int .i64 C, .slice pa (m * C) pcap]) ∧ Elems .i8 w' pa (m * C) TA) ∧ Below W.heap.size W w') := fun W hW => (hpr W hW).mono (fun e w' h => by obtain ⟨⟨v, rfl, pa, pcap, rfl, hEp, _, _⟩, hs⟩ := h; rw [hTAl] at hEp ⊢; exact ⟨⟨pa, pcap, rfl, hEp⟩, hs⟩)
      have HPR := Lib.hid hpr2
      clear hTA hpr hpr2 hTAl
      clear hm
      have hic : insB (fr : Int) (to : Int) (C : Int) = false := by unfold insB; exact decide_eq_false (by omega)
      go_enter Try.func4, Try.ntmps4
      go_wp2_with fail
      refine (awake4 _).mono ?_
      rintro e wa ⟨rfl, hb⟩
      have B1 := below_two (B0 _) hb
      have X1 := X0.below hb
      have X1' := X1
      obtain ⟨_, c0, c1, c2, _, _, _⟩ := X1
      clear X0 B0 hb
      go_wp2_with fail
      refine (small4 _ _ _ _ _ hgn true (decide_eq_true hsm) _).mono ?_
      rintro e wb ⟨rfl, hb⟩
      have B2 := below_two B1 hb
      have X2 := X1'.below hb
      have X2' := X2
      obtain ⟨_, d0, d1, d2, _, _, _⟩ := X2
      clear c0 c1 c2 hb B1 X1'
      have G2 := HG.out.below B2
      go_wp2_with fail
      refine (hrow _ G2).mono ?_
      rintro e wc ⟨⟨gA, rfl, _, hEA⟩, hb⟩
      have B3 := below_two B2 hb
      have X3 := X2'.below hb
      have al := fun o => (Below.refl wc.heap.size wc).alloc (Nat.le_refl _) o
      have B3' := fun o => below_two B3 (al o)
      have X3' := fun o => X3.below (al o)
      have A3 := fun T => box3_new wc (.int .i64 m) (.int .i64 C) (.slice (some ⟨gA, 0, none⟩) (m * C : Nat) (m * C : Nat)) T
      have EA3 := fun o => hEA.below (al o)
      clear hEA
      obtain ⟨_, c0, c1, c2, _, _, _⟩ := X3
      clear d0 d1 d2 hb B2 G2 X2' B3
      have G3 := fun o => HG.out.below (B3' o)
      go_wp2_with fail
      refine (mcols_arg ⟨R, C, ga, gn, gcap, gv⟩ (fr : Int) (to : Int) hf hic _ (G3 _)).mono ?_
      rintro e wd ⟨he, hb⟩
      unfold NoMat at he
      subst he
      have B4 := below_two (B3' _) hb
      have X4 := (X3' _).below hb
      have A4 := (A3 _).below hb
      have EA4 := (EA3 _).below hb
      clear EA3
      have al4 := fun o => (Below.refl wd.heap.size wd).alloc (Nat.le_refl _) o
      have B4' := fun o => below_two B4 (al4 o)
      have X4' := fun o => X4.below (al4 o)
      have A4' := fun o => A4.below (al4 o)
      have C4 := fun T => box3_new wd (.int .i64 0) (.int .i64 0) (.slice none 0 0) T
      have EA4' := fun o => EA4.below (al4 o)
      clear EA4
      obtain ⟨_, d0, d1, d2, _, _, _⟩ := X4
      clear c0 c1 c2 hb X3' B3' A3 G3 al B4 A4
      have G4 := fun o => HG.out.below (B4' o)
      go_wp2_with fail
      refine (wide_yes ⟨R, C, ga, gn, gcap, gv⟩ R C rfl rfl HN.out hR hC hle _ (G4 _)).mono ?_
      rintro e we ⟨⟨g2, rfl, _, hEW⟩, hb⟩
      rw [← HN.out] at hEW ⊢
      have B5 := below_two (B4' _) hb
      have X5 := (X4' _).below hb
      have A5 := (A4' _).below hb
      have C5 := (C4 _).below hb
      have EA5 := (EA4' _).below hb
      clear EA4'
      have al5 := fun o => (Below.refl we.heap.size we).alloc (Nat.le_refl _) o
      have B5' := fun o => below_two B5 (al5 o)
      have X5' := fun o => X5.below (al5 o)
      have A5' := fun o => A5.below (al5 o)
      have C5' := fun o => C5.below (al5 o)
      have W5 := fun T => box3_new we (.int .i64 R) (.int .i64 C) (.slice (some ⟨g2, 0, none⟩) gn gn) T
      have EA5' := fun o => EA5.below (al5 o)
      clear EA5
      have EW5 := fun o => hEW.below (al5 o)
      clear hEW
      obtain ⟨_, c0, c1, c2, _, _, _⟩ := X5
      clear d0 d1 d2 hb X4' B4' A4' C4 G4 al4 B5 A5 C5
      go_wp2_with fail
      refine (doc_right _ _ _ _ _ _ hgn true hf).mono ?_
      rintro e wf ⟨rfl, hb⟩
      have B6 := below_two (B5' _) hb
      have X6 := (X5' _).below hb
      have A6 := (A5' _).below hb
      have C6 := (C5' _).below hb
      have W6 := (W5 _).below hb
      have EA6 := (EA5' _).below hb
      clear EA5' hrow
      have EW6 := (EW5 _).below hb
      have X6' := X6
      have A6' := A6
      have C6' := C6
      have W6' := W6
      obtain ⟨_, d0, d1, d2, _, _, _⟩ := X6
      obtain ⟨_, w0, w1, w2, _, _, _⟩ := W6
      clear c0 c1 c2 hb X5' A5' C5' W5 B5' al5 hf EW5 A6 C6
      go_wp2_with fail
      clear d0 d1 d2 w0 w1 w2
      go_loopw [13] (fun i wr => ∃ k : Nat, k ≤ gn ∧ i = .int .i64 k ∧ Below wf.heap.size wf wr) (fun i _ => gn - (intOf i).toNat)
      case atStart => exact ⟨0, by omega, rfl, Below.refl _ _⟩
      case round =>
        obtain ⟨k, hk, rfl, hbr⟩ := hrel
        have B7 := below_two B6 hbr
        have X7 := X6'.below hbr
        have X7' := X7
        obtain ⟨_, d0, d1, d2, _, _, _⟩ := X7
        obtain ⟨_, w0, w1, w2, _, _, _⟩ := W6'.below hbr
        by_cases hlt : k < gn
        · have hgd := HG.out.1.below B7
          simp only at hgd
          obtain ⟨b, off, x, rfl, hcx, hx, wx⟩ := hgd.at_ hlt
          obtain ⟨b', off', y, he, hcy, hy, wy⟩ := (EW6.below hbr).at_ hlt
          cases he
          rw [Nat.zero_add] at hcy
          obtain rfl : x = y := by rw [← hx.out, ← hy.out]
          have bx := wf8 wx
          have e1 : IntKind.i32.wrap x = x := IntWalk.i32_in _ (by omega)
          have f0 : (0 : Int) ≤ (k : Int) := by omega
          have f1 : (k : Int) < (gn : Int) := by omega
          clear hx hy wx wy hgd
          go_wp2_with fail
          go_quiet (fail)
          go_wp2
          go_roundw
          case rel => exact ⟨k + 1, by omega, by go_num, below_drewN hbr _⟩
          case measure => simp [intOf]; omega
        · obtain rfl : k = gn := by omega
          have A7 := A6'.below hbr
          have C7 := C6'.below hbr
          have EA7 := EA6.below hbr
          have A7' := A7
          have C7' := C7
          obtain ⟨_, a0, a1', a2', _, _, _⟩ := A7
          clear hbr X6' A6' C6' W6' B6 EW6
          go_wp2_with fail
          have hS0 : Below wr.heap.size wr wr.drew := (Below.refl _ _).drew
          have hpr := HPR.out wr.drew (below_two B7 hS0)
          go_region_held3 (fun w' => w'.cell? ⟨w.heap.size, 0, none⟩ = some (.int .i64 R) ∧ w'.cell? ⟨w.heap.size, 1, none⟩ = some (.int .i64 C) ∧ w'.cell? ⟨w.heap.size, 2, none⟩ = some (.slice ga k gcap) ∧ w'.cell? ⟨wc.heap.size, 0, none⟩ = some (.int .i64 m) ∧ w'.cell? ⟨wc.heap.size, 1, none⟩ = some (.int .i64 C) ∧ w'.cell? ⟨wc.heap.size, 2, none⟩ = some (.slice (some ⟨gA, 0, none⟩) (m * C : Nat) (m * C : Nat)))
            (first | go_keep | (go_split_ands; refine ⟨?_, ?_, ?_, ?_, ?_, ?_⟩ <;> assumption))
            (first
              | (go_at_call 22; (with_reducible refine hpr.mono ?_); rintro e ws ⟨⟨pa, pcap, rfl, hEp⟩, hs1⟩
                 have hS1 := below_two hS0 hs1
                 have hsame := msame_yes (m : Int) (C : Int) (some ⟨gA, 0, none⟩) pa (m * C) (m * C) pcap TA ws (EA7.below hS1) hEp
                 obtain ⟨_, x0, x1, x2, _, _, _⟩ := X7'.below hS1
                 obtain ⟨_, x3, x4, x5, _, _, _⟩ := A7'.below hS1)
              | (go_at_call 15; (with_reducible refine hsame.mono ?_); rintro e wt ⟨rfl, hs2⟩
                 have hS2 := below_two hS1 hs2
                 obtain ⟨_, y0, y1, y2, _, _, _⟩ := X7'.below hS2
                 obtain ⟨_, y3, y4, y5, _, _, _⟩ := A7'.below hS2))
          have B8 := below_two B7 hS2
          have X8 := X7'.below hS2
          have C8 := C7'.below hS2
          clear hS0 hS1 hS2 hsame hpr
          have X8' := X8
          have C8' := C8
          obtain ⟨_, l0, l1, l2, _, _, _⟩ := X8
          obtain ⟨_, c0, c1, c2, _, _, _⟩ := C8
          clear d0 d1 d2 a0 a1' a2' X7' A7' C7' B7
          go_wp2_with fail
          refine (msame_yes 0 0 none none 0 0 0 [] _ (Elems.nil_ _ _ _) (Elems.nil_ _ _ _)).mono ?_
          rintro e wu ⟨rfl, hb⟩
          have B9 := below_two B8 hb
          go_wp2
          go_ret
          exact ⟨rfl, B9⟩
    · obtain ⟨fr, rfl⟩ : ∃ fr : Nat, a1 = fr := ⟨a1.toNat, by omega⟩
      obtain ⟨to, rfl⟩ : ∃ to : Nat, a2 = to := ⟨a2.toNat, by omega⟩
      obtain ⟨m, hm⟩ : ∃ m, m = to - fr := ⟨_, rfl⟩
      have HM := Lib.hid hm
      have hcol := fun W (hW : Gr.In8 W ⟨R, C, ga, gn, gcap, gv⟩) => mcols_yes ⟨R, C, ga, gn, gcap, gv⟩ R C fr to rfl rfl HN.out hR hC hle (by omega) (by omega) fr to rfl rfl W hW
      rw [← hm] at hcol
      obtain ⟨TB, hTB⟩ : ∃ TB, (tab R m fun i j => gv.getD (i * C + (fr + j)) 0) = TB := ⟨_, rfl⟩
      simp only at hcol
      rw [hTB] at hcol
      have hpc := fun W (hW : Below w.heap.size w W) => doc_part R C 0 R fr to ga gcap gv W (by have := HG.out.1.below hW; simp only at this; rw [← HN.out]; exact this) hR hC (by omega) (by omega) (by omega) (by omega)
      rw [← HN.out, ← hm] at hpc
      simp only [Nat.sub_zero, Nat.zero_add] at hpc
      rw [hTB] at hpc
      have hTBl : TB.length = R * m := by rw [← hTB]; exact tab_length _ _ _
      have hpc2 : ∀ W, Below w.heap.size w W → Calls Try.prog 22 #[.agg #[.int .i64 R, .int .i64 C, .slice ga gn gcap], .int .i64 0, .int .i64 R, .int .i64 fr, .int .i64 to] W (fun e w' => (∃ pa pcap, e = .returned (.agg #[.int .i64 R, .int .i64 m, .slice pa (R * m) pcap]) ∧ Elems .i8 w' pa (R * m) TB) ∧ Below W.heap.size W w') := fun W hW => (hpc W hW).mono (fun e w' h => by obtain ⟨⟨v, rfl, pa, pcap, rfl, hEp, _, _⟩, hs⟩ := h; rw [hTBl] at hEp ⊢; exact ⟨⟨pa, pcap, rfl, hEp⟩, hs⟩)
      have HPC := Lib.hid hpc2
      clear hTB hpc hpc2 hTBl
      clear hm
      have hir : insB (fr : Int) (to : Int) (R : Int) = false := by unfold insB; exact decide_eq_false (by omega)
      go_enter Try.func4, Try.ntmps4
      go_wp2_with fail
      refine (awake4 _).mono ?_
      rintro e wa ⟨rfl, hb⟩
      have B1 := below_two (B0 _) hb
      have X1 := X0.below hb
      have X1' := X1
      obtain ⟨_, c0, c1, c2, _, _, _⟩ := X1
      clear X0 B0 hb
      go_wp2_with fail
      refine (small4 _ _ _ _ _ hgn true (decide_eq_true hsm) _).mono ?_
      rintro e wb ⟨rfl, hb⟩
      have B2 := below_two B1 hb
      have X2 := X1'.below hb
      have X2' := X2
      obtain ⟨_, d0, d1, d2, _, _, _⟩ := X2
      clear c0 c1 c2 hb B1 X1'
      have G2 := HG.out.below B2
      go_wp2_with fail
      refine (mrows_arg ⟨R, C, ga, gn, gcap, gv⟩ (fr : Int) (to : Int) hf hir _ G2).mono ?_
      rintro e wc ⟨he, hb⟩
      unfold NoMat at he
      subst he
      have B3 := below_two B2 hb
      have X3 := X2'.below hb
      have al := fun o => (Below.refl wc.heap.size wc).alloc (Nat.le_refl _) o
      have B3' := fun o => below_two B3 (al o)
      have X3' := fun o => X3.below (al o)
      have A3 := fun T => box3_new wc (.int .i64 0) (.int .i64 0) (.slice none 0 0) T
      obtain ⟨_, c0, c1, c2, _, _, _⟩ := X3
      clear d0 d1 d2 hb B2 G2 X2' B3
      have G3 := fun o => HG.out.below (B3' o)
      go_wp2_with fail
      refine (hcol _ (G3 _)).mono ?_
      rintro e wd ⟨⟨gB, rfl, _, hEB⟩, hb⟩
      have B4 := below_two (B3' _) hb
      have X4 := (X3' _).below hb
      have A4 := (A3 _).below hb
      have al4 := fun o => (Below.refl wd.heap.size wd).alloc (Nat.le_refl _) o
      have B4' := fun o => below_two B4 (al4 o)
      have X4' := fun o => X4.below (al4 o)
      have A4' := fun o => A4.below (al4 o)
      have C4 := fun T => box3_new wd (.int .i64 R) (.int .i64 m) (.slice (some ⟨gB, 0, none⟩) (R * m : Nat) (R * m : Nat)) T
      have EB4 := fun o => hEB.below (al4 o)
      clear hEB
      obtain ⟨_, d0, d1, d2, _, _, _⟩ := X4
      clear c0 c1 c2 hb X3' B3' A3 G3 al B4 A4
      have G4 := fun o => HG.out.below (B4' o)
      go_wp2_with fail
      refine (wide_yes ⟨R, C, ga, gn, gcap, gv⟩ R C rfl rfl HN.out hR hC hle _ (G4 _)).mono ?_
      rintro e we ⟨⟨g2, rfl, _, hEW⟩, hb⟩
      rw [← HN.out] at hEW ⊢
      have B5 := below_two (B4' _) hb
      have X5 := (X4' _).below hb
      have A5 := (A4' _).below hb
      have C5 := (C4 _).below hb
      have EB5 := (EB4 _).below hb
      clear EB4
      have al5 := fun o => (Below.refl we.heap.size we).alloc (Nat.le_refl _) o
      have B5' := fun o => below_two B5 (al5 o)
      have X5' := fun o => X5.below (al5 o)
      have A5' := fun o => A5.below (al5 o)
      have C5' := fun o => C5.below (al5 o)
      have W5 := fun T => box3_new we (.int .i64 R) (.int .i64 C) (.slice (some ⟨g2, 0, none⟩) gn gn) T
      have EB5' := fun o => EB5.below (al5 o)
      clear EB5
      have EW5 := fun o => hEW.below (al5 o)
      clear hEW
      obtain ⟨_, c0, c1, c2, _, _, _⟩ := X5
      clear d0 d1 d2 hb X4' B4' A4' C4 G4 al4 B5 A5 C5
      go_wp2_with fail
      refine (doc_right _ _ _ _ _ _ hgn true hf).mono ?_
      rintro e wf ⟨rfl, hb⟩
      have B6 := below_two (B5' _) hb
      have X6 := (X5' _).below hb
      have A6 := (A5' _).below hb
      have C6 := (C5' _).below hb
      have W6 := (W5 _).below hb
      have EB6 := (EB5' _).below hb
      clear EB5' hcol
      have EW6 := (EW5 _).below hb
      have X6' := X6
      have A6' := A6
      have C6' := C6
      have W6' := W6
      obtain ⟨_, d0, d1, d2, _, _, _⟩ := X6
      obtain ⟨_, w0, w1, w2, _, _, _⟩ := W6
      clear c0 c1 c2 hb X5' A5' C5' W5 B5' al5 hf EW5 A6 C6
      go_wp2_with fail
      clear d0 d1 d2 w0 w1 w2
      go_loopw [13] (fun i wr => ∃ k : Nat, k ≤ gn ∧ i = .int .i64 k ∧ Below wf.heap.size wf wr) (fun i _ => gn - (intOf i).toNat)
      case atStart => exact ⟨0, by omega, rfl, Below.refl _ _⟩
      case round =>
        obtain ⟨k, hk, rfl, hbr⟩ := hrel
        have B7 := below_two B6 hbr
        have X7 := X6'.below hbr
        have X7' := X7
        obtain ⟨_, d0, d1, d2, _, _, _⟩ := X7
        obtain ⟨_, w0, w1, w2, _, _, _⟩ := W6'.below hbr
        by_cases hlt : k < gn
        · have hgd := HG.out.1.below B7
          simp only at hgd
          obtain ⟨b, off, x, rfl, hcx, hx, wx⟩ := hgd.at_ hlt
          obtain ⟨b', off', y, he, hcy, hy, wy⟩ := (EW6.below hbr).at_ hlt
          cases he
          rw [Nat.zero_add] at hcy
          obtain rfl : x = y := by rw [← hx.out, ← hy.out]
          have bx := wf8 wx
          have e1 : IntKind.i32.wrap x = x := IntWalk.i32_in _ (by omega)
          have f0 : (0 : Int) ≤ (k : Int) := by omega
          have f1 : (k : Int) < (gn : Int) := by omega
          clear hx hy wx wy hgd
          go_wp2_with fail
          go_quiet (fail)
          go_wp2
          go_roundw
          case rel => exact ⟨k + 1, by omega, by go_num, below_drewN hbr _⟩
          case measure => simp [intOf]; omega
        · obtain rfl : k = gn := by omega
          have A7 := A6'.below hbr
          have C7 := C6'.below hbr
          have EB7 := EB6.below hbr
          have A7' := A7
          have C7' := C7
          obtain ⟨_, a0, a1', a2', _, _, _⟩ := A7
          clear hbr X6' A6' C6' W6' B6 EW6
          go_wp2_with fail
          refine (msame_yes 0 0 none none 0 0 0 [] _ (Elems.nil_ _ _ _) (Elems.nil_ _ _ _)).mono ?_
          rintro e wt ⟨rfl, hb⟩
          have B8 := below_two B7 hb
          have X8 := X7'.below hb
          have C8 := C7'.below hb
          have EB8 := EB7.below hb
          clear hb
          have X8' := X8
          have C8' := C8
          obtain ⟨_, l0, l1, l2, _, _, _⟩ := X8
          obtain ⟨_, c0, c1, c2, _, _, _⟩ := C8
          clear d0 d1 d2 a0 a1' a2' X7' A7' C7' B7
          go_wp2_with fail
          have hS0 : Below wt.heap.size wt wt.drew := (Below.refl _ _).drew
          have hpc := HPC.out wt.drew (below_two B8 hS0)
          go_region_held3 (fun w' => w'.cell? ⟨w.heap.size, 0, none⟩ = some (.int .i64 R) ∧ w'.cell? ⟨w.heap.size, 1, none⟩ = some (.int .i64 C) ∧ w'.cell? ⟨w.heap.size, 2, none⟩ = some (.slice ga k gcap) ∧ w'.cell? ⟨wd.heap.size, 0, none⟩ = some (.int .i64 R) ∧ w'.cell? ⟨wd.heap.size, 1, none⟩ = some (.int .i64 m) ∧ w'.cell? ⟨wd.heap.size, 2, none⟩ = some (.slice (some ⟨gB, 0, none⟩) (R * m : Nat) (R * m : Nat)))
            (first | go_keep | (go_split_ands; refine ⟨?_, ?_, ?_, ?_, ?_, ?_⟩ <;> assumption))
            (first
              | (go_at_call 22; (with_reducible refine hpc.mono ?_); rintro e ws ⟨⟨pa, pcap, rfl, hEp⟩, hs1⟩
                 have hS1 := below_two hS0 hs1
                 have hsame := msame_yes (R : Int) (m : Int) (some ⟨gB, 0, none⟩) pa (R * m) (R * m) pcap TB ws (EB8.below hS1) hEp
                 obtain ⟨_, x0, x1, x2, _, _, _⟩ := X8'.below hS1
                 obtain ⟨_, x3, x4, x5, _, _, _⟩ := C8'.below hS1)
              | (go_at_call 15; (with_reducible refine hsame.mono ?_); rintro e wu ⟨rfl, hs2⟩
                 have hS2 := below_two hS1 hs2
                 obtain ⟨_, y0, y1, y2, _, _, _⟩ := X8'.below hS2
                 obtain ⟨_, y3, y4, y5, _, _, _⟩ := C8'.below hS2))
          have B9 := below_two B8 hS2
          clear hS0 hS1 hS2 hsame hpc
          go_wp2
          go_ret
          exact ⟨rfl, B9⟩
    · obtain ⟨fr, rfl⟩ : ∃ fr : Nat, a1 = fr := ⟨a1.toNat, by omega⟩
      obtain ⟨to, rfl⟩ : ∃ to : Nat, a2 = to := ⟨a2.toNat, by omega⟩
      obtain ⟨m, hm⟩ : ∃ m, m = to - fr := ⟨_, rfl⟩
      have HM := Lib.hid hm
      have hrow := fun W (hW : Gr.In8 W ⟨R, C, ga, gn, gcap, gv⟩) => mrows_yes ⟨R, C, ga, gn, gcap, gv⟩ R C fr to rfl rfl HN.out hR hC hle (by omega) (by omega) fr to rfl rfl W hW
      rw [← hm] at hrow
      obtain ⟨TA, hTA⟩ : ∃ TA, (tab m C fun i j => gv.getD ((fr + i) * C + j) 0) = TA := ⟨_, rfl⟩
      simp only at hrow
      rw [hTA] at hrow
      have hpr := fun W (hW : Below w.heap.size w W) => doc_part R C fr to 0 C ga gcap gv W (by have := HG.out.1.below hW; simp only at this; rw [← HN.out]; exact this) hR hC (by omega) (by omega) (by omega) (by omega)
      rw [← HN.out, ← hm] at hpr
      simp only [Nat.sub_zero, Nat.zero_add] at hpr
      rw [hTA] at hpr
      have hTAl : TA.length = m * C := by rw [← hTA]; exact tab_length _ _ _
      have hpr2 : ∀ W, Below w.heap.size w W → Calls Try.prog 22 #[.agg #[.int .i64 R, .int .i64 C, .slice ga gn gcap], .int .i64 fr, .int .i64 to, .int .i64 0, .int .i64 C] W (fun e w' => (∃ pa pcap, e = .returned (.agg #[.int .i64 m, .int .i64 C, .slice pa (m * C) pcap]) ∧ Elems .i8 w' pa (m * C) TA) ∧ Below W.heap.size W w') := fun W hW => (hpr W hW).mono (fun e w' h => by obtain ⟨⟨v, rfl, pa, pcap, rfl, hEp, _, _⟩, hs⟩ := h; rw [hTAl] at hEp ⊢; exact ⟨⟨pa, pcap, rfl, hEp⟩, hs⟩)
      have HPR := Lib.hid hpr2
      clear hTA hpr hpr2 hTAl
      have hcol := fun W (hW : Gr.In8 W ⟨R, C, ga, gn, gcap, gv⟩) => mcols_yes ⟨R, C, ga, gn, gcap, gv⟩ R C fr to rfl rfl HN.out hR hC hle (by omega) (by omega) fr to rfl rfl W hW
      rw [← hm] at hcol
      obtain ⟨TB, hTB⟩ : ∃ TB, (tab R m fun i j => gv.getD (i * C + (fr + j)) 0) = TB := ⟨_, rfl⟩
      simp only at hcol
      rw [hTB] at hcol
      have hpc := fun W (hW : Below w.heap.size w W) => doc_part R C 0 R fr to ga gcap gv W (by have := HG.out.1.below hW; simp only at this; rw [← HN.out]; exact this) hR hC (by omega) (by omega) (by omega) (by omega)
      rw [← HN.out, ← hm] at hpc
      simp only [Nat.sub_zero, Nat.zero_add] at hpc
      rw [hTB] at hpc
      have hTBl : TB.length = R * m := by rw [← hTB]; exact tab_length _ _ _
      have hpc2 : ∀ W, Below w.heap.size w W → Calls Try.prog 22 #[.agg #[.int .i64 R, .int .i64 C, .slice ga gn gcap], .int .i64 0, .int .i64 R, .int .i64 fr, .int .i64 to] W (fun e w' => (∃ pa pcap, e = .returned (.agg #[.int .i64 R, .int .i64 m, .slice pa (R * m) pcap]) ∧ Elems .i8 w' pa (R * m) TB) ∧ Below W.heap.size W w') := fun W hW => (hpc W hW).mono (fun e w' h => by obtain ⟨⟨v, rfl, pa, pcap, rfl, hEp, _, _⟩, hs⟩ := h; rw [hTBl] at hEp ⊢; exact ⟨⟨pa, pcap, rfl, hEp⟩, hs⟩)
      have HPC := Lib.hid hpc2
      clear hTB hpc hpc2 hTBl
      clear hm
      go_enter Try.func4, Try.ntmps4
      go_wp2_with fail
      refine (awake4 _).mono ?_
      rintro e wa ⟨rfl, hb⟩
      have B1 := below_two (B0 _) hb
      have X1 := X0.below hb
      have X1' := X1
      obtain ⟨_, c0, c1, c2, _, _, _⟩ := X1
      clear X0 B0 hb
      go_wp2_with fail
      refine (small4 _ _ _ _ _ hgn true (decide_eq_true hsm) _).mono ?_
      rintro e wb ⟨rfl, hb⟩
      have B2 := below_two B1 hb
      have X2 := X1'.below hb
      have X2' := X2
      obtain ⟨_, d0, d1, d2, _, _, _⟩ := X2
      clear c0 c1 c2 hb B1 X1'
      have G2 := HG.out.below B2
      go_wp2_with fail
      refine (hrow _ G2).mono ?_
      rintro e wc ⟨⟨gA, rfl, _, hEA⟩, hb⟩
      have B3 := below_two B2 hb
      have X3 := X2'.below hb
      have al := fun o => (Below.refl wc.heap.size wc).alloc (Nat.le_refl _) o
      have B3' := fun o => below_two B3 (al o)
      have X3' := fun o => X3.below (al o)
      have A3 := fun T => box3_new wc (.int .i64 m) (.int .i64 C) (.slice (some ⟨gA, 0, none⟩) (m * C : Nat) (m * C : Nat)) T
      have EA3 := fun o => hEA.below (al o)
      clear hEA
      obtain ⟨_, c0, c1, c2, _, _, _⟩ := X3
      clear d0 d1 d2 hb B2 G2 X2' B3
      have G3 := fun o => HG.out.below (B3' o)
      go_wp2_with fail
      refine (hcol _ (G3 _)).mono ?_
      rintro e wd ⟨⟨gB, rfl, _, hEB⟩, hb⟩
      have B4 := below_two (B3' _) hb
      have X4 := (X3' _).below hb
      have A4 := (A3 _).below hb
      have EA4 := (EA3 _).below hb
      clear EA3
      have al4 := fun o => (Below.refl wd.heap.size wd).alloc (Nat.le_refl _) o
      have B4' := fun o => below_two B4 (al4 o)
      have X4' := fun o => X4.below (al4 o)
      have A4' := fun o => A4.below (al4 o)
      have C4 := fun T => box3_new wd (.int .i64 R) (.int .i64 m) (.slice (some ⟨gB, 0, none⟩) (R * m : Nat) (R * m : Nat)) T
      have EA4' := fun o => EA4.below (al4 o)
      clear EA4
      have EB4 := fun o => hEB.below (al4 o)
      clear hEB
      obtain ⟨_, d0, d1, d2, _, _, _⟩ := X4
      clear c0 c1 c2 hb X3' B3' A3 G3 al B4 A4
      have G4 := fun o => HG.out.below (B4' o)
      go_wp2_with fail
      refine (wide_yes ⟨R, C, ga, gn, gcap, gv⟩ R C rfl rfl HN.out hR hC hle _ (G4 _)).mono ?_
      rintro e we ⟨⟨g2, rfl, _, hEW⟩, hb⟩
      rw [← HN.out] at hEW ⊢
      have B5 := below_two (B4' _) hb
      have X5 := (X4' _).below hb
      have A5 := (A4' _).below hb
      have C5 := (C4 _).below hb
      have EA5 := (EA4' _).below hb
      clear EA4'
      have EB5 := (EB4 _).below hb
      clear EB4
      have al5 := fun o => (Below.refl we.heap.size we).alloc (Nat.le_refl _) o
      have B5' := fun o => below_two B5 (al5 o)
      have X5' := fun o => X5.below (al5 o)
      have A5' := fun o => A5.below (al5 o)
      have C5' := fun o => C5.below (al5 o)
      have W5 := fun T => box3_new we (.int .i64 R) (.int .i64 C) (.slice (some ⟨g2, 0, none⟩) gn gn) T
      have EA5' := fun o => EA5.below (al5 o)
      clear EA5
      have EB5' := fun o => EB5.below (al5 o)
      clear EB5
      have EW5 := fun o => hEW.below (al5 o)
      clear hEW
      obtain ⟨_, c0, c1, c2, _, _, _⟩ := X5
      clear d0 d1 d2 hb X4' B4' A4' C4 G4 al4 B5 A5 C5
      go_wp2_with fail
      refine (doc_right _ _ _ _ _ _ hgn true hf).mono ?_
      rintro e wf ⟨rfl, hb⟩
      have B6 := below_two (B5' _) hb
      have X6 := (X5' _).below hb
      have A6 := (A5' _).below hb
      have C6 := (C5' _).below hb
      have W6 := (W5 _).below hb
      have EA6 := (EA5' _).below hb
      clear EA5' hrow
      have EB6 := (EB5' _).below hb
      clear EB5' hcol
      have EW6 := (EW5 _).below hb
      have X6' := X6
      have A6' := A6
      have C6' := C6
      have W6' := W6
      obtain ⟨_, d0, d1, d2, _, _, _⟩ := X6
      obtain ⟨_, w0, w1, w2, _, _, _⟩ := W6
      clear c0 c1 c2 hb X5' A5' C5' W5 B5' al5 hf EW5 A6 C6
      go_wp2_with fail
      clear d0 d1 d2 w0 w1 w2
      go_loopw [13] (fun i wr => ∃ k : Nat, k ≤ gn ∧ i = .int .i64 k ∧ Below wf.heap.size wf wr) (fun i _ => gn - (intOf i).toNat)
      case atStart => exact ⟨0, by omega, rfl, Below.refl _ _⟩
      case round =>
        obtain ⟨k, hk, rfl, hbr⟩ := hrel
        have B7 := below_two B6 hbr
        have X7 := X6'.below hbr
        have X7' := X7
        obtain ⟨_, d0, d1, d2, _, _, _⟩ := X7
        obtain ⟨_, w0, w1, w2, _, _, _⟩ := W6'.below hbr
        by_cases hlt : k < gn
        · have hgd := HG.out.1.below B7
          simp only at hgd
          obtain ⟨b, off, x, rfl, hcx, hx, wx⟩ := hgd.at_ hlt
          obtain ⟨b', off', y, he, hcy, hy, wy⟩ := (EW6.below hbr).at_ hlt
          cases he
          rw [Nat.zero_add] at hcy
          obtain rfl : x = y := by rw [← hx.out, ← hy.out]
          have bx := wf8 wx
          have e1 : IntKind.i32.wrap x = x := IntWalk.i32_in _ (by omega)
          have f0 : (0 : Int) ≤ (k : Int) := by omega
          have f1 : (k : Int) < (gn : Int) := by omega
          clear hx hy wx wy hgd
          go_wp2_with fail
          go_quiet (fail)
          go_wp2
          go_roundw
          case rel => exact ⟨k + 1, by omega, by go_num, below_drewN hbr _⟩
          case measure => simp [intOf]; omega
        · obtain rfl : k = gn := by omega
          have A7 := A6'.below hbr
          have C7 := C6'.below hbr
          have EA7 := EA6.below hbr
          have EB7 := EB6.below hbr
          have A7' := A7
          have C7' := C7
          obtain ⟨_, a0, a1', a2', _, _, _⟩ := A7
          clear hbr X6' A6' C6' W6' B6 EW6
          go_wp2_with fail
          have hS0 : Below wr.heap.size wr wr.drew := (Below.refl _ _).drew
          have hpr := HPR.out wr.drew (below_two B7 hS0)
          go_region_held3 (fun w' => w'.cell? ⟨w.heap.size, 0, none⟩ = some (.int .i64 R) ∧ w'.cell? ⟨w.heap.size, 1, none⟩ = some (.int .i64 C) ∧ w'.cell? ⟨w.heap.size, 2, none⟩ = some (.slice ga k gcap) ∧ w'.cell? ⟨wc.heap.size, 0, none⟩ = some (.int .i64 m) ∧ w'.cell? ⟨wc.heap.size, 1, none⟩ = some (.int .i64 C) ∧ w'.cell? ⟨wc.heap.size, 2, none⟩ = some (.slice (some ⟨gA, 0, none⟩) (m * C : Nat) (m * C : Nat)))
            (first | go_keep | (go_split_ands; refine ⟨?_, ?_, ?_, ?_, ?_, ?_⟩ <;> assumption))
            (first
              | (go_at_call 22; (with_reducible refine hpr.mono ?_); rintro e ws ⟨⟨pa, pcap, rfl, hEp⟩, hs1⟩
                 have hS1 := below_two hS0 hs1
                 have hsame := msame_yes (m : Int) (C : Int) (some ⟨gA, 0, none⟩) pa (m * C) (m * C) pcap TA ws (EA7.below hS1) hEp
                 obtain ⟨_, x0, x1, x2, _, _, _⟩ := X7'.below hS1
                 obtain ⟨_, x3, x4, x5, _, _, _⟩ := A7'.below hS1)
              | (go_at_call 15; (with_reducible refine hsame.mono ?_); rintro e wt ⟨rfl, hs2⟩
                 have hS2 := below_two hS1 hs2
                 obtain ⟨_, y0, y1, y2, _, _, _⟩ := X7'.below hS2
                 obtain ⟨_, y3, y4, y5, _, _, _⟩ := A7'.below hS2))
          have B8 := below_two B7 hS2
          have X8 := X7'.below hS2
          have C8 := C7'.below hS2
          have EB8 := EB7.below hS2
          clear hS0 hS1 hS2 hsame hpr
          have X8' := X8
          have C8' := C8
          obtain ⟨_, l0, l1, l2, _, _, _⟩ := X8
          obtain ⟨_, c0, c1, c2, _, _, _⟩ := C8
          clear d0 d1 d2 a0 a1' a2' X7' A7' C7' B7
          go_wp2_with fail
          have hS0 : Below wt.heap.size wt wt.drew := (Below.refl _ _).drew
          have hpc := HPC.out wt.drew (below_two B8 hS0)
          go_region_held3 (fun w' => w'.cell? ⟨w.heap.size, 0, none⟩ = some (.int .i64 R) ∧ w'.cell? ⟨w.heap.size, 1, none⟩ = some (.int .i64 C) ∧ w'.cell? ⟨w.heap.size, 2, none⟩ = some (.slice ga k gcap) ∧ w'.cell? ⟨wd.heap.size, 0, none⟩ = some (.int .i64 R) ∧ w'.cell? ⟨wd.heap.size, 1, none⟩ = some (.int .i64 m) ∧ w'.cell? ⟨wd.heap.size, 2, none⟩ = some (.slice (some ⟨gB, 0, none⟩) (R * m : Nat) (R * m : Nat)))
            (first | go_keep | (go_split_ands; refine ⟨?_, ?_, ?_, ?_, ?_, ?_⟩ <;> assumption))
            (first
              | (go_at_call 22; (with_reducible refine hpc.mono ?_); rintro e ws ⟨⟨pa, pcap, rfl, hEp⟩, hs1⟩
                 have hS1 := below_two hS0 hs1
                 have hsame := msame_yes (R : Int) (m : Int) (some ⟨gB, 0, none⟩) pa (R * m) (R * m) pcap TB ws (EB8.below hS1) hEp
                 obtain ⟨_, x0, x1, x2, _, _, _⟩ := X8'.below hS1
                 obtain ⟨_, x3, x4, x5, _, _, _⟩ := C8'.below hS1)
              | (go_at_call 15; (with_reducible refine hsame.mono ?_); rintro e wu ⟨rfl, hs2⟩
                 have hS2 := below_two hS1 hs2
                 obtain ⟨_, y0, y1, y2, _, _, _⟩ := X8'.below hS2
                 obtain ⟨_, y3, y4, y5, _, _, _⟩ := C8'.below hS2))
          have B9 := below_two B8 hS2
          clear hS0 hS1 hS2 hsame hpc
          go_wp2
          go_ret
          exact ⟨rfl, B9⟩

set_option maxRecDepth 100000 in
theorem lifted (os : Os) (started : os.Started) (H : Type) (enc : TypeId × Value → H) :
    ReturnsInHanded {} Try.checked os 4 .any (Rows.matmulCutsSpec.pre6 enc Try.prog Try.f4 Rows.matmulCutsRow.domain false) (Rows.matmulCutsSpec.post enc Try.prog Try.f4 false true false false) := by
  refine returnsInHanded_of_change (C := Try.checked) own started (by kernel_rfl) Try.func4
    (ChangeSpec.witness6 (enc := enc) (C := Try.checked) false ⟨#[], #[.agg #[.int .i64 0, .int .i64 0, .slice none 0 0], .int .i64 0, .int .i64 0], []⟩ 8 (by kernel_rfl) (by kernel_rfl) (by kernel_rfl) (by kernel_rfl)) ?_
  intro W base args ds gs before hval0 hW hcnd _
  have hval : ∀ (j : Nat) t v, Try.f4.params[j]? = some t → args[j]? = some v → Value.okWide Try.prog W .any base t v := hval0
  have hW' := hW
  obtain ⟨p, q, hA0, hV, rfl, hfz, hnd⟩ := hW
  have hA : DataW.TrodAll enc Try.prog W 0 (fun _ => true) true Try.f4.params.toList args.toList ds p := hA0
  rw [Try.params4] at hA hval
  obtain ⟨v0, vs0, d0, ds0, p0, q0, hargs, rfl, rfl, h0, r0⟩ := trodAll_cons hA
  obtain ⟨v1, vs1, d1, ds1, p1, q1, rfl, rfl, rfl, h1, r1⟩ := trodAll_cons r0
  obtain ⟨v2, vs2, d2, ds2, p2, q2, rfl, rfl, rfl, h2, r2⟩ := trodAll_cons r1
  obtain ⟨rfl, rfl, rfl⟩ := trodAll_nil r2
  obtain rfl : args = #[v0, v1, v2] := by cases args; simp_all
  obtain ⟨rfl, rfl⟩ := trodVars_none hV
  have k0 := h0
  have lt0 : ∀ x ∈ p0, x.block < W.heap.size := by obtain ⟨m, hm⟩ := k0; exact DataW.trod_lt m _ _ _ hm
  obtain ⟨g0, rfl, w0⟩ := open_mat (hval 0 24 v0 rfl rfl) h0
  obtain ⟨a1, rfl, rfl, rfl, w1⟩ := open_int Try.underlying3 (hval 1 3 v1 rfl rfl) h1
  obtain ⟨a2, rfl, rfl, rfl, w2⟩ := open_int Try.underlying3 (hval 2 3 v2 rfl rfl) h2
  clear hA0 hval0
  refine (walk g0 a1 a2 W w0 w1 w2).mono fun e W' ⟨he, bel⟩ => ?_
  subst he
  exact ⟨_, rfl, _, _, _, [], _, [], hW', trodAll_mk1 (shut_bool Try.underlying4 _), (trodAll_cons_mk (Below.trod laidOut (by kernel_rfl) (of_decide_eq_true (by kernel_rfl)) k0 bel lt0) (trodAll_cons_mk (shut_int Try.underlying3 w1) (trodAll_cons_mk (shut_int Try.underlying3 w2) trodAll_mk0))), rfl, bel.frame _, fun h => by cases h⟩

theorem over : Rows.matmulCutsRow.holds Try.pinned (OpenSpec.ofChange Rows.matmulCutsSpec) :=
  OpenClaim.holds_of_wide 4 Try.f4 rfl rfl rfl rfl rfl rfl rfl ⟨rfl, rfl, rfl, rfl, rfl⟩ rfl rfl rfl rfl rfl (by kernel_rfl) Try.func4 (by kernel_rfl)
    (of_decide_eq_true (by kernel_rfl)) (by unfold Func.isWrapper; first | (rw [if_pos (by decide +kernel)]; kernel_rfl) | (rw [if_neg (by decide +kernel)]; exact ⟨rfl, rfl⟩))
    (fun os started H enc _ => lifted os started H enc)

/-- ████ THE STATEMENT ████ -/
theorem proved : Rows.MatmulCutsSaid := over
#print axioms proved
end Go.Proofs.Ytkiedganojaniaa.matmulCuts
