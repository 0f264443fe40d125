/-
  Proved: for every grid and every two places GridCuts returns true (Rows, Cols and Turn are the document's; the grid stays) and nothing that was in memory turns. Conditions: none.
-/
import Derived.Test.YtocjcfblpifdhaaRows
import Derived.WalkKit
import Derived.ProofKit
import Derived.OpenShut
import Derived.ShutString
import Derived.ChangeOld
import Derived.Below
import Derived.Test.YtocjcfblpifdhaaGridRow
import Derived.Test.YtocjcfblpifdhaaLawKit3
namespace Go.Proofs.Ytocjcfblpifdhaa.gridCuts
open Go.ChangeShapes Go.WideShapes Go.ChangeAt Go.RowKit
open Go.ChangeMaps (open_string shut_string)
set_option linter.unusedVariables false

theorem own : ownKnob Try.prog.godebug = none := by kernel_rfl
theorem laidOut : laidOutB Try.prog = true := by kernel_rfl

set_option maxHeartbeats 8000000 in
set_option maxRecDepth 100000 in
theorem walk (g0 : Gr) (a1 : Int) (a2 : Int) (w : World) (h0 : g0.In w) (h1 : (Lit.int .i64 a1).wf = true) (h2 : (Lit.int .i64 a2).wf = true) :
    Calls Try.prog 4 #[.agg #[.int .i64 g0.r, .int .i64 g0.c, .slice g0.a g0.n g0.cap], .int .i64 a1, .int .i64 a2] w fun e w' => e = .returned (.bool true) ∧ Below w.heap.size w w' := by
  clear h1 h2
  have hst := (st_nil w).box g0 h0 24 (b := w.heap.size) rfl
  clear h0
  cases hsm : smallB [g0] with
  | false =>
    go_enter Try.func4, Try.ntmps4
    go_wp2_with fail
    refine (awake _).mono ?_
    rintro e w1 ⟨rfl, hb⟩
    replace hst := hst.below hb
    clear hb
    obtain ⟨r2l, r2a, r2b, r2c, _, _, _⟩ := (hst.get (b := w.heap.size) (g := g0) (by simp)).box
    have hG := fun T => grids_one (T := T) (b := w1.heap.size) g0 (hst.inn (b := w.heap.size) (g := g0) (by simp)) rfl
    go_wp2_with fail
    refine (small_c _ _ _ [g0] _ (hG _) false hsm).mono ?_
    rintro e3 e3w ⟨rfl, rfl⟩
    replace hst := hst.alloc (.cells #[.int .i64 g0.r, .int .i64 g0.c, .slice g0.a g0.n g0.cap] 24)
    clear hG hsm r2l r2a r2b r2c
    go_wp2_with fail
    refine (awake _).mono ?_
    rintro e w4 ⟨rfl, hb⟩
    replace hst := hst.below hb
    clear hb
    have hB := hst.bel
    clear hst
    go_wp2
    go_ret
    exact ⟨rfl, hB⟩
  | true =>
    have HSM := Lib.hid (show g0.n ≤ 400 by unfold smallB at hsm; simpa using hsm)
    cases hfit : fitB g0.r g0.c g0.n with
    | false =>
      have HF := Lib.hid hfit
      clear hfit
      go_enter Try.func4, Try.ntmps4
      go_wp2_with fail
      refine (awake _).mono ?_
      rintro e w5 ⟨rfl, hb⟩
      replace hst := hst.below hb
      clear hb
      obtain ⟨r6l, r6a, r6b, r6c, _, _, _⟩ := (hst.get (b := w.heap.size) (g := g0) (by simp)).box
      have hG := fun T => grids_one (T := T) (b := w5.heap.size) g0 (hst.inn (b := w.heap.size) (g := g0) (by simp)) rfl
      go_wp2_with fail
      refine (small_c _ _ _ [g0] _ (hG _) true hsm).mono ?_
      rintro e7 e7w ⟨rfl, rfl⟩
      replace hst := hst.alloc (.cells #[.int .i64 g0.r, .int .i64 g0.c, .slice g0.a g0.n g0.cap] 24)
      clear hG hsm r6l r6a r6b r6c
      obtain ⟨r8l, r8a, r8b, r8c, _, _, _⟩ := (hst.get (b := w.heap.size) (g := g0) (by simp)).box
      go_wp2_with fail
      refine (copied_one _ _ g0 _ (grids_one g0 (hst.inn (b := w.heap.size) (g := g0) (by simp)) (by simp)) HSM.out).mono ?_
      rintro e w9 ⟨⟨qb, qo, qc, k, rfl, kin, hk, ql, q0, q1, q2⟩, hb⟩
      replace hst := (hst.alloc (.cells #[.int .i64 g0.r, .int .i64 g0.c, .slice g0.a g0.n g0.cap] 24)).below hb
      clear hb r8l r8a r8b r8c
      have HK := Lib.hid hk
      clear hk
      have qi : (0 : Int) < 1 := by omega
      replace hst := hst.push k kin 24
      go_wp2_with fail
      refine (rows_no k.r k.c k.a k.n k.cap k.v _ (hst.inn (b := w9.heap.size) (g := k) (by simp)) a1 a2 (by rw [HK.out.1, HK.out.2.1, HK.out.2.2.1]; exact HF.out)).mono ?_
      rintro e w10 ⟨he, hb⟩
      replace hst := hst.below hb
      clear hb
      clear q0 q1 q2 ql qi
      unfold NoGrid at he
      subst he
      obtain ⟨r11l, r11a, r11b, r11c, _, _, _⟩ := (hst.get (b := w9.heap.size) (g := k) (by simp)).box
      replace hst := hst.zero 24
      go_wp2_with fail
      refine (cols_no k.r k.c k.a k.n k.cap k.v _ (hst.inn (b := w9.heap.size) (g := k) (by simp)) a1 a2 (by rw [HK.out.1, HK.out.2.1, HK.out.2.2.1]; exact HF.out)).mono ?_
      rintro e w12 ⟨he, hb⟩
      replace hst := hst.below hb
      clear hb r11l r11a r11b r11c
      unfold NoGrid at he
      subst he
      obtain ⟨r13l, r13a, r13b, r13c, _, _, _⟩ := (hst.get (b := w9.heap.size) (g := k) (by simp)).box
      replace hst := hst.zero 24
      go_wp2_with fail
      refine (turn_no k.r k.c k.a k.n k.cap k.v _ (hst.inn (b := w9.heap.size) (g := k) (by simp)) (by rw [HK.out.1, HK.out.2.1, HK.out.2.2.1]; exact HF.out)).mono ?_
      rintro e w14 ⟨he, hb⟩
      replace hst := hst.below hb
      clear hb r13l r13a r13b r13c
      unfold NoGrid at he
      subst he
      obtain ⟨r15l, r15a, r15b, r15c, _, _, _⟩ := (hst.get (b := w9.heap.size) (g := k) (by simp)).box
      obtain ⟨r16l, r16a, r16b, r16c, _, _, _⟩ := (hst.get (b := w.heap.size) (g := g0) (by simp)).box
      replace hst := hst.zero 24
      go_wp2_with fail
      refine (same_gr k g0 _ (hst.inn (b := w9.heap.size) (g := k) (by simp)) (hst.inn (b := w.heap.size) (g := g0) (by simp)) HK.out.1 HK.out.2.1 HK.out.2.2.1 HK.out.2.2.2).mono ?_
      rintro e w17 ⟨rfl, hb⟩
      replace hst := hst.below hb
      clear hb r15l r15a r15b r15c r16l r16a r16b r16c
      obtain ⟨r18l, r18a, r18b, r18c, _, _, _⟩ := (hst.get (b := w.heap.size) (g := g0) (by simp)).box
      go_wp2_with fail
      refine (ref_fit g0.r g0.c g0.a g0.n g0.cap _ (hst.inn (b := w.heap.size) (g := g0) (by simp)).1.2.1 false HF.out).mono ?_
      rintro e w19 ⟨rfl, hb⟩
      replace hst := hst.below hb
      clear hb r18l r18a r18b r18c
      have hB := hst.bel
      clear hst
      go_wp2
      go_ret
      exact ⟨rfl, hB⟩
    | true =>
      obtain ⟨R, C, x1, x2, hR, hC, x3, hle⟩ := fitB_yes hfit
      have HF := Lib.hid hfit
      have HG := Lib.hid (And.intro x1 (And.intro x2 x3))
      clear hfit x3
      by_cases v1 : 0 ≤ a1
      ·
        by_cases v2 : a1 ≤ a2
        ·
          obtain ⟨fr, rfl⟩ : ∃ fr : Nat, a1 = fr := ⟨a1.toNat, by omega⟩
          obtain ⟨to, rfl⟩ : ∃ to : Nat, a2 = to := ⟨a2.toNat, by omega⟩
          have u1 : fr ≤ to := by omega
          have lb : ((fr : Int) ≤ (to : Int)) := v2
          by_cases u2 : to ≤ R
          ·
            by_cases u3 : to ≤ C
            ·
              have nr := HG.out.1
              have nc := HG.out.2.1
              have y2 : ¬ (to : Int) > g0.r := by omega
              have y4 : (to : Int) ≤ g0.r := by omega
              have y3 : (to : Int) ≤ g0.c := by omega
              clear x1 x2
              clear nr nc
              go_enter Try.func4, Try.ntmps4
              go_wp2_with fail
              refine (awake _).mono ?_
              rintro e w20 ⟨rfl, hb⟩
              replace hst := hst.below hb
              clear hb
              obtain ⟨r21l, r21a, r21b, r21c, _, _, _⟩ := (hst.get (b := w.heap.size) (g := g0) (by simp)).box
              have hG := fun T => grids_one (T := T) (b := w20.heap.size) g0 (hst.inn (b := w.heap.size) (g := g0) (by simp)) rfl
              go_wp2_with fail
              refine (small_c _ _ _ [g0] _ (hG _) true hsm).mono ?_
              rintro e22 e22w ⟨rfl, rfl⟩
              replace hst := hst.alloc (.cells #[.int .i64 g0.r, .int .i64 g0.c, .slice g0.a g0.n g0.cap] 24)
              clear hG hsm r21l r21a r21b r21c
              obtain ⟨r23l, r23a, r23b, r23c, _, _, _⟩ := (hst.get (b := w.heap.size) (g := g0) (by simp)).box
              go_wp2_with fail
              refine (copied_one _ _ g0 _ (grids_one g0 (hst.inn (b := w.heap.size) (g := g0) (by simp)) (by simp)) HSM.out).mono ?_
              rintro e w24 ⟨⟨qb, qo, qc, k, rfl, kin, hk, ql, q0, q1, q2⟩, hb⟩
              replace hst := (hst.alloc (.cells #[.int .i64 g0.r, .int .i64 g0.c, .slice g0.a g0.n g0.cap] 24)).below hb
              clear hb r23l r23a r23b r23c
              have HK := Lib.hid hk
              clear hk
              have qi : (0 : Int) < 1 := by omega
              replace hst := hst.push k kin 24
              go_wp2_with fail
              refine (rows_gr k R C fr to _ (hst.inn (b := w24.heap.size) (g := k) (by simp)) (HK.out.1.trans HG.out.1) (HK.out.2.1.trans HG.out.2.1) (HK.out.2.2.1.trans HG.out.2.2) hR hC hle u1 u2 fr to rfl rfl).mono ?_
              rintro e w25 ⟨hgot, hb⟩
              replace hst := hst.below hb
              clear hb
              clear q0 q1 q2 ql qi
              obtain ⟨a, rfl, k1, k2, k3, k4, ain⟩ := hgot
              have Ha := Lib.hid (And.intro k1 (And.intro k2 (And.intro k3 k4)))
              clear k1 k2 k3 k4
              obtain ⟨r26l, r26a, r26b, r26c, _, _, _⟩ := (hst.get (b := w24.heap.size) (g := k) (by simp)).box
              replace hst := hst.push a ain 24
              go_wp2_with fail
              refine (cols_gr k R C fr to _ (hst.inn (b := w24.heap.size) (g := k) (by simp)) (HK.out.1.trans HG.out.1) (HK.out.2.1.trans HG.out.2.1) (HK.out.2.2.1.trans HG.out.2.2) hR hC hle u1 u3 fr to rfl rfl).mono ?_
              rintro e w27 ⟨hgot, hb⟩
              replace hst := hst.below hb
              clear hb r26l r26a r26b r26c
              obtain ⟨b, rfl, k1, k2, k3, k4, bin⟩ := hgot
              have Hb := Lib.hid (And.intro k1 (And.intro k2 (And.intro k3 k4)))
              clear k1 k2 k3 k4
              obtain ⟨r28l, r28a, r28b, r28c, _, _, _⟩ := (hst.get (b := w24.heap.size) (g := k) (by simp)).box
              replace hst := hst.push b bin 24
              go_wp2_with fail
              refine (turn_gr k R C _ (hst.inn (b := w24.heap.size) (g := k) (by simp)) (HK.out.1.trans HG.out.1) (HK.out.2.1.trans HG.out.2.1) (HK.out.2.2.1.trans HG.out.2.2) hR hC hle).mono ?_
              rintro e w29 ⟨hgot, hb⟩
              replace hst := hst.below hb
              clear hb r28l r28a r28b r28c
              obtain ⟨t, rfl, k1, k2, k3, k4, tin⟩ := hgot
              have Ht := Lib.hid (And.intro k1 (And.intro k2 (And.intro k3 k4)))
              clear k1 k2 k3 k4
              obtain ⟨r30l, r30a, r30b, r30c, _, _, _⟩ := (hst.get (b := w24.heap.size) (g := k) (by simp)).box
              obtain ⟨r31l, r31a, r31b, r31c, _, _, _⟩ := (hst.get (b := w.heap.size) (g := g0) (by simp)).box
              replace hst := hst.push t tin 24
              go_wp2_with fail
              refine (same_gr k g0 _ (hst.inn (b := w24.heap.size) (g := k) (by simp)) (hst.inn (b := w.heap.size) (g := g0) (by simp)) HK.out.1 HK.out.2.1 HK.out.2.2.1 HK.out.2.2.2).mono ?_
              rintro e w32 ⟨rfl, hb⟩
              replace hst := hst.below hb
              clear hb r30l r30a r30b r30c r31l r31a r31b r31c
              obtain ⟨r33l, r33a, r33b, r33c, _, _, _⟩ := (hst.get (b := w.heap.size) (g := g0) (by simp)).box
              go_wp2_with fail
              refine (ref_fit g0.r g0.c g0.a g0.n g0.cap _ (hst.inn (b := w.heap.size) (g := g0) (by simp)).1.2.1 true HF.out).mono ?_
              rintro e w34 ⟨rfl, hb⟩
              replace hst := hst.below hb
              clear hb r33l r33a r33b r33c
              obtain ⟨r35l, r35a, r35b, r35c, _, _, _⟩ := (hst.get (b := w29.heap.size) (g := t) (by simp)).box
              obtain ⟨r36l, r36a, r36b, r36c, _, _, _⟩ := (hst.get (b := w.heap.size) (g := g0) (by simp)).box
              have hx1 : Below w34.heap.size w34 w34.drew := (Below.refl _ _).drew
              have ba := (hst.get (b := w29.heap.size) (g := t) (by simp)).box
              have bb := (hst.get (b := w.heap.size) (g := g0) (by simp)).box
              have ia := Lib.hid (hst.inn (b := w29.heap.size) (g := t) (by simp))
              have ib := Lib.hid (hst.inn (b := w.heap.size) (g := g0) (by simp))
              have HVV := Lib.hid (show t.v = tab C R (fun i j => g0.v.getD (j * C + i) 0) from by rw [Ht.out.2.2.2, HK.out.2.2.2])
              go_wp2_with fail
              go_region_held3 (fun w' => w'.cell? ⟨w29.heap.size, 0, none⟩ = some (.int .i64 t.r) ∧ w'.cell? ⟨w29.heap.size, 1, none⟩ = some (.int .i64 t.c) ∧ w'.cell? ⟨w29.heap.size, 2, none⟩ = some (.slice t.a t.n t.cap) ∧
                  w'.cell? ⟨w.heap.size, 0, none⟩ = some (.int .i64 g0.r) ∧ w'.cell? ⟨w.heap.size, 1, none⟩ = some (.int .i64 g0.c) ∧ w'.cell? ⟨w.heap.size, 2, none⟩ = some (.slice g0.a g0.n g0.cap))
                (first | go_keep | (go_split_ands; refine ⟨?_, ?_, ?_, ?_, ?_, ?_⟩ <;> assumption))
                (first
                  | (go_at_call 26; (with_reducible refine (ref_turn_p g0 R C _ (ib.out.below hx1) HG.out.1 HG.out.2.1 HG.out.2.2 hR hC t.r t.c t.n Ht.out.1 Ht.out.2.1 Ht.out.2.2.1).mono ?_); rintro e ws ⟨⟨ua, ucap, rfl, hEu⟩, hs1⟩
                     have hS1 := below_two hx1 hs1
                     obtain ⟨_, b0, b1, b2, _, _, _⟩ := ba.below hS1
                     obtain ⟨_, b3, b4, b5, _, _, _⟩ := bb.below hS1
                     have R2 := held_ref t ua ucap _ ws (ia.out.below hS1) hEu HVV.out)
                  | (go_at_call 25; (with_reducible refine R2.mono ?_); rintro e wt ⟨rfl, hs2⟩
                     have hS2 := below_two hS1 hs2
                     obtain ⟨_, c0, c1, c2, _, _, _⟩ := ba.below hS2
                     obtain ⟨_, c3, c4, c5, _, _, _⟩ := bb.below hS2))
              replace hst := hst.below hS2
              clear hS2 hS1 hs1 hs2 hx1 ba bb ia ib HVV R2 hEu b0 b1 b2 b3 b4 b5 c0 c1 c2 c3 c4 c5 r35l r35a r35b r35c r36l r36a r36b r36c
              obtain ⟨r37l, r37a, r37b, r37c, _, _, _⟩ := (hst.get (b := w25.heap.size) (g := a) (by simp)).box
              obtain ⟨r38l, r38a, r38b, r38c, _, _, _⟩ := (hst.get (b := w.heap.size) (g := g0) (by simp)).box
              have hx1 : Below wt.heap.size wt wt.drew := (Below.refl _ _).drew
              have ba := (hst.get (b := w25.heap.size) (g := a) (by simp)).box
              have bb := (hst.get (b := w.heap.size) (g := g0) (by simp)).box
              have ia := Lib.hid (hst.inn (b := w25.heap.size) (g := a) (by simp))
              have ib := Lib.hid (hst.inn (b := w.heap.size) (g := g0) (by simp))
              have HVV := Lib.hid (show a.v = tab (to - fr) (C - 0) (fun i j => g0.v.getD ((fr + i) * C + (0 + j)) 0) from by rw [Ha.out.2.2.2, HK.out.2.2.2, Nat.sub_zero]; exact tab_congr _ _ _ _ fun i j _ _ => by rw [Nat.zero_add])
              go_wp2_with fail
              go_region_held3 (fun w' => w'.cell? ⟨w25.heap.size, 0, none⟩ = some (.int .i64 a.r) ∧ w'.cell? ⟨w25.heap.size, 1, none⟩ = some (.int .i64 a.c) ∧ w'.cell? ⟨w25.heap.size, 2, none⟩ = some (.slice a.a a.n a.cap) ∧
                  w'.cell? ⟨w.heap.size, 0, none⟩ = some (.int .i64 g0.r) ∧ w'.cell? ⟨w.heap.size, 1, none⟩ = some (.int .i64 g0.c) ∧ w'.cell? ⟨w.heap.size, 2, none⟩ = some (.slice g0.a g0.n g0.cap))
                (first | go_keep | (go_split_ands; refine ⟨?_, ?_, ?_, ?_, ?_, ?_⟩ <;> assumption))
                (first
                  | (go_at_call 27; (with_reducible refine (ref_part_p g0 R C fr to 0 C _ (ib.out.below hx1) HG.out.1 HG.out.2.1 HG.out.2.2 hR hC u1 u2 (Nat.zero_le _) (Nat.le_refl _) fr to 0 g0.c rfl rfl rfl HG.out.2.1 a.r a.c a.n Ha.out.1 (by rw [Nat.sub_zero]; exact Ha.out.2.1) (by rw [Nat.sub_zero]; exact Ha.out.2.2.1)).mono ?_); rintro e ws ⟨⟨ua, ucap, rfl, hEu⟩, hs1⟩
                     have hS1 := below_two hx1 hs1
                     obtain ⟨_, b0, b1, b2, _, _, _⟩ := ba.below hS1
                     obtain ⟨_, b3, b4, b5, _, _, _⟩ := bb.below hS1
                     have R2 := held_ref a ua ucap _ ws (ia.out.below hS1) hEu HVV.out)
                  | (go_at_call 25; (with_reducible refine R2.mono ?_); rintro e wt ⟨rfl, hs2⟩
                     have hS2 := below_two hS1 hs2
                     obtain ⟨_, c0, c1, c2, _, _, _⟩ := ba.below hS2
                     obtain ⟨_, c3, c4, c5, _, _, _⟩ := bb.below hS2))
              replace hst := hst.below hS2
              clear hS2 hS1 hs1 hs2 hx1 ba bb ia ib HVV R2 hEu b0 b1 b2 b3 b4 b5 c0 c1 c2 c3 c4 c5 r37l r37a r37b r37c r38l r38a r38b r38c
              obtain ⟨r39l, r39a, r39b, r39c, _, _, _⟩ := (hst.get (b := w27.heap.size) (g := b) (by simp)).box
              obtain ⟨r40l, r40a, r40b, r40c, _, _, _⟩ := (hst.get (b := w.heap.size) (g := g0) (by simp)).box
              have hx1 : Below wt.heap.size wt wt.drew := (Below.refl _ _).drew
              have ba := (hst.get (b := w27.heap.size) (g := b) (by simp)).box
              have bb := (hst.get (b := w.heap.size) (g := g0) (by simp)).box
              have ia := Lib.hid (hst.inn (b := w27.heap.size) (g := b) (by simp))
              have ib := Lib.hid (hst.inn (b := w.heap.size) (g := g0) (by simp))
              have HVV := Lib.hid (show b.v = tab (R - 0) (to - fr) (fun i j => g0.v.getD ((0 + i) * C + (fr + j)) 0) from by rw [Hb.out.2.2.2, HK.out.2.2.2, Nat.sub_zero]; exact tab_congr _ _ _ _ fun i j _ _ => by rw [Nat.zero_add])
              go_wp2_with fail
              go_region_held3 (fun w' => w'.cell? ⟨w27.heap.size, 0, none⟩ = some (.int .i64 b.r) ∧ w'.cell? ⟨w27.heap.size, 1, none⟩ = some (.int .i64 b.c) ∧ w'.cell? ⟨w27.heap.size, 2, none⟩ = some (.slice b.a b.n b.cap) ∧
                  w'.cell? ⟨w.heap.size, 0, none⟩ = some (.int .i64 g0.r) ∧ w'.cell? ⟨w.heap.size, 1, none⟩ = some (.int .i64 g0.c) ∧ w'.cell? ⟨w.heap.size, 2, none⟩ = some (.slice g0.a g0.n g0.cap))
                (first | go_keep | (go_split_ands; refine ⟨?_, ?_, ?_, ?_, ?_, ?_⟩ <;> assumption))
                (first
                  | (go_at_call 27; (with_reducible refine (ref_part_p g0 R C 0 R fr to _ (ib.out.below hx1) HG.out.1 HG.out.2.1 HG.out.2.2 hR hC (Nat.zero_le _) (Nat.le_refl _) u1 u3 0 g0.r fr to rfl HG.out.1 rfl rfl b.r b.c b.n (by rw [Nat.sub_zero]; exact Hb.out.1) Hb.out.2.1 (by rw [Nat.sub_zero]; exact Hb.out.2.2.1)).mono ?_); rintro e ws ⟨⟨ua, ucap, rfl, hEu⟩, hs1⟩
                     have hS1 := below_two hx1 hs1
                     obtain ⟨_, b0, b1, b2, _, _, _⟩ := ba.below hS1
                     obtain ⟨_, b3, b4, b5, _, _, _⟩ := bb.below hS1
                     have R2 := held_ref b ua ucap _ ws (ia.out.below hS1) hEu HVV.out)
                  | (go_at_call 25; (with_reducible refine R2.mono ?_); rintro e wt ⟨rfl, hs2⟩
                     have hS2 := below_two hS1 hs2
                     obtain ⟨_, c0, c1, c2, _, _, _⟩ := ba.below hS2
                     obtain ⟨_, c3, c4, c5, _, _, _⟩ := bb.below hS2))
              replace hst := hst.below hS2
              clear hS2 hS1 hs1 hs2 hx1 ba bb ia ib HVV R2 hEu b0 b1 b2 b3 b4 b5 c0 c1 c2 c3 c4 c5 r39l r39a r39b r39c r40l r40a r40b r40c
              have hB := hst.bel
              clear hst
              go_wp2
              go_ret
              exact ⟨rfl, hB⟩
            ·
              have nr := HG.out.1
              have nc := HG.out.2.1
              have y2 : ¬ (to : Int) > g0.r := by omega
              have y4 : (to : Int) ≤ g0.r := by omega
              have y3 : g0.c < (to : Int) := by omega
              have HCI := Lib.hid (show decide (0 ≤ (fr : Int) ∧ (fr : Int) ≤ (to : Int) ∧ (to : Int) ≤ g0.c) = false from decide_eq_false (by omega))
              clear x1 x2
              clear nr nc
              go_enter Try.func4, Try.ntmps4
              go_wp2_with fail
              refine (awake _).mono ?_
              rintro e w41 ⟨rfl, hb⟩
              replace hst := hst.below hb
              clear hb
              obtain ⟨r42l, r42a, r42b, r42c, _, _, _⟩ := (hst.get (b := w.heap.size) (g := g0) (by simp)).box
              have hG := fun T => grids_one (T := T) (b := w41.heap.size) g0 (hst.inn (b := w.heap.size) (g := g0) (by simp)) rfl
              go_wp2_with fail
              refine (small_c _ _ _ [g0] _ (hG _) true hsm).mono ?_
              rintro e43 e43w ⟨rfl, rfl⟩
              replace hst := hst.alloc (.cells #[.int .i64 g0.r, .int .i64 g0.c, .slice g0.a g0.n g0.cap] 24)
              clear hG hsm r42l r42a r42b r42c
              obtain ⟨r44l, r44a, r44b, r44c, _, _, _⟩ := (hst.get (b := w.heap.size) (g := g0) (by simp)).box
              go_wp2_with fail
              refine (copied_one _ _ g0 _ (grids_one g0 (hst.inn (b := w.heap.size) (g := g0) (by simp)) (by simp)) HSM.out).mono ?_
              rintro e w45 ⟨⟨qb, qo, qc, k, rfl, kin, hk, ql, q0, q1, q2⟩, hb⟩
              replace hst := (hst.alloc (.cells #[.int .i64 g0.r, .int .i64 g0.c, .slice g0.a g0.n g0.cap] 24)).below hb
              clear hb r44l r44a r44b r44c
              have HK := Lib.hid hk
              clear hk
              have qi : (0 : Int) < 1 := by omega
              replace hst := hst.push k kin 24
              go_wp2_with fail
              refine (rows_gr k R C fr to _ (hst.inn (b := w45.heap.size) (g := k) (by simp)) (HK.out.1.trans HG.out.1) (HK.out.2.1.trans HG.out.2.1) (HK.out.2.2.1.trans HG.out.2.2) hR hC hle u1 u2 fr to rfl rfl).mono ?_
              rintro e w46 ⟨hgot, hb⟩
              replace hst := hst.below hb
              clear hb
              clear q0 q1 q2 ql qi
              obtain ⟨a, rfl, k1, k2, k3, k4, ain⟩ := hgot
              have Ha := Lib.hid (And.intro k1 (And.intro k2 (And.intro k3 k4)))
              clear k1 k2 k3 k4
              obtain ⟨r47l, r47a, r47b, r47c, _, _, _⟩ := (hst.get (b := w45.heap.size) (g := k) (by simp)).box
              replace hst := hst.push a ain 24
              go_wp2_with fail
              refine (cols_arg k.r k.c k.a k.n k.cap k.v _ (hst.inn (b := w45.heap.size) (g := k) (by simp)) fr to (by rw [HK.out.1, HK.out.2.1, HK.out.2.2.1]; exact HF.out) (by rw [HK.out.2.1]; exact HCI.out)).mono ?_
              rintro e w48 ⟨he, hb⟩
              replace hst := hst.below hb
              clear hb r47l r47a r47b r47c
              unfold NoGrid at he
              subst he
              obtain ⟨r49l, r49a, r49b, r49c, _, _, _⟩ := (hst.get (b := w45.heap.size) (g := k) (by simp)).box
              replace hst := hst.zero 24
              go_wp2_with fail
              refine (turn_gr k R C _ (hst.inn (b := w45.heap.size) (g := k) (by simp)) (HK.out.1.trans HG.out.1) (HK.out.2.1.trans HG.out.2.1) (HK.out.2.2.1.trans HG.out.2.2) hR hC hle).mono ?_
              rintro e w50 ⟨hgot, hb⟩
              replace hst := hst.below hb
              clear hb r49l r49a r49b r49c
              obtain ⟨t, rfl, k1, k2, k3, k4, tin⟩ := hgot
              have Ht := Lib.hid (And.intro k1 (And.intro k2 (And.intro k3 k4)))
              clear k1 k2 k3 k4
              obtain ⟨r51l, r51a, r51b, r51c, _, _, _⟩ := (hst.get (b := w45.heap.size) (g := k) (by simp)).box
              obtain ⟨r52l, r52a, r52b, r52c, _, _, _⟩ := (hst.get (b := w.heap.size) (g := g0) (by simp)).box
              replace hst := hst.push t tin 24
              go_wp2_with fail
              refine (same_gr k g0 _ (hst.inn (b := w45.heap.size) (g := k) (by simp)) (hst.inn (b := w.heap.size) (g := g0) (by simp)) HK.out.1 HK.out.2.1 HK.out.2.2.1 HK.out.2.2.2).mono ?_
              rintro e w53 ⟨rfl, hb⟩
              replace hst := hst.below hb
              clear hb r51l r51a r51b r51c r52l r52a r52b r52c
              obtain ⟨r54l, r54a, r54b, r54c, _, _, _⟩ := (hst.get (b := w.heap.size) (g := g0) (by simp)).box
              go_wp2_with fail
              refine (ref_fit g0.r g0.c g0.a g0.n g0.cap _ (hst.inn (b := w.heap.size) (g := g0) (by simp)).1.2.1 true HF.out).mono ?_
              rintro e w55 ⟨rfl, hb⟩
              replace hst := hst.below hb
              clear hb r54l r54a r54b r54c
              obtain ⟨r56l, r56a, r56b, r56c, _, _, _⟩ := (hst.get (b := w50.heap.size) (g := t) (by simp)).box
              obtain ⟨r57l, r57a, r57b, r57c, _, _, _⟩ := (hst.get (b := w.heap.size) (g := g0) (by simp)).box
              have hx1 : Below w55.heap.size w55 w55.drew := (Below.refl _ _).drew
              have ba := (hst.get (b := w50.heap.size) (g := t) (by simp)).box
              have bb := (hst.get (b := w.heap.size) (g := g0) (by simp)).box
              have ia := Lib.hid (hst.inn (b := w50.heap.size) (g := t) (by simp))
              have ib := Lib.hid (hst.inn (b := w.heap.size) (g := g0) (by simp))
              have HVV := Lib.hid (show t.v = tab C R (fun i j => g0.v.getD (j * C + i) 0) from by rw [Ht.out.2.2.2, HK.out.2.2.2])
              go_wp2_with fail
              go_region_held3 (fun w' => w'.cell? ⟨w50.heap.size, 0, none⟩ = some (.int .i64 t.r) ∧ w'.cell? ⟨w50.heap.size, 1, none⟩ = some (.int .i64 t.c) ∧ w'.cell? ⟨w50.heap.size, 2, none⟩ = some (.slice t.a t.n t.cap) ∧
                  w'.cell? ⟨w.heap.size, 0, none⟩ = some (.int .i64 g0.r) ∧ w'.cell? ⟨w.heap.size, 1, none⟩ = some (.int .i64 g0.c) ∧ w'.cell? ⟨w.heap.size, 2, none⟩ = some (.slice g0.a g0.n g0.cap))
                (first | go_keep | (go_split_ands; refine ⟨?_, ?_, ?_, ?_, ?_, ?_⟩ <;> assumption))
                (first
                  | (go_at_call 26; (with_reducible refine (ref_turn_p g0 R C _ (ib.out.below hx1) HG.out.1 HG.out.2.1 HG.out.2.2 hR hC t.r t.c t.n Ht.out.1 Ht.out.2.1 Ht.out.2.2.1).mono ?_); rintro e ws ⟨⟨ua, ucap, rfl, hEu⟩, hs1⟩
                     have hS1 := below_two hx1 hs1
                     obtain ⟨_, b0, b1, b2, _, _, _⟩ := ba.below hS1
                     obtain ⟨_, b3, b4, b5, _, _, _⟩ := bb.below hS1
                     have R2 := held_ref t ua ucap _ ws (ia.out.below hS1) hEu HVV.out)
                  | (go_at_call 25; (with_reducible refine R2.mono ?_); rintro e wt ⟨rfl, hs2⟩
                     have hS2 := below_two hS1 hs2
                     obtain ⟨_, c0, c1, c2, _, _, _⟩ := ba.below hS2
                     obtain ⟨_, c3, c4, c5, _, _, _⟩ := bb.below hS2))
              replace hst := hst.below hS2
              clear hS2 hS1 hs1 hs2 hx1 ba bb ia ib HVV R2 hEu b0 b1 b2 b3 b4 b5 c0 c1 c2 c3 c4 c5 r56l r56a r56b r56c r57l r57a r57b r57c
              obtain ⟨r58l, r58a, r58b, r58c, _, _, _⟩ := (hst.get (b := w46.heap.size) (g := a) (by simp)).box
              obtain ⟨r59l, r59a, r59b, r59c, _, _, _⟩ := (hst.get (b := w.heap.size) (g := g0) (by simp)).box
              have hx1 : Below wt.heap.size wt wt.drew := (Below.refl _ _).drew
              have ba := (hst.get (b := w46.heap.size) (g := a) (by simp)).box
              have bb := (hst.get (b := w.heap.size) (g := g0) (by simp)).box
              have ia := Lib.hid (hst.inn (b := w46.heap.size) (g := a) (by simp))
              have ib := Lib.hid (hst.inn (b := w.heap.size) (g := g0) (by simp))
              have HVV := Lib.hid (show a.v = tab (to - fr) (C - 0) (fun i j => g0.v.getD ((fr + i) * C + (0 + j)) 0) from by rw [Ha.out.2.2.2, HK.out.2.2.2, Nat.sub_zero]; exact tab_congr _ _ _ _ fun i j _ _ => by rw [Nat.zero_add])
              go_wp2_with fail
              go_region_held3 (fun w' => w'.cell? ⟨w46.heap.size, 0, none⟩ = some (.int .i64 a.r) ∧ w'.cell? ⟨w46.heap.size, 1, none⟩ = some (.int .i64 a.c) ∧ w'.cell? ⟨w46.heap.size, 2, none⟩ = some (.slice a.a a.n a.cap) ∧
                  w'.cell? ⟨w.heap.size, 0, none⟩ = some (.int .i64 g0.r) ∧ w'.cell? ⟨w.heap.size, 1, none⟩ = some (.int .i64 g0.c) ∧ w'.cell? ⟨w.heap.size, 2, none⟩ = some (.slice g0.a g0.n g0.cap))
                (first | go_keep | (go_split_ands; refine ⟨?_, ?_, ?_, ?_, ?_, ?_⟩ <;> assumption))
                (first
                  | (go_at_call 27; (with_reducible refine (ref_part_p g0 R C fr to 0 C _ (ib.out.below hx1) HG.out.1 HG.out.2.1 HG.out.2.2 hR hC u1 u2 (Nat.zero_le _) (Nat.le_refl _) fr to 0 g0.c rfl rfl rfl HG.out.2.1 a.r a.c a.n Ha.out.1 (by rw [Nat.sub_zero]; exact Ha.out.2.1) (by rw [Nat.sub_zero]; exact Ha.out.2.2.1)).mono ?_); rintro e ws ⟨⟨ua, ucap, rfl, hEu⟩, hs1⟩
                     have hS1 := below_two hx1 hs1
                     obtain ⟨_, b0, b1, b2, _, _, _⟩ := ba.below hS1
                     obtain ⟨_, b3, b4, b5, _, _, _⟩ := bb.below hS1
                     have R2 := held_ref a ua ucap _ ws (ia.out.below hS1) hEu HVV.out)
                  | (go_at_call 25; (with_reducible refine R2.mono ?_); rintro e wt ⟨rfl, hs2⟩
                     have hS2 := below_two hS1 hs2
                     obtain ⟨_, c0, c1, c2, _, _, _⟩ := ba.below hS2
                     obtain ⟨_, c3, c4, c5, _, _, _⟩ := bb.below hS2))
              replace hst := hst.below hS2
              clear hS2 hS1 hs1 hs2 hx1 ba bb ia ib HVV R2 hEu b0 b1 b2 b3 b4 b5 c0 c1 c2 c3 c4 c5 r58l r58a r58b r58c r59l r59a r59b r59c
              obtain ⟨m1, m2, m3, m4, _, _, _⟩ := (hst.get (b := w48.heap.size) (g := (⟨0, 0, none, 0, 0, []⟩ : Gr)) (by simp)).box
              simp only at m2 m3 m4
              obtain ⟨r60l, r60a, r60b, r60c, _, _, _⟩ := (hst.get (b := w.heap.size) (g := g0) (by simp)).box
              go_wp2_with fail
              refine (same_yes 0 0 none none 0 0 0 [] _ (Elems.nil_ _ _ _) (Elems.nil_ _ _ _)).mono ?_
              rintro e w61 ⟨rfl, hb⟩
              replace hst := hst.below hb
              clear hb r60l r60a r60b r60c
              clear m1 m2 m3 m4
              have hB := hst.bel
              clear hst
              go_wp2
              go_ret
              exact ⟨rfl, hB⟩
          ·
            by_cases u3 : to ≤ C
            ·
              have nr := HG.out.1
              have nc := HG.out.2.1
              have y4 : g0.r < (to : Int) := by omega
              have y3 : (to : Int) ≤ g0.c := by omega
              have HRI := Lib.hid (show decide (0 ≤ (fr : Int) ∧ (fr : Int) ≤ (to : Int) ∧ (to : Int) ≤ g0.r) = false from decide_eq_false (by omega))
              clear x1 x2
              clear nr nc
              go_enter Try.func4, Try.ntmps4
              go_wp2_with fail
              refine (awake _).mono ?_
              rintro e w62 ⟨rfl, hb⟩
              replace hst := hst.below hb
              clear hb
              obtain ⟨r63l, r63a, r63b, r63c, _, _, _⟩ := (hst.get (b := w.heap.size) (g := g0) (by simp)).box
              have hG := fun T => grids_one (T := T) (b := w62.heap.size) g0 (hst.inn (b := w.heap.size) (g := g0) (by simp)) rfl
              go_wp2_with fail
              refine (small_c _ _ _ [g0] _ (hG _) true hsm).mono ?_
              rintro e64 e64w ⟨rfl, rfl⟩
              replace hst := hst.alloc (.cells #[.int .i64 g0.r, .int .i64 g0.c, .slice g0.a g0.n g0.cap] 24)
              clear hG hsm r63l r63a r63b r63c
              obtain ⟨r65l, r65a, r65b, r65c, _, _, _⟩ := (hst.get (b := w.heap.size) (g := g0) (by simp)).box
              go_wp2_with fail
              refine (copied_one _ _ g0 _ (grids_one g0 (hst.inn (b := w.heap.size) (g := g0) (by simp)) (by simp)) HSM.out).mono ?_
              rintro e w66 ⟨⟨qb, qo, qc, k, rfl, kin, hk, ql, q0, q1, q2⟩, hb⟩
              replace hst := (hst.alloc (.cells #[.int .i64 g0.r, .int .i64 g0.c, .slice g0.a g0.n g0.cap] 24)).below hb
              clear hb r65l r65a r65b r65c
              have HK := Lib.hid hk
              clear hk
              have qi : (0 : Int) < 1 := by omega
              replace hst := hst.push k kin 24
              go_wp2_with fail
              refine (rows_arg k.r k.c k.a k.n k.cap k.v _ (hst.inn (b := w66.heap.size) (g := k) (by simp)) fr to (by rw [HK.out.1, HK.out.2.1, HK.out.2.2.1]; exact HF.out) (by rw [HK.out.1]; exact HRI.out)).mono ?_
              rintro e w67 ⟨he, hb⟩
              replace hst := hst.below hb
              clear hb
              clear q0 q1 q2 ql qi
              unfold NoGrid at he
              subst he
              obtain ⟨r68l, r68a, r68b, r68c, _, _, _⟩ := (hst.get (b := w66.heap.size) (g := k) (by simp)).box
              replace hst := hst.zero 24
              go_wp2_with fail
              refine (cols_gr k R C fr to _ (hst.inn (b := w66.heap.size) (g := k) (by simp)) (HK.out.1.trans HG.out.1) (HK.out.2.1.trans HG.out.2.1) (HK.out.2.2.1.trans HG.out.2.2) hR hC hle u1 u3 fr to rfl rfl).mono ?_
              rintro e w69 ⟨hgot, hb⟩
              replace hst := hst.below hb
              clear hb r68l r68a r68b r68c
              obtain ⟨b, rfl, k1, k2, k3, k4, bin⟩ := hgot
              have Hb := Lib.hid (And.intro k1 (And.intro k2 (And.intro k3 k4)))
              clear k1 k2 k3 k4
              obtain ⟨r70l, r70a, r70b, r70c, _, _, _⟩ := (hst.get (b := w66.heap.size) (g := k) (by simp)).box
              replace hst := hst.push b bin 24
              go_wp2_with fail
              refine (turn_gr k R C _ (hst.inn (b := w66.heap.size) (g := k) (by simp)) (HK.out.1.trans HG.out.1) (HK.out.2.1.trans HG.out.2.1) (HK.out.2.2.1.trans HG.out.2.2) hR hC hle).mono ?_
              rintro e w71 ⟨hgot, hb⟩
              replace hst := hst.below hb
              clear hb r70l r70a r70b r70c
              obtain ⟨t, rfl, k1, k2, k3, k4, tin⟩ := hgot
              have Ht := Lib.hid (And.intro k1 (And.intro k2 (And.intro k3 k4)))
              clear k1 k2 k3 k4
              obtain ⟨r72l, r72a, r72b, r72c, _, _, _⟩ := (hst.get (b := w66.heap.size) (g := k) (by simp)).box
              obtain ⟨r73l, r73a, r73b, r73c, _, _, _⟩ := (hst.get (b := w.heap.size) (g := g0) (by simp)).box
              replace hst := hst.push t tin 24
              go_wp2_with fail
              refine (same_gr k g0 _ (hst.inn (b := w66.heap.size) (g := k) (by simp)) (hst.inn (b := w.heap.size) (g := g0) (by simp)) HK.out.1 HK.out.2.1 HK.out.2.2.1 HK.out.2.2.2).mono ?_
              rintro e w74 ⟨rfl, hb⟩
              replace hst := hst.below hb
              clear hb r72l r72a r72b r72c r73l r73a r73b r73c
              obtain ⟨r75l, r75a, r75b, r75c, _, _, _⟩ := (hst.get (b := w.heap.size) (g := g0) (by simp)).box
              go_wp2_with fail
              refine (ref_fit g0.r g0.c g0.a g0.n g0.cap _ (hst.inn (b := w.heap.size) (g := g0) (by simp)).1.2.1 true HF.out).mono ?_
              rintro e w76 ⟨rfl, hb⟩
              replace hst := hst.below hb
              clear hb r75l r75a r75b r75c
              obtain ⟨r77l, r77a, r77b, r77c, _, _, _⟩ := (hst.get (b := w71.heap.size) (g := t) (by simp)).box
              obtain ⟨r78l, r78a, r78b, r78c, _, _, _⟩ := (hst.get (b := w.heap.size) (g := g0) (by simp)).box
              have hx1 : Below w76.heap.size w76 w76.drew := (Below.refl _ _).drew
              have ba := (hst.get (b := w71.heap.size) (g := t) (by simp)).box
              have bb := (hst.get (b := w.heap.size) (g := g0) (by simp)).box
              have ia := Lib.hid (hst.inn (b := w71.heap.size) (g := t) (by simp))
              have ib := Lib.hid (hst.inn (b := w.heap.size) (g := g0) (by simp))
              have HVV := Lib.hid (show t.v = tab C R (fun i j => g0.v.getD (j * C + i) 0) from by rw [Ht.out.2.2.2, HK.out.2.2.2])
              go_wp2_with fail
              go_region_held3 (fun w' => w'.cell? ⟨w71.heap.size, 0, none⟩ = some (.int .i64 t.r) ∧ w'.cell? ⟨w71.heap.size, 1, none⟩ = some (.int .i64 t.c) ∧ w'.cell? ⟨w71.heap.size, 2, none⟩ = some (.slice t.a t.n t.cap) ∧
                  w'.cell? ⟨w.heap.size, 0, none⟩ = some (.int .i64 g0.r) ∧ w'.cell? ⟨w.heap.size, 1, none⟩ = some (.int .i64 g0.c) ∧ w'.cell? ⟨w.heap.size, 2, none⟩ = some (.slice g0.a g0.n g0.cap))
                (first | go_keep | (go_split_ands; refine ⟨?_, ?_, ?_, ?_, ?_, ?_⟩ <;> assumption))
                (first
                  | (go_at_call 26; (with_reducible refine (ref_turn_p g0 R C _ (ib.out.below hx1) HG.out.1 HG.out.2.1 HG.out.2.2 hR hC t.r t.c t.n Ht.out.1 Ht.out.2.1 Ht.out.2.2.1).mono ?_); rintro e ws ⟨⟨ua, ucap, rfl, hEu⟩, hs1⟩
                     have hS1 := below_two hx1 hs1
                     obtain ⟨_, b0, b1, b2, _, _, _⟩ := ba.below hS1
                     obtain ⟨_, b3, b4, b5, _, _, _⟩ := bb.below hS1
                     have R2 := held_ref t ua ucap _ ws (ia.out.below hS1) hEu HVV.out)
                  | (go_at_call 25; (with_reducible refine R2.mono ?_); rintro e wt ⟨rfl, hs2⟩
                     have hS2 := below_two hS1 hs2
                     obtain ⟨_, c0, c1, c2, _, _, _⟩ := ba.below hS2
                     obtain ⟨_, c3, c4, c5, _, _, _⟩ := bb.below hS2))
              replace hst := hst.below hS2
              clear hS2 hS1 hs1 hs2 hx1 ba bb ia ib HVV R2 hEu b0 b1 b2 b3 b4 b5 c0 c1 c2 c3 c4 c5 r77l r77a r77b r77c r78l r78a r78b r78c
              obtain ⟨m1, m2, m3, m4, _, _, _⟩ := (hst.get (b := w67.heap.size) (g := (⟨0, 0, none, 0, 0, []⟩ : Gr)) (by simp)).box
              simp only at m2 m3 m4
              obtain ⟨r79l, r79a, r79b, r79c, _, _, _⟩ := (hst.get (b := w.heap.size) (g := g0) (by simp)).box
              go_wp2_with fail
              refine (same_yes 0 0 none none 0 0 0 [] _ (Elems.nil_ _ _ _) (Elems.nil_ _ _ _)).mono ?_
              rintro e w80 ⟨rfl, hb⟩
              replace hst := hst.below hb
              clear hb r79l r79a r79b r79c
              clear m1 m2 m3 m4
              obtain ⟨r81l, r81a, r81b, r81c, _, _, _⟩ := (hst.get (b := w69.heap.size) (g := b) (by simp)).box
              obtain ⟨r82l, r82a, r82b, r82c, _, _, _⟩ := (hst.get (b := w.heap.size) (g := g0) (by simp)).box
              have hx1 : Below w80.heap.size w80 w80.drew := (Below.refl _ _).drew
              have ba := (hst.get (b := w69.heap.size) (g := b) (by simp)).box
              have bb := (hst.get (b := w.heap.size) (g := g0) (by simp)).box
              have ia := Lib.hid (hst.inn (b := w69.heap.size) (g := b) (by simp))
              have ib := Lib.hid (hst.inn (b := w.heap.size) (g := g0) (by simp))
              have HVV := Lib.hid (show b.v = tab (R - 0) (to - fr) (fun i j => g0.v.getD ((0 + i) * C + (fr + j)) 0) from by rw [Hb.out.2.2.2, HK.out.2.2.2, Nat.sub_zero]; exact tab_congr _ _ _ _ fun i j _ _ => by rw [Nat.zero_add])
              go_wp2_with fail
              go_region_held3 (fun w' => w'.cell? ⟨w69.heap.size, 0, none⟩ = some (.int .i64 b.r) ∧ w'.cell? ⟨w69.heap.size, 1, none⟩ = some (.int .i64 b.c) ∧ w'.cell? ⟨w69.heap.size, 2, none⟩ = some (.slice b.a b.n b.cap) ∧
                  w'.cell? ⟨w.heap.size, 0, none⟩ = some (.int .i64 g0.r) ∧ w'.cell? ⟨w.heap.size, 1, none⟩ = some (.int .i64 g0.c) ∧ w'.cell? ⟨w.heap.size, 2, none⟩ = some (.slice g0.a g0.n g0.cap))
                (first | go_keep | (go_split_ands; refine ⟨?_, ?_, ?_, ?_, ?_, ?_⟩ <;> assumption))
                (first
                  | (go_at_call 27; (with_reducible refine (ref_part_p g0 R C 0 R fr to _ (ib.out.below hx1) HG.out.1 HG.out.2.1 HG.out.2.2 hR hC (Nat.zero_le _) (Nat.le_refl _) u1 u3 0 g0.r fr to rfl HG.out.1 rfl rfl b.r b.c b.n (by rw [Nat.sub_zero]; exact Hb.out.1) Hb.out.2.1 (by rw [Nat.sub_zero]; exact Hb.out.2.2.1)).mono ?_); rintro e ws ⟨⟨ua, ucap, rfl, hEu⟩, hs1⟩
                     have hS1 := below_two hx1 hs1
                     obtain ⟨_, b0, b1, b2, _, _, _⟩ := ba.below hS1
                     obtain ⟨_, b3, b4, b5, _, _, _⟩ := bb.below hS1
                     have R2 := held_ref b ua ucap _ ws (ia.out.below hS1) hEu HVV.out)
                  | (go_at_call 25; (with_reducible refine R2.mono ?_); rintro e wt ⟨rfl, hs2⟩
                     have hS2 := below_two hS1 hs2
                     obtain ⟨_, c0, c1, c2, _, _, _⟩ := ba.below hS2
                     obtain ⟨_, c3, c4, c5, _, _, _⟩ := bb.below hS2))
              replace hst := hst.below hS2
              clear hS2 hS1 hs1 hs2 hx1 ba bb ia ib HVV R2 hEu b0 b1 b2 b3 b4 b5 c0 c1 c2 c3 c4 c5 r81l r81a r81b r81c r82l r82a r82b r82c
              have hB := hst.bel
              clear hst
              go_wp2
              go_ret
              exact ⟨rfl, hB⟩
            ·
              have nr := HG.out.1
              have nc := HG.out.2.1
              have y4 : g0.r < (to : Int) := by omega
              have y3 : g0.c < (to : Int) := by omega
              have HRI := Lib.hid (show decide (0 ≤ (fr : Int) ∧ (fr : Int) ≤ (to : Int) ∧ (to : Int) ≤ g0.r) = false from decide_eq_false (by omega))
              have HCI := Lib.hid (show decide (0 ≤ (fr : Int) ∧ (fr : Int) ≤ (to : Int) ∧ (to : Int) ≤ g0.c) = false from decide_eq_false (by omega))
              clear x1 x2
              clear nr nc
              go_enter Try.func4, Try.ntmps4
              go_wp2_with fail
              refine (awake _).mono ?_
              rintro e w83 ⟨rfl, hb⟩
              replace hst := hst.below hb
              clear hb
              obtain ⟨r84l, r84a, r84b, r84c, _, _, _⟩ := (hst.get (b := w.heap.size) (g := g0) (by simp)).box
              have hG := fun T => grids_one (T := T) (b := w83.heap.size) g0 (hst.inn (b := w.heap.size) (g := g0) (by simp)) rfl
              go_wp2_with fail
              refine (small_c _ _ _ [g0] _ (hG _) true hsm).mono ?_
              rintro e85 e85w ⟨rfl, rfl⟩
              replace hst := hst.alloc (.cells #[.int .i64 g0.r, .int .i64 g0.c, .slice g0.a g0.n g0.cap] 24)
              clear hG hsm r84l r84a r84b r84c
              obtain ⟨r86l, r86a, r86b, r86c, _, _, _⟩ := (hst.get (b := w.heap.size) (g := g0) (by simp)).box
              go_wp2_with fail
              refine (copied_one _ _ g0 _ (grids_one g0 (hst.inn (b := w.heap.size) (g := g0) (by simp)) (by simp)) HSM.out).mono ?_
              rintro e w87 ⟨⟨qb, qo, qc, k, rfl, kin, hk, ql, q0, q1, q2⟩, hb⟩
              replace hst := (hst.alloc (.cells #[.int .i64 g0.r, .int .i64 g0.c, .slice g0.a g0.n g0.cap] 24)).below hb
              clear hb r86l r86a r86b r86c
              have HK := Lib.hid hk
              clear hk
              have qi : (0 : Int) < 1 := by omega
              replace hst := hst.push k kin 24
              go_wp2_with fail
              refine (rows_arg k.r k.c k.a k.n k.cap k.v _ (hst.inn (b := w87.heap.size) (g := k) (by simp)) fr to (by rw [HK.out.1, HK.out.2.1, HK.out.2.2.1]; exact HF.out) (by rw [HK.out.1]; exact HRI.out)).mono ?_
              rintro e w88 ⟨he, hb⟩
              replace hst := hst.below hb
              clear hb
              clear q0 q1 q2 ql qi
              unfold NoGrid at he
              subst he
              obtain ⟨r89l, r89a, r89b, r89c, _, _, _⟩ := (hst.get (b := w87.heap.size) (g := k) (by simp)).box
              replace hst := hst.zero 24
              go_wp2_with fail
              refine (cols_arg k.r k.c k.a k.n k.cap k.v _ (hst.inn (b := w87.heap.size) (g := k) (by simp)) fr to (by rw [HK.out.1, HK.out.2.1, HK.out.2.2.1]; exact HF.out) (by rw [HK.out.2.1]; exact HCI.out)).mono ?_
              rintro e w90 ⟨he, hb⟩
              replace hst := hst.below hb
              clear hb r89l r89a r89b r89c
              unfold NoGrid at he
              subst he
              obtain ⟨r91l, r91a, r91b, r91c, _, _, _⟩ := (hst.get (b := w87.heap.size) (g := k) (by simp)).box
              replace hst := hst.zero 24
              go_wp2_with fail
              refine (turn_gr k R C _ (hst.inn (b := w87.heap.size) (g := k) (by simp)) (HK.out.1.trans HG.out.1) (HK.out.2.1.trans HG.out.2.1) (HK.out.2.2.1.trans HG.out.2.2) hR hC hle).mono ?_
              rintro e w92 ⟨hgot, hb⟩
              replace hst := hst.below hb
              clear hb r91l r91a r91b r91c
              obtain ⟨t, rfl, k1, k2, k3, k4, tin⟩ := hgot
              have Ht := Lib.hid (And.intro k1 (And.intro k2 (And.intro k3 k4)))
              clear k1 k2 k3 k4
              obtain ⟨r93l, r93a, r93b, r93c, _, _, _⟩ := (hst.get (b := w87.heap.size) (g := k) (by simp)).box
              obtain ⟨r94l, r94a, r94b, r94c, _, _, _⟩ := (hst.get (b := w.heap.size) (g := g0) (by simp)).box
              replace hst := hst.push t tin 24
              go_wp2_with fail
              refine (same_gr k g0 _ (hst.inn (b := w87.heap.size) (g := k) (by simp)) (hst.inn (b := w.heap.size) (g := g0) (by simp)) HK.out.1 HK.out.2.1 HK.out.2.2.1 HK.out.2.2.2).mono ?_
              rintro e w95 ⟨rfl, hb⟩
              replace hst := hst.below hb
              clear hb r93l r93a r93b r93c r94l r94a r94b r94c
              obtain ⟨r96l, r96a, r96b, r96c, _, _, _⟩ := (hst.get (b := w.heap.size) (g := g0) (by simp)).box
              go_wp2_with fail
              refine (ref_fit g0.r g0.c g0.a g0.n g0.cap _ (hst.inn (b := w.heap.size) (g := g0) (by simp)).1.2.1 true HF.out).mono ?_
              rintro e w97 ⟨rfl, hb⟩
              replace hst := hst.below hb
              clear hb r96l r96a r96b r96c
              obtain ⟨r98l, r98a, r98b, r98c, _, _, _⟩ := (hst.get (b := w92.heap.size) (g := t) (by simp)).box
              obtain ⟨r99l, r99a, r99b, r99c, _, _, _⟩ := (hst.get (b := w.heap.size) (g := g0) (by simp)).box
              have hx1 : Below w97.heap.size w97 w97.drew := (Below.refl _ _).drew
              have ba := (hst.get (b := w92.heap.size) (g := t) (by simp)).box
              have bb := (hst.get (b := w.heap.size) (g := g0) (by simp)).box
              have ia := Lib.hid (hst.inn (b := w92.heap.size) (g := t) (by simp))
              have ib := Lib.hid (hst.inn (b := w.heap.size) (g := g0) (by simp))
              have HVV := Lib.hid (show t.v = tab C R (fun i j => g0.v.getD (j * C + i) 0) from by rw [Ht.out.2.2.2, HK.out.2.2.2])
              go_wp2_with fail
              go_region_held3 (fun w' => w'.cell? ⟨w92.heap.size, 0, none⟩ = some (.int .i64 t.r) ∧ w'.cell? ⟨w92.heap.size, 1, none⟩ = some (.int .i64 t.c) ∧ w'.cell? ⟨w92.heap.size, 2, none⟩ = some (.slice t.a t.n t.cap) ∧
                  w'.cell? ⟨w.heap.size, 0, none⟩ = some (.int .i64 g0.r) ∧ w'.cell? ⟨w.heap.size, 1, none⟩ = some (.int .i64 g0.c) ∧ w'.cell? ⟨w.heap.size, 2, none⟩ = some (.slice g0.a g0.n g0.cap))
                (first | go_keep | (go_split_ands; refine ⟨?_, ?_, ?_, ?_, ?_, ?_⟩ <;> assumption))
                (first
                  | (go_at_call 26; (with_reducible refine (ref_turn_p g0 R C _ (ib.out.below hx1) HG.out.1 HG.out.2.1 HG.out.2.2 hR hC t.r t.c t.n Ht.out.1 Ht.out.2.1 Ht.out.2.2.1).mono ?_); rintro e ws ⟨⟨ua, ucap, rfl, hEu⟩, hs1⟩
                     have hS1 := below_two hx1 hs1
                     obtain ⟨_, b0, b1, b2, _, _, _⟩ := ba.below hS1
                     obtain ⟨_, b3, b4, b5, _, _, _⟩ := bb.below hS1
                     have R2 := held_ref t ua ucap _ ws (ia.out.below hS1) hEu HVV.out)
                  | (go_at_call 25; (with_reducible refine R2.mono ?_); rintro e wt ⟨rfl, hs2⟩
                     have hS2 := below_two hS1 hs2
                     obtain ⟨_, c0, c1, c2, _, _, _⟩ := ba.below hS2
                     obtain ⟨_, c3, c4, c5, _, _, _⟩ := bb.below hS2))
              replace hst := hst.below hS2
              clear hS2 hS1 hs1 hs2 hx1 ba bb ia ib HVV R2 hEu b0 b1 b2 b3 b4 b5 c0 c1 c2 c3 c4 c5 r98l r98a r98b r98c r99l r99a r99b r99c
              obtain ⟨m1, m2, m3, m4, _, _, _⟩ := (hst.get (b := w88.heap.size) (g := (⟨0, 0, none, 0, 0, []⟩ : Gr)) (by simp)).box
              simp only at m2 m3 m4
              obtain ⟨r100l, r100a, r100b, r100c, _, _, _⟩ := (hst.get (b := w.heap.size) (g := g0) (by simp)).box
              go_wp2_with fail
              refine (same_yes 0 0 none none 0 0 0 [] _ (Elems.nil_ _ _ _) (Elems.nil_ _ _ _)).mono ?_
              rintro e w101 ⟨rfl, hb⟩
              replace hst := hst.below hb
              clear hb r100l r100a r100b r100c
              clear m1 m2 m3 m4
              obtain ⟨m1, m2, m3, m4, _, _, _⟩ := (hst.get (b := w90.heap.size) (g := (⟨0, 0, none, 0, 0, []⟩ : Gr)) (by simp)).box
              simp only at m2 m3 m4
              obtain ⟨r102l, r102a, r102b, r102c, _, _, _⟩ := (hst.get (b := w.heap.size) (g := g0) (by simp)).box
              go_wp2_with fail
              refine (same_yes 0 0 none none 0 0 0 [] _ (Elems.nil_ _ _ _) (Elems.nil_ _ _ _)).mono ?_
              rintro e w103 ⟨rfl, hb⟩
              replace hst := hst.below hb
              clear hb r102l r102a r102b r102c
              clear m1 m2 m3 m4
              have hB := hst.bel
              clear hst
              go_wp2
              go_ret
              exact ⟨rfl, hB⟩
        ·
          have nr := HG.out.1
          have nc := HG.out.2.1
          have HRI := Lib.hid (show decide (0 ≤ a1 ∧ a1 ≤ a2 ∧ a2 ≤ g0.r) = false from decide_eq_false (by omega))
          have HCI := Lib.hid (show decide (0 ≤ a1 ∧ a1 ≤ a2 ∧ a2 ≤ g0.c) = false from decide_eq_false (by omega))
          clear x1 x2
          clear nr nc
          go_enter Try.func4, Try.ntmps4
          go_wp2_with fail
          refine (awake _).mono ?_
          rintro e w104 ⟨rfl, hb⟩
          replace hst := hst.below hb
          clear hb
          obtain ⟨r105l, r105a, r105b, r105c, _, _, _⟩ := (hst.get (b := w.heap.size) (g := g0) (by simp)).box
          have hG := fun T => grids_one (T := T) (b := w104.heap.size) g0 (hst.inn (b := w.heap.size) (g := g0) (by simp)) rfl
          go_wp2_with fail
          refine (small_c _ _ _ [g0] _ (hG _) true hsm).mono ?_
          rintro e106 e106w ⟨rfl, rfl⟩
          replace hst := hst.alloc (.cells #[.int .i64 g0.r, .int .i64 g0.c, .slice g0.a g0.n g0.cap] 24)
          clear hG hsm r105l r105a r105b r105c
          obtain ⟨r107l, r107a, r107b, r107c, _, _, _⟩ := (hst.get (b := w.heap.size) (g := g0) (by simp)).box
          go_wp2_with fail
          refine (copied_one _ _ g0 _ (grids_one g0 (hst.inn (b := w.heap.size) (g := g0) (by simp)) (by simp)) HSM.out).mono ?_
          rintro e w108 ⟨⟨qb, qo, qc, k, rfl, kin, hk, ql, q0, q1, q2⟩, hb⟩
          replace hst := (hst.alloc (.cells #[.int .i64 g0.r, .int .i64 g0.c, .slice g0.a g0.n g0.cap] 24)).below hb
          clear hb r107l r107a r107b r107c
          have HK := Lib.hid hk
          clear hk
          have qi : (0 : Int) < 1 := by omega
          replace hst := hst.push k kin 24
          go_wp2_with fail
          refine (rows_arg k.r k.c k.a k.n k.cap k.v _ (hst.inn (b := w108.heap.size) (g := k) (by simp)) a1 a2 (by rw [HK.out.1, HK.out.2.1, HK.out.2.2.1]; exact HF.out) (by rw [HK.out.1]; exact HRI.out)).mono ?_
          rintro e w109 ⟨he, hb⟩
          replace hst := hst.below hb
          clear hb
          clear q0 q1 q2 ql qi
          unfold NoGrid at he
          subst he
          obtain ⟨r110l, r110a, r110b, r110c, _, _, _⟩ := (hst.get (b := w108.heap.size) (g := k) (by simp)).box
          replace hst := hst.zero 24
          go_wp2_with fail
          refine (cols_arg k.r k.c k.a k.n k.cap k.v _ (hst.inn (b := w108.heap.size) (g := k) (by simp)) a1 a2 (by rw [HK.out.1, HK.out.2.1, HK.out.2.2.1]; exact HF.out) (by rw [HK.out.2.1]; exact HCI.out)).mono ?_
          rintro e w111 ⟨he, hb⟩
          replace hst := hst.below hb
          clear hb r110l r110a r110b r110c
          unfold NoGrid at he
          subst he
          obtain ⟨r112l, r112a, r112b, r112c, _, _, _⟩ := (hst.get (b := w108.heap.size) (g := k) (by simp)).box
          replace hst := hst.zero 24
          go_wp2_with fail
          refine (turn_gr k R C _ (hst.inn (b := w108.heap.size) (g := k) (by simp)) (HK.out.1.trans HG.out.1) (HK.out.2.1.trans HG.out.2.1) (HK.out.2.2.1.trans HG.out.2.2) hR hC hle).mono ?_
          rintro e w113 ⟨hgot, hb⟩
          replace hst := hst.below hb
          clear hb r112l r112a r112b r112c
          obtain ⟨t, rfl, k1, k2, k3, k4, tin⟩ := hgot
          have Ht := Lib.hid (And.intro k1 (And.intro k2 (And.intro k3 k4)))
          clear k1 k2 k3 k4
          obtain ⟨r114l, r114a, r114b, r114c, _, _, _⟩ := (hst.get (b := w108.heap.size) (g := k) (by simp)).box
          obtain ⟨r115l, r115a, r115b, r115c, _, _, _⟩ := (hst.get (b := w.heap.size) (g := g0) (by simp)).box
          replace hst := hst.push t tin 24
          go_wp2_with fail
          refine (same_gr k g0 _ (hst.inn (b := w108.heap.size) (g := k) (by simp)) (hst.inn (b := w.heap.size) (g := g0) (by simp)) HK.out.1 HK.out.2.1 HK.out.2.2.1 HK.out.2.2.2).mono ?_
          rintro e w116 ⟨rfl, hb⟩
          replace hst := hst.below hb
          clear hb r114l r114a r114b r114c r115l r115a r115b r115c
          obtain ⟨r117l, r117a, r117b, r117c, _, _, _⟩ := (hst.get (b := w.heap.size) (g := g0) (by simp)).box
          go_wp2_with fail
          refine (ref_fit g0.r g0.c g0.a g0.n g0.cap _ (hst.inn (b := w.heap.size) (g := g0) (by simp)).1.2.1 true HF.out).mono ?_
          rintro e w118 ⟨rfl, hb⟩
          replace hst := hst.below hb
          clear hb r117l r117a r117b r117c
          obtain ⟨r119l, r119a, r119b, r119c, _, _, _⟩ := (hst.get (b := w113.heap.size) (g := t) (by simp)).box
          obtain ⟨r120l, r120a, r120b, r120c, _, _, _⟩ := (hst.get (b := w.heap.size) (g := g0) (by simp)).box
          have hx1 : Below w118.heap.size w118 w118.drew := (Below.refl _ _).drew
          have ba := (hst.get (b := w113.heap.size) (g := t) (by simp)).box
          have bb := (hst.get (b := w.heap.size) (g := g0) (by simp)).box
          have ia := Lib.hid (hst.inn (b := w113.heap.size) (g := t) (by simp))
          have ib := Lib.hid (hst.inn (b := w.heap.size) (g := g0) (by simp))
          have HVV := Lib.hid (show t.v = tab C R (fun i j => g0.v.getD (j * C + i) 0) from by rw [Ht.out.2.2.2, HK.out.2.2.2])
          go_wp2_with fail
          go_region_held3 (fun w' => w'.cell? ⟨w113.heap.size, 0, none⟩ = some (.int .i64 t.r) ∧ w'.cell? ⟨w113.heap.size, 1, none⟩ = some (.int .i64 t.c) ∧ w'.cell? ⟨w113.heap.size, 2, none⟩ = some (.slice t.a t.n t.cap) ∧
              w'.cell? ⟨w.heap.size, 0, none⟩ = some (.int .i64 g0.r) ∧ w'.cell? ⟨w.heap.size, 1, none⟩ = some (.int .i64 g0.c) ∧ w'.cell? ⟨w.heap.size, 2, none⟩ = some (.slice g0.a g0.n g0.cap))
            (first | go_keep | (go_split_ands; refine ⟨?_, ?_, ?_, ?_, ?_, ?_⟩ <;> assumption))
            (first
              | (go_at_call 26; (with_reducible refine (ref_turn_p g0 R C _ (ib.out.below hx1) HG.out.1 HG.out.2.1 HG.out.2.2 hR hC t.r t.c t.n Ht.out.1 Ht.out.2.1 Ht.out.2.2.1).mono ?_); rintro e ws ⟨⟨ua, ucap, rfl, hEu⟩, hs1⟩
                 have hS1 := below_two hx1 hs1
                 obtain ⟨_, b0, b1, b2, _, _, _⟩ := ba.below hS1
                 obtain ⟨_, b3, b4, b5, _, _, _⟩ := bb.below hS1
                 have R2 := held_ref t ua ucap _ ws (ia.out.below hS1) hEu HVV.out)
              | (go_at_call 25; (with_reducible refine R2.mono ?_); rintro e wt ⟨rfl, hs2⟩
                 have hS2 := below_two hS1 hs2
                 obtain ⟨_, c0, c1, c2, _, _, _⟩ := ba.below hS2
                 obtain ⟨_, c3, c4, c5, _, _, _⟩ := bb.below hS2))
          replace hst := hst.below hS2
          clear hS2 hS1 hs1 hs2 hx1 ba bb ia ib HVV R2 hEu b0 b1 b2 b3 b4 b5 c0 c1 c2 c3 c4 c5 r119l r119a r119b r119c r120l r120a r120b r120c
          obtain ⟨m1, m2, m3, m4, _, _, _⟩ := (hst.get (b := w109.heap.size) (g := (⟨0, 0, none, 0, 0, []⟩ : Gr)) (by simp)).box
          simp only at m2 m3 m4
          obtain ⟨r121l, r121a, r121b, r121c, _, _, _⟩ := (hst.get (b := w.heap.size) (g := g0) (by simp)).box
          go_wp2_with fail
          refine (same_yes 0 0 none none 0 0 0 [] _ (Elems.nil_ _ _ _) (Elems.nil_ _ _ _)).mono ?_
          rintro e w122 ⟨rfl, hb⟩
          replace hst := hst.below hb
          clear hb r121l r121a r121b r121c
          clear m1 m2 m3 m4
          obtain ⟨m1, m2, m3, m4, _, _, _⟩ := (hst.get (b := w111.heap.size) (g := (⟨0, 0, none, 0, 0, []⟩ : Gr)) (by simp)).box
          simp only at m2 m3 m4
          obtain ⟨r123l, r123a, r123b, r123c, _, _, _⟩ := (hst.get (b := w.heap.size) (g := g0) (by simp)).box
          go_wp2_with fail
          refine (same_yes 0 0 none none 0 0 0 [] _ (Elems.nil_ _ _ _) (Elems.nil_ _ _ _)).mono ?_
          rintro e w124 ⟨rfl, hb⟩
          replace hst := hst.below hb
          clear hb r123l r123a r123b r123c
          clear m1 m2 m3 m4
          have hB := hst.bel
          clear hst
          go_wp2
          go_ret
          exact ⟨rfl, hB⟩
      ·
        have nr := HG.out.1
        have nc := HG.out.2.1
        have HRI := Lib.hid (show decide (0 ≤ a1 ∧ a1 ≤ a2 ∧ a2 ≤ g0.r) = false from decide_eq_false (by omega))
        have HCI := Lib.hid (show decide (0 ≤ a1 ∧ a1 ≤ a2 ∧ a2 ≤ g0.c) = false from decide_eq_false (by omega))
        clear x1 x2
        clear nr nc
        go_enter Try.func4, Try.ntmps4
        go_wp2_with fail
        refine (awake _).mono ?_
        rintro e w125 ⟨rfl, hb⟩
        replace hst := hst.below hb
        clear hb
        obtain ⟨r126l, r126a, r126b, r126c, _, _, _⟩ := (hst.get (b := w.heap.size) (g := g0) (by simp)).box
        have hG := fun T => grids_one (T := T) (b := w125.heap.size) g0 (hst.inn (b := w.heap.size) (g := g0) (by simp)) rfl
        go_wp2_with fail
        refine (small_c _ _ _ [g0] _ (hG _) true hsm).mono ?_
        rintro e127 e127w ⟨rfl, rfl⟩
        replace hst := hst.alloc (.cells #[.int .i64 g0.r, .int .i64 g0.c, .slice g0.a g0.n g0.cap] 24)
        clear hG hsm r126l r126a r126b r126c
        obtain ⟨r128l, r128a, r128b, r128c, _, _, _⟩ := (hst.get (b := w.heap.size) (g := g0) (by simp)).box
        go_wp2_with fail
        refine (copied_one _ _ g0 _ (grids_one g0 (hst.inn (b := w.heap.size) (g := g0) (by simp)) (by simp)) HSM.out).mono ?_
        rintro e w129 ⟨⟨qb, qo, qc, k, rfl, kin, hk, ql, q0, q1, q2⟩, hb⟩
        replace hst := (hst.alloc (.cells #[.int .i64 g0.r, .int .i64 g0.c, .slice g0.a g0.n g0.cap] 24)).below hb
        clear hb r128l r128a r128b r128c
        have HK := Lib.hid hk
        clear hk
        have qi : (0 : Int) < 1 := by omega
        replace hst := hst.push k kin 24
        go_wp2_with fail
        refine (rows_arg k.r k.c k.a k.n k.cap k.v _ (hst.inn (b := w129.heap.size) (g := k) (by simp)) a1 a2 (by rw [HK.out.1, HK.out.2.1, HK.out.2.2.1]; exact HF.out) (by rw [HK.out.1]; exact HRI.out)).mono ?_
        rintro e w130 ⟨he, hb⟩
        replace hst := hst.below hb
        clear hb
        clear q0 q1 q2 ql qi
        unfold NoGrid at he
        subst he
        obtain ⟨r131l, r131a, r131b, r131c, _, _, _⟩ := (hst.get (b := w129.heap.size) (g := k) (by simp)).box
        replace hst := hst.zero 24
        go_wp2_with fail
        refine (cols_arg k.r k.c k.a k.n k.cap k.v _ (hst.inn (b := w129.heap.size) (g := k) (by simp)) a1 a2 (by rw [HK.out.1, HK.out.2.1, HK.out.2.2.1]; exact HF.out) (by rw [HK.out.2.1]; exact HCI.out)).mono ?_
        rintro e w132 ⟨he, hb⟩
        replace hst := hst.below hb
        clear hb r131l r131a r131b r131c
        unfold NoGrid at he
        subst he
        obtain ⟨r133l, r133a, r133b, r133c, _, _, _⟩ := (hst.get (b := w129.heap.size) (g := k) (by simp)).box
        replace hst := hst.zero 24
        go_wp2_with fail
        refine (turn_gr k R C _ (hst.inn (b := w129.heap.size) (g := k) (by simp)) (HK.out.1.trans HG.out.1) (HK.out.2.1.trans HG.out.2.1) (HK.out.2.2.1.trans HG.out.2.2) hR hC hle).mono ?_
        rintro e w134 ⟨hgot, hb⟩
        replace hst := hst.below hb
        clear hb r133l r133a r133b r133c
        obtain ⟨t, rfl, k1, k2, k3, k4, tin⟩ := hgot
        have Ht := Lib.hid (And.intro k1 (And.intro k2 (And.intro k3 k4)))
        clear k1 k2 k3 k4
        obtain ⟨r135l, r135a, r135b, r135c, _, _, _⟩ := (hst.get (b := w129.heap.size) (g := k) (by simp)).box
        obtain ⟨r136l, r136a, r136b, r136c, _, _, _⟩ := (hst.get (b := w.heap.size) (g := g0) (by simp)).box
        replace hst := hst.push t tin 24
        go_wp2_with fail
        refine (same_gr k g0 _ (hst.inn (b := w129.heap.size) (g := k) (by simp)) (hst.inn (b := w.heap.size) (g := g0) (by simp)) HK.out.1 HK.out.2.1 HK.out.2.2.1 HK.out.2.2.2).mono ?_
        rintro e w137 ⟨rfl, hb⟩
        replace hst := hst.below hb
        clear hb r135l r135a r135b r135c r136l r136a r136b r136c
        obtain ⟨r138l, r138a, r138b, r138c, _, _, _⟩ := (hst.get (b := w.heap.size) (g := g0) (by simp)).box
        go_wp2_with fail
        refine (ref_fit g0.r g0.c g0.a g0.n g0.cap _ (hst.inn (b := w.heap.size) (g := g0) (by simp)).1.2.1 true HF.out).mono ?_
        rintro e w139 ⟨rfl, hb⟩
        replace hst := hst.below hb
        clear hb r138l r138a r138b r138c
        obtain ⟨r140l, r140a, r140b, r140c, _, _, _⟩ := (hst.get (b := w134.heap.size) (g := t) (by simp)).box
        obtain ⟨r141l, r141a, r141b, r141c, _, _, _⟩ := (hst.get (b := w.heap.size) (g := g0) (by simp)).box
        have hx1 : Below w139.heap.size w139 w139.drew := (Below.refl _ _).drew
        have ba := (hst.get (b := w134.heap.size) (g := t) (by simp)).box
        have bb := (hst.get (b := w.heap.size) (g := g0) (by simp)).box
        have ia := Lib.hid (hst.inn (b := w134.heap.size) (g := t) (by simp))
        have ib := Lib.hid (hst.inn (b := w.heap.size) (g := g0) (by simp))
        have HVV := Lib.hid (show t.v = tab C R (fun i j => g0.v.getD (j * C + i) 0) from by rw [Ht.out.2.2.2, HK.out.2.2.2])
        go_wp2_with fail
        go_region_held3 (fun w' => w'.cell? ⟨w134.heap.size, 0, none⟩ = some (.int .i64 t.r) ∧ w'.cell? ⟨w134.heap.size, 1, none⟩ = some (.int .i64 t.c) ∧ w'.cell? ⟨w134.heap.size, 2, none⟩ = some (.slice t.a t.n t.cap) ∧
            w'.cell? ⟨w.heap.size, 0, none⟩ = some (.int .i64 g0.r) ∧ w'.cell? ⟨w.heap.size, 1, none⟩ = some (.int .i64 g0.c) ∧ w'.cell? ⟨w.heap.size, 2, none⟩ = some (.slice g0.a g0.n g0.cap))
          (first | go_keep | (go_split_ands; refine ⟨?_, ?_, ?_, ?_, ?_, ?_⟩ <;> assumption))
          (first
            | (go_at_call 26; (with_reducible refine (ref_turn_p g0 R C _ (ib.out.below hx1) HG.out.1 HG.out.2.1 HG.out.2.2 hR hC t.r t.c t.n Ht.out.1 Ht.out.2.1 Ht.out.2.2.1).mono ?_); rintro e ws ⟨⟨ua, ucap, rfl, hEu⟩, hs1⟩
               have hS1 := below_two hx1 hs1
               obtain ⟨_, b0, b1, b2, _, _, _⟩ := ba.below hS1
               obtain ⟨_, b3, b4, b5, _, _, _⟩ := bb.below hS1
               have R2 := held_ref t ua ucap _ ws (ia.out.below hS1) hEu HVV.out)
            | (go_at_call 25; (with_reducible refine R2.mono ?_); rintro e wt ⟨rfl, hs2⟩
               have hS2 := below_two hS1 hs2
               obtain ⟨_, c0, c1, c2, _, _, _⟩ := ba.below hS2
               obtain ⟨_, c3, c4, c5, _, _, _⟩ := bb.below hS2))
        replace hst := hst.below hS2
        clear hS2 hS1 hs1 hs2 hx1 ba bb ia ib HVV R2 hEu b0 b1 b2 b3 b4 b5 c0 c1 c2 c3 c4 c5 r140l r140a r140b r140c r141l r141a r141b r141c
        obtain ⟨m1, m2, m3, m4, _, _, _⟩ := (hst.get (b := w130.heap.size) (g := (⟨0, 0, none, 0, 0, []⟩ : Gr)) (by simp)).box
        simp only at m2 m3 m4
        obtain ⟨r142l, r142a, r142b, r142c, _, _, _⟩ := (hst.get (b := w.heap.size) (g := g0) (by simp)).box
        go_wp2_with fail
        refine (same_yes 0 0 none none 0 0 0 [] _ (Elems.nil_ _ _ _) (Elems.nil_ _ _ _)).mono ?_
        rintro e w143 ⟨rfl, hb⟩
        replace hst := hst.below hb
        clear hb r142l r142a r142b r142c
        clear m1 m2 m3 m4
        obtain ⟨m1, m2, m3, m4, _, _, _⟩ := (hst.get (b := w132.heap.size) (g := (⟨0, 0, none, 0, 0, []⟩ : Gr)) (by simp)).box
        simp only at m2 m3 m4
        obtain ⟨r144l, r144a, r144b, r144c, _, _, _⟩ := (hst.get (b := w.heap.size) (g := g0) (by simp)).box
        go_wp2_with fail
        refine (same_yes 0 0 none none 0 0 0 [] _ (Elems.nil_ _ _ _) (Elems.nil_ _ _ _)).mono ?_
        rintro e w145 ⟨rfl, hb⟩
        replace hst := hst.below hb
        clear hb r144l r144a r144b r144c
        clear m1 m2 m3 m4
        have hB := hst.bel
        clear hst
        go_wp2
        go_ret
        exact ⟨rfl, hB⟩

set_option maxRecDepth 100000 in
theorem lifted (os : Os) (started : os.Started) (H : Type) (enc : TypeId × Value → H) :
    ReturnsInHanded {} Try.checked os 4 .any (Rows.gridCutsSpec.pre6 enc Try.prog Try.f4 Rows.gridCutsRow.domain false) (Rows.gridCutsSpec.post enc Try.prog Try.f4 false true false false) := by
  refine returnsInHanded_of_change (C := Try.checked) own started (by kernel_rfl) Try.func4
    (ChangeSpec.witness6 (enc := enc) (C := Try.checked) false ⟨#[], #[.agg #[.int .i64 0, .int .i64 0, .slice none 0 0], .int .i64 0, .int .i64 0], []⟩ 8 (by kernel_rfl) (by kernel_rfl) (by kernel_rfl) (by kernel_rfl)) ?_
  intro W base args ds gs before hval0 hW hcnd _
  have hval : ∀ (j : Nat) t v, Try.f4.params[j]? = some t → args[j]? = some v → Value.okWide Try.prog W .any base t v := hval0
  have hW' := hW
  obtain ⟨p, q, hA0, hV, rfl, hfz, hnd⟩ := hW
  have hA : DataW.TrodAll enc Try.prog W 0 (fun _ => true) true Try.f4.params.toList args.toList ds p := hA0
  rw [Try.params4] at hA hval
  obtain ⟨v0, vs0, d0, ds0, p0, q0, hargs, rfl, rfl, h0, r0⟩ := trodAll_cons hA
  obtain ⟨v1, vs1, d1, ds1, p1, q1, rfl, rfl, rfl, h1, r1⟩ := trodAll_cons r0
  obtain ⟨v2, vs2, d2, ds2, p2, q2, rfl, rfl, rfl, h2, r2⟩ := trodAll_cons r1
  obtain ⟨rfl, rfl, rfl⟩ := trodAll_nil r2
  obtain rfl : args = #[v0, v1, v2] := by cases args; simp_all
  obtain ⟨rfl, rfl⟩ := trodVars_none hV
  have k0 := h0
  have lt0 : ∀ x ∈ p0, x.block < W.heap.size := by obtain ⟨m, hm⟩ := k0; exact DataW.trod_lt m _ _ _ hm
  obtain ⟨g0, rfl, w0⟩ := open_grid (hval 0 24 v0 rfl rfl) h0
  obtain ⟨a1, rfl, rfl, rfl, w1⟩ := open_int Try.underlying3 (hval 1 3 v1 rfl rfl) h1
  obtain ⟨a2, rfl, rfl, rfl, w2⟩ := open_int Try.underlying3 (hval 2 3 v2 rfl rfl) h2
  clear hA0 hval0
  refine (walk g0 a1 a2 W w0 w1 w2).mono fun e W' ⟨he, bel⟩ => ?_
  subst he
  exact ⟨_, rfl, _, _, _, [], _, [], hW', trodAll_mk1 (shut_bool Try.underlying4 _), (trodAll_cons_mk (Below.trod laidOut (by kernel_rfl) (of_decide_eq_true (by kernel_rfl)) k0 bel lt0) (trodAll_cons_mk (shut_int Try.underlying3 w1) (trodAll_cons_mk (shut_int Try.underlying3 w2) trodAll_mk0))), rfl, bel.frame _, fun h => by cases h⟩

theorem over : Rows.gridCutsRow.holds Try.pinned (OpenSpec.ofChange Rows.gridCutsSpec) :=
  OpenClaim.holds_of_wide 4 Try.f4 rfl rfl rfl rfl rfl rfl rfl ⟨rfl, rfl, rfl, rfl, rfl⟩ rfl rfl rfl rfl rfl (by kernel_rfl) Try.func4 (by kernel_rfl)
    (of_decide_eq_true (by kernel_rfl)) (by unfold Func.isWrapper; first | (rw [if_pos (by decide +kernel)]; kernel_rfl) | (rw [if_neg (by decide +kernel)]; exact ⟨rfl, rfl⟩))
    (fun os started H enc _ => lifted os started H enc)

/-- ████ THE STATEMENT ████ -/
theorem proved : Rows.GridCutsSaid := over
#print axioms proved
end Go.Proofs.Ytocjcfblpifdhaa.gridCuts
