/-
  Proved: for every two grids and every place GridParts returns true (a product is what the rows' parts make, stacked; what the columns' parts make, beside; the sum of what the parts between make) and nothing that was in memory turns. Conditions: none.
-/
import Derived.Test.YtocjcfblpifdhaaRows
import Derived.WalkKit
import Derived.ProofKit
import Derived.OpenShut
import Derived.ShutString
import Derived.ChangeOld
import Derived.Below
import Derived.Test.YtocjcfblpifdhaaGridRow
import Derived.Test.YtocjcfblpifdhaaLawKit5
namespace Go.Proofs.Ytocjcfblpifdhaa.gridParts
open Go.ChangeShapes Go.WideShapes Go.ChangeAt Go.RowKit
open Go.ChangeMaps (open_string shut_string)
set_option linter.unusedVariables false

theorem own : ownKnob Try.prog.godebug = none := by kernel_rfl
theorem laidOut : laidOutB Try.prog = true := by kernel_rfl

set_option maxHeartbeats 8000000 in
set_option maxRecDepth 100000 in
theorem walk (g0 : Gr) (g1 : Gr) (a2 : Int) (w : World) (h0 : g0.In w) (h1 : g1.In w) (h2 : (Lit.int .i64 a2).wf = true) :
    Calls Try.prog 8 #[.agg #[.int .i64 g0.r, .int .i64 g0.c, .slice g0.a g0.n g0.cap], .agg #[.int .i64 g1.r, .int .i64 g1.c, .slice g1.a g1.n g1.cap], .int .i64 a2] w fun e w' => e = .returned (.bool true) ∧ Below w.heap.size w w' := by
  clear h2
  have hst := ((st_nil w).box g0 h0 24 (b := w.heap.size) rfl).box g1 h1 24 (b := w.heap.size + 1) (by simp)
  clear h0 h1
  have hat := cell1_new (w := (w.alloc (.cells #[.int .i64 g0.r, .int .i64 g0.c, .slice g0.a g0.n g0.cap] 24)).alloc (.cells #[.int .i64 g1.r, .int .i64 g1.c, .slice g1.a g1.n g1.cap] 24)) (b := w.heap.size + 1 + 1) (by simp) (.int .i64 a2) 3
  replace hst := hst.alloc (.cells #[.int .i64 a2] 3)
  cases hsm : smallB [g0, g1] with
  | false =>
    go_enter Try.func8, Try.ntmps8
    go_wp2_with fail
    refine (awake _).mono ?_
    rintro e w1 ⟨rfl, hb⟩
    replace hst := hst.below hb
    replace hat := hat.below hb
    clear hb
    obtain ⟨r2l, r2a, r2b, r2c, _, _, _⟩ := (hst.get (b := w.heap.size) (g := g0) (by simp)).box
    obtain ⟨r3l, r3a, r3b, r3c, _, _, _⟩ := (hst.get (b := w.heap.size + 1) (g := g1) (by simp)).box
    have hG := fun T => grids_two (T := T) (b := w1.heap.size) g0 g1 (hst.inn (b := w.heap.size) (g := g0) (by simp)) (hst.inn (b := w.heap.size + 1) (g := g1) (by simp)) rfl
    go_wp2_with fail
    refine (small_c _ _ _ [g0, g1] _ (hG _) false hsm).mono ?_
    rintro e4 e4w ⟨rfl, rfl⟩
    replace hst := hst.alloc (.cells #[.int .i64 g0.r, .int .i64 g0.c, .slice g0.a g0.n g0.cap, .int .i64 g1.r, .int .i64 g1.c, .slice g1.a g1.n g1.cap] 24)
    replace hat := hat.alloc (.cells #[.int .i64 g0.r, .int .i64 g0.c, .slice g0.a g0.n g0.cap, .int .i64 g1.r, .int .i64 g1.c, .slice g1.a g1.n g1.cap] 24)
    clear hG hsm r2l r2a r2b r2c r3l r3a r3b r3c
    go_wp2_with fail
    refine (awake _).mono ?_
    rintro e w5 ⟨rfl, hb⟩
    replace hst := hst.below hb
    replace hat := hat.below hb
    clear hb
    have hB := hst.bel
    clear hst
    go_wp2
    go_ret
    exact ⟨rfl, hB⟩
  | true =>
    go_enter Try.func8, Try.ntmps8
    go_wp2_with fail
    refine (awake _).mono ?_
    rintro e w6 ⟨rfl, hb⟩
    replace hst := hst.below hb
    replace hat := hat.below hb
    clear hb
    obtain ⟨r7l, r7a, r7b, r7c, _, _, _⟩ := (hst.get (b := w.heap.size) (g := g0) (by simp)).box
    obtain ⟨r8l, r8a, r8b, r8c, _, _, _⟩ := (hst.get (b := w.heap.size + 1) (g := g1) (by simp)).box
    have hG := fun T => grids_two (T := T) (b := w6.heap.size) g0 g1 (hst.inn (b := w.heap.size) (g := g0) (by simp)) (hst.inn (b := w.heap.size + 1) (g := g1) (by simp)) rfl
    go_wp2_with fail
    refine (small_c _ _ _ [g0, g1] _ (hG _) true hsm).mono ?_
    rintro e9 e9w ⟨rfl, rfl⟩
    replace hst := hst.alloc (.cells #[.int .i64 g0.r, .int .i64 g0.c, .slice g0.a g0.n g0.cap, .int .i64 g1.r, .int .i64 g1.c, .slice g1.a g1.n g1.cap] 24)
    replace hat := hat.alloc (.cells #[.int .i64 g0.r, .int .i64 g0.c, .slice g0.a g0.n g0.cap, .int .i64 g1.r, .int .i64 g1.c, .slice g1.a g1.n g1.cap] 24)
    clear hG hsm r7l r7a r7b r7c r8l r8a r8b r8c
    obtain ⟨r10l, r10a, r10b, r10c, _, _, _⟩ := (hst.get (b := w.heap.size) (g := g0) (by simp)).box
    obtain ⟨r11l, r11a, r11b, r11c, _, _, _⟩ := (hst.get (b := w.heap.size + 1) (g := g1) (by simp)).box
    go_wp2_with fail
    refine (times_gr g0 g1 _ (hst.inn (b := w.heap.size) (g := g0) (by simp)) (hst.inn (b := w.heap.size + 1) (g := g1) (by simp))).mono ?_
    rintro e w12 ⟨hc1, hb⟩
    replace hst := hst.below hb
    replace hat := hat.below hb
    clear hb r10l r10a r10b r10c r11l r11a r11b r11c
    rcases hc1 with ⟨-, he⟩ | ⟨hy, R, K, C, ⟨f1, f2, f3, f4, hR, hK, hC, hle⟩, hgot⟩
    ·
      unfold NoGrid at he
      subst he
      replace hst := hst.zero 24
      have hB := hst.bel
      clear hst
      go_wp2
      go_ret
      exact ⟨rfl, hB⟩
    ·
      have hn : g0.n = R * K ∧ g1.n = K * C ∧ R * K ≤ 1048576 ∧ K * C ≤ 1048576 := by
        obtain ⟨R9, K9, C9, b1, b2, b3, b4, b5, b6, _, _, _, b7, b8, _⟩ := times_ok hy
        obtain rfl : R = R9 := by omega
        obtain rfl : K = K9 := by omega
        obtain rfl : C = C9 := by omega
        exact ⟨b5, b6, b7, b8⟩
      obtain ⟨r, hrR, hr⟩ := place a2 R hR
      obtain ⟨k, hkK, hk⟩ := place a2 K hK
      obtain ⟨c, hcC, hc⟩ := place a2 C hC
      have HA := Lib.hid (And.intro f1 (And.intro f2 hn.1))
      have HB := Lib.hid (And.intro f3 (And.intro f4 hn.2.1))
      have HR := Lib.hid hr
      have HK := Lib.hid hk
      have HC := Lib.hid hc
      have l1 := hn.2.2.1
      have l2 := hn.2.2.2
      clear hn hy f1 f2 f3 f4 hr hk hc
      obtain ⟨want, rfl, k1, k2, k3, k4, wantin⟩ := hgot
      have Hwant := Lib.hid (And.intro k1 (And.intro k2 (And.intro k3 k4)))
      clear k1 k2 k3 k4
      obtain ⟨r13l, r13a, r13b, r13c, _, _, _⟩ := (hst.get (b := w.heap.size) (g := g0) (by simp)).box
      obtain ⟨r14l, r14a, r14b, r14c, _, _, _⟩ := (hst.get (b := w.heap.size + 1) (g := g1) (by simp)).box
      replace hst := hst.push want wantin 24
      replace hat := hat.alloc (.cells #[.int .i64 want.r, .int .i64 want.c, .slice want.a want.n want.cap] 24)
      obtain ⟨hatl, hatc⟩ := hat
      go_wp2_with fail
      go_region_held3 (fun w' => w'.cell? ⟨w.heap.size, 0, none⟩ = some (.int .i64 g0.r) ∧ w'.cell? ⟨w.heap.size, 1, none⟩ = some (.int .i64 g0.c) ∧ w'.cell? ⟨w.heap.size + 1, 1, none⟩ = some (.int .i64 g1.c) ∧ w'.cell? ⟨w.heap.size + 1 + 1, 0, none⟩ = some (.int .i64 a2))
        (first | go_keep | (go_split_ands; refine ⟨?_, ?_, ?_, ?_⟩ <;> assumption))
        (first
          | (go_at_call 36; (with_reducible refine (cut_fix a2 R r hR HR.out hrR (w.heap.size + 1 + 1) g0.r HA.out.1 _ ?_).mono ?_); (go_split_ands; assumption); rintro e wq ⟨rfl, rfl⟩)
          | (go_at_call 36; (with_reducible refine (cut_fix a2 K k hK HK.out hkK (w.heap.size + 1 + 1) g0.c HA.out.2.1 _ ?_).mono ?_); (go_split_ands; assumption); rintro e wq ⟨rfl, rfl⟩)
          | (go_at_call 36; (with_reducible refine (cut_fix a2 C c hC HC.out hcC (w.heap.size + 1 + 1) g1.c HB.out.2.1 _ ?_).mono ?_); (go_split_ands; assumption); rintro e wq ⟨rfl, rfl⟩))
      replace hst := hst.below (Below.drew (Below.refl _ _))
      clear hatl hatc r13l r13a r13b r13c r14l r14a r14b r14c
      have eR := Lib.hid (show r - 0 + (R - r) = R by omega)
      have eC := Lib.hid (show c - 0 + (C - c) = C by omega)
      have lrC : (r - 0) * C ≤ 1048576 := Nat.le_trans (Nat.mul_le_mul_right C (by omega)) hle
      have lrC2 : (R - r) * C ≤ 1048576 := Nat.le_trans (Nat.mul_le_mul_right C (by omega)) hle
      have lrK : (r - 0) * K ≤ 1048576 := Nat.le_trans (Nat.mul_le_mul_right K (by omega)) l1
      have lrK2 : (R - r) * K ≤ 1048576 := Nat.le_trans (Nat.mul_le_mul_right K (by omega)) l1
      have lKc : K * (c - 0) ≤ 1048576 := Nat.le_trans (Nat.mul_le_mul_left K (by omega)) l2
      have lKc2 : K * (C - c) ≤ 1048576 := Nat.le_trans (Nat.mul_le_mul_left K (by omega)) l2
      have lRc : R * (c - 0) ≤ 1048576 := Nat.le_trans (Nat.mul_le_mul_left R (by omega)) hle
      have lRc2 : R * (C - c) ≤ 1048576 := Nat.le_trans (Nat.mul_le_mul_left R (by omega)) hle
      have lRk : R * (k - 0) ≤ 1048576 := Nat.le_trans (Nat.mul_le_mul_left R (by omega)) l1
      have lRk2 : R * (K - k) ≤ 1048576 := Nat.le_trans (Nat.mul_le_mul_left R (by omega)) l1
      have lkC : (k - 0) * C ≤ 1048576 := Nat.le_trans (Nat.mul_le_mul_right C (by omega)) l2
      have lkC2 : (K - k) * C ≤ 1048576 := Nat.le_trans (Nat.mul_le_mul_right C (by omega)) l2
      have br0 : r - 0 ≤ 4096 := by omega
      have br1 : R - r ≤ 4096 := by omega
      have bc0 : c - 0 ≤ 4096 := by omega
      have bc1 : C - c ≤ 4096 := by omega
      have bk0 : k - 0 ≤ 4096 := by omega
      have bk1 : K - k ≤ 4096 := by omega
      obtain ⟨r15l, r15a, r15b, r15c, _, _, _⟩ := (hst.get (b := w.heap.size) (g := g0) (by simp)).box
      go_wp2_with fail
      refine (rows_gr g0 R K 0 r _ (hst.inn (b := w.heap.size) (g := g0) (by simp)) HA.out.1 HA.out.2.1 HA.out.2.2 hR hK l1 (Nat.zero_le _) hrR 0 r rfl rfl).mono ?_
      rintro e w16 ⟨hgot, hb⟩
      replace hst := hst.below hb
      clear hb r15l r15a r15b r15c
      obtain ⟨a0, rfl, k1, k2, k3, k4, a0in⟩ := hgot
      have Ha0 := Lib.hid (And.intro k1 (And.intro k2 (And.intro k3 k4)))
      clear k1 k2 k3 k4
      obtain ⟨r17l, r17a, r17b, r17c, _, _, _⟩ := (hst.get (b := w.heap.size) (g := g0) (by simp)).box
      replace hst := hst.push a0 a0in 24
      go_wp2_with fail
      refine (rows_gr g0 R K r R _ (hst.inn (b := w.heap.size) (g := g0) (by simp)) HA.out.1 HA.out.2.1 HA.out.2.2 hR hK l1 hrR (Nat.le_refl _) r g0.r rfl HA.out.1).mono ?_
      rintro e w18 ⟨hgot, hb⟩
      replace hst := hst.below hb
      clear hb r17l r17a r17b r17c
      obtain ⟨a1, rfl, k1, k2, k3, k4, a1in⟩ := hgot
      have Ha1 := Lib.hid (And.intro k1 (And.intro k2 (And.intro k3 k4)))
      clear k1 k2 k3 k4
      obtain ⟨r19l, r19a, r19b, r19c, _, _, _⟩ := (hst.get (b := w16.heap.size) (g := a0) (by simp)).box
      obtain ⟨r20l, r20a, r20b, r20c, _, _, _⟩ := (hst.get (b := w.heap.size + 1) (g := g1) (by simp)).box
      replace hst := hst.push a1 a1in 24
      go_wp2_with fail
      refine (times_sides a0 g1 (r - 0) K C _ (hst.inn (b := w16.heap.size) (g := a0) (by simp)) (hst.inn (b := w.heap.size + 1) (g := g1) (by simp)) Ha0.out.1 Ha0.out.2.1 Ha0.out.2.2.1 HB.out.1 HB.out.2.1 HB.out.2.2 br0 hK hC lrK l2 lrC).mono ?_
      rintro e w21 ⟨hgot, hb⟩
      replace hst := hst.below hb
      clear hb r19l r19a r19b r19c r20l r20a r20b r20c
      obtain ⟨p0, rfl, k1, k2, k3, k4, p0in⟩ := hgot
      have Hp0 := Lib.hid (And.intro k1 (And.intro k2 (And.intro k3 k4)))
      clear k1 k2 k3 k4
      obtain ⟨r22l, r22a, r22b, r22c, _, _, _⟩ := (hst.get (b := w18.heap.size) (g := a1) (by simp)).box
      obtain ⟨r23l, r23a, r23b, r23c, _, _, _⟩ := (hst.get (b := w.heap.size + 1) (g := g1) (by simp)).box
      replace hst := hst.push p0 p0in 24
      go_wp2_with fail
      refine (times_sides a1 g1 (R - r) K C _ (hst.inn (b := w18.heap.size) (g := a1) (by simp)) (hst.inn (b := w.heap.size + 1) (g := g1) (by simp)) Ha1.out.1 Ha1.out.2.1 Ha1.out.2.2.1 HB.out.1 HB.out.2.1 HB.out.2.2 br1 hK hC lrK2 l2 lrC2).mono ?_
      rintro e w24 ⟨hgot, hb⟩
      replace hst := hst.below hb
      clear hb r22l r22a r22b r22c r23l r23a r23b r23c
      obtain ⟨p1, rfl, k1, k2, k3, k4, p1in⟩ := hgot
      have Hp1 := Lib.hid (And.intro k1 (And.intro k2 (And.intro k3 k4)))
      clear k1 k2 k3 k4
      obtain ⟨r25l, r25a, r25b, r25c, _, _, _⟩ := (hst.get (b := w21.heap.size) (g := p0) (by simp)).box
      replace hst := hst.push p1 p1in 24
      go_wp2_with fail
      refine (stack_sides _ _ p0 p1 _ (grids_two p0 p1 (hst.inn (b := w21.heap.size) (g := p0) (by simp)) (hst.inn (b := w24.heap.size) (g := p1) (by simp)) (by simp)) (r - 0) (R - r) C Hp0.out.1 Hp0.out.2.1 Hp0.out.2.2.1 Hp1.out.1 Hp1.out.2.1 Hp1.out.2.2.1 (by rw [eR.out]; exact hR) hC (by rw [eR.out]; exact hle)).mono ?_
      rintro e w26 ⟨hgot, hb⟩
      replace hst := (hst.alloc (.cells #[.int .i64 p0.r, .int .i64 p0.c, .slice p0.a p0.n p0.cap, .int .i64 p1.r, .int .i64 p1.c, .slice p1.a p1.n p1.cap] 24)).below hb
      clear hb r25l r25a r25b r25c
      obtain ⟨x, rfl, k1, k2, k3, k4, xin⟩ := hgot
      have Hx := Lib.hid (And.intro k1 (And.intro k2 (And.intro k3 k4)))
      clear k1 k2 k3 k4
      have HX2 := Lib.hid (show x.r = R ∧ x.c = C ∧ x.n = R * C ∧ x.v = want.v from ⟨by rw [Hx.out.1, eR.out], Hx.out.2.1, by rw [Hx.out.2.2.1, eR.out], by
        rw [Hx.out.2.2.2, Hwant.out.2.2.2]
        exact rows_prod g0.v g1.v R K C r hrR a0.v a1.v p0.v p1.v Ha0.out.2.2.2 Ha1.out.2.2.2 Hp0.out.2.2.2 Hp1.out.2.2.2⟩)
      obtain ⟨r27l, r27a, r27b, r27c, _, _, _⟩ := (hst.get (b := w.heap.size + 1) (g := g1) (by simp)).box
      replace hst := hst.push x xin 24
      go_wp2_with fail
      refine (cols_gr g1 K C 0 c _ (hst.inn (b := w.heap.size + 1) (g := g1) (by simp)) HB.out.1 HB.out.2.1 HB.out.2.2 hK hC l2 (Nat.zero_le _) hcC 0 c rfl rfl).mono ?_
      rintro e w28 ⟨hgot, hb⟩
      replace hst := hst.below hb
      clear hb r27l r27a r27b r27c
      obtain ⟨b0, rfl, k1, k2, k3, k4, b0in⟩ := hgot
      have Hb0 := Lib.hid (And.intro k1 (And.intro k2 (And.intro k3 k4)))
      clear k1 k2 k3 k4
      obtain ⟨r29l, r29a, r29b, r29c, _, _, _⟩ := (hst.get (b := w.heap.size + 1) (g := g1) (by simp)).box
      replace hst := hst.push b0 b0in 24
      go_wp2_with fail
      refine (cols_gr g1 K C c C _ (hst.inn (b := w.heap.size + 1) (g := g1) (by simp)) HB.out.1 HB.out.2.1 HB.out.2.2 hK hC l2 hcC (Nat.le_refl _) c g1.c rfl HB.out.2.1).mono ?_
      rintro e w30 ⟨hgot, hb⟩
      replace hst := hst.below hb
      clear hb r29l r29a r29b r29c
      obtain ⟨b1, rfl, k1, k2, k3, k4, b1in⟩ := hgot
      have Hb1 := Lib.hid (And.intro k1 (And.intro k2 (And.intro k3 k4)))
      clear k1 k2 k3 k4
      obtain ⟨r31l, r31a, r31b, r31c, _, _, _⟩ := (hst.get (b := w.heap.size) (g := g0) (by simp)).box
      obtain ⟨r32l, r32a, r32b, r32c, _, _, _⟩ := (hst.get (b := w28.heap.size) (g := b0) (by simp)).box
      replace hst := hst.push b1 b1in 24
      go_wp2_with fail
      refine (times_sides g0 b0 R K (c - 0) _ (hst.inn (b := w.heap.size) (g := g0) (by simp)) (hst.inn (b := w28.heap.size) (g := b0) (by simp)) HA.out.1 HA.out.2.1 HA.out.2.2 Hb0.out.1 Hb0.out.2.1 Hb0.out.2.2.1 hR hK bc0 l1 lKc lRc).mono ?_
      rintro e w33 ⟨hgot, hb⟩
      replace hst := hst.below hb
      clear hb r31l r31a r31b r31c r32l r32a r32b r32c
      obtain ⟨q0, rfl, k1, k2, k3, k4, q0in⟩ := hgot
      have Hq0 := Lib.hid (And.intro k1 (And.intro k2 (And.intro k3 k4)))
      clear k1 k2 k3 k4
      obtain ⟨r34l, r34a, r34b, r34c, _, _, _⟩ := (hst.get (b := w.heap.size) (g := g0) (by simp)).box
      obtain ⟨r35l, r35a, r35b, r35c, _, _, _⟩ := (hst.get (b := w30.heap.size) (g := b1) (by simp)).box
      replace hst := hst.push q0 q0in 24
      go_wp2_with fail
      refine (times_sides g0 b1 R K (C - c) _ (hst.inn (b := w.heap.size) (g := g0) (by simp)) (hst.inn (b := w30.heap.size) (g := b1) (by simp)) HA.out.1 HA.out.2.1 HA.out.2.2 Hb1.out.1 Hb1.out.2.1 Hb1.out.2.2.1 hR hK bc1 l1 lKc2 lRc2).mono ?_
      rintro e w36 ⟨hgot, hb⟩
      replace hst := hst.below hb
      clear hb r34l r34a r34b r34c r35l r35a r35b r35c
      obtain ⟨q1, rfl, k1, k2, k3, k4, q1in⟩ := hgot
      have Hq1 := Lib.hid (And.intro k1 (And.intro k2 (And.intro k3 k4)))
      clear k1 k2 k3 k4
      obtain ⟨r37l, r37a, r37b, r37c, _, _, _⟩ := (hst.get (b := w33.heap.size) (g := q0) (by simp)).box
      replace hst := hst.push q1 q1in 24
      go_wp2_with fail
      refine (beside_sides _ _ q0 q1 _ (grids_two q0 q1 (hst.inn (b := w33.heap.size) (g := q0) (by simp)) (hst.inn (b := w36.heap.size) (g := q1) (by simp)) (by simp)) (by intro hh; cases hh) (Nat.le_refl _) R (c - 0) (C - c) Hq0.out.1 Hq0.out.2.1 Hq0.out.2.2.1 Hq1.out.1 Hq1.out.2.1 Hq1.out.2.2.1 hR (by rw [eC.out]; exact hC) (by rw [eC.out]; exact hle)).mono ?_
      rintro e w38 ⟨hgot, hb⟩
      replace hst := (hst.alloc (.cells #[.int .i64 q0.r, .int .i64 q0.c, .slice q0.a q0.n q0.cap, .int .i64 q1.r, .int .i64 q1.c, .slice q1.a q1.n q1.cap] 24)).below hb
      clear hb r37l r37a r37b r37c
      obtain ⟨y, rfl, k1, k2, k3, k4, yin⟩ := hgot
      have Hy := Lib.hid (And.intro k1 (And.intro k2 (And.intro k3 k4)))
      clear k1 k2 k3 k4
      have HY2 := Lib.hid (show y.r = R ∧ y.c = C ∧ y.n = R * C ∧ y.v = want.v from ⟨Hy.out.1, by rw [Hy.out.2.1, eC.out], by rw [Hy.out.2.2.1, eC.out], by
        rw [Hy.out.2.2.2, eC.out, Hwant.out.2.2.2]
        exact cols_prod g0.v g1.v R K C c hcC b0.v b1.v q0.v q1.v Hb0.out.2.2.2 Hb1.out.2.2.2 Hq0.out.2.2.2 Hq1.out.2.2.2⟩)
      obtain ⟨r39l, r39a, r39b, r39c, _, _, _⟩ := (hst.get (b := w.heap.size) (g := g0) (by simp)).box
      replace hst := hst.push y yin 24
      go_wp2_with fail
      refine (cols_gr g0 R K 0 k _ (hst.inn (b := w.heap.size) (g := g0) (by simp)) HA.out.1 HA.out.2.1 HA.out.2.2 hR hK l1 (Nat.zero_le _) hkK 0 k rfl rfl).mono ?_
      rintro e w40 ⟨hgot, hb⟩
      replace hst := hst.below hb
      clear hb r39l r39a r39b r39c
      obtain ⟨l0, rfl, k1, k2, k3, k4, l0in⟩ := hgot
      have Hl0 := Lib.hid (And.intro k1 (And.intro k2 (And.intro k3 k4)))
      clear k1 k2 k3 k4
      obtain ⟨r41l, r41a, r41b, r41c, _, _, _⟩ := (hst.get (b := w.heap.size) (g := g0) (by simp)).box
      replace hst := hst.push l0 l0in 24
      go_wp2_with fail
      refine (cols_gr g0 R K k K _ (hst.inn (b := w.heap.size) (g := g0) (by simp)) HA.out.1 HA.out.2.1 HA.out.2.2 hR hK l1 hkK (Nat.le_refl _) k g0.c rfl HA.out.2.1).mono ?_
      rintro e w42 ⟨hgot, hb⟩
      replace hst := hst.below hb
      clear hb r41l r41a r41b r41c
      obtain ⟨l9, rfl, k1, k2, k3, k4, l9in⟩ := hgot
      have Hl9 := Lib.hid (And.intro k1 (And.intro k2 (And.intro k3 k4)))
      clear k1 k2 k3 k4
      obtain ⟨r43l, r43a, r43b, r43c, _, _, _⟩ := (hst.get (b := w.heap.size + 1) (g := g1) (by simp)).box
      replace hst := hst.push l9 l9in 24
      go_wp2_with fail
      refine (rows_gr g1 K C 0 k _ (hst.inn (b := w.heap.size + 1) (g := g1) (by simp)) HB.out.1 HB.out.2.1 HB.out.2.2 hK hC l2 (Nat.zero_le _) hkK 0 k rfl rfl).mono ?_
      rintro e w44 ⟨hgot, hb⟩
      replace hst := hst.below hb
      clear hb r43l r43a r43b r43c
      obtain ⟨m0, rfl, k1, k2, k3, k4, m0in⟩ := hgot
      have Hm0 := Lib.hid (And.intro k1 (And.intro k2 (And.intro k3 k4)))
      clear k1 k2 k3 k4
      obtain ⟨r45l, r45a, r45b, r45c, _, _, _⟩ := (hst.get (b := w.heap.size + 1) (g := g1) (by simp)).box
      replace hst := hst.push m0 m0in 24
      go_wp2_with fail
      refine (rows_gr g1 K C k K _ (hst.inn (b := w.heap.size + 1) (g := g1) (by simp)) HB.out.1 HB.out.2.1 HB.out.2.2 hK hC l2 hkK (Nat.le_refl _) k g1.r rfl HB.out.1).mono ?_
      rintro e w46 ⟨hgot, hb⟩
      replace hst := hst.below hb
      clear hb r45l r45a r45b r45c
      obtain ⟨m1, rfl, k1, k2, k3, k4, m1in⟩ := hgot
      have Hm1 := Lib.hid (And.intro k1 (And.intro k2 (And.intro k3 k4)))
      clear k1 k2 k3 k4
      obtain ⟨r47l, r47a, r47b, r47c, _, _, _⟩ := (hst.get (b := w40.heap.size) (g := l0) (by simp)).box
      obtain ⟨r48l, r48a, r48b, r48c, _, _, _⟩ := (hst.get (b := w44.heap.size) (g := m0) (by simp)).box
      replace hst := hst.push m1 m1in 24
      go_wp2_with fail
      refine (times_sides l0 m0 R (k - 0) C _ (hst.inn (b := w40.heap.size) (g := l0) (by simp)) (hst.inn (b := w44.heap.size) (g := m0) (by simp)) Hl0.out.1 Hl0.out.2.1 Hl0.out.2.2.1 Hm0.out.1 Hm0.out.2.1 Hm0.out.2.2.1 hR bk0 hC lRk lkC hle).mono ?_
      rintro e w49 ⟨hgot, hb⟩
      replace hst := hst.below hb
      clear hb r47l r47a r47b r47c r48l r48a r48b r48c
      obtain ⟨s0, rfl, k1, k2, k3, k4, s0in⟩ := hgot
      have Hs0 := Lib.hid (And.intro k1 (And.intro k2 (And.intro k3 k4)))
      clear k1 k2 k3 k4
      obtain ⟨r50l, r50a, r50b, r50c, _, _, _⟩ := (hst.get (b := w42.heap.size) (g := l9) (by simp)).box
      obtain ⟨r51l, r51a, r51b, r51c, _, _, _⟩ := (hst.get (b := w46.heap.size) (g := m1) (by simp)).box
      replace hst := hst.push s0 s0in 24
      go_wp2_with fail
      refine (times_sides l9 m1 R (K - k) C _ (hst.inn (b := w42.heap.size) (g := l9) (by simp)) (hst.inn (b := w46.heap.size) (g := m1) (by simp)) Hl9.out.1 Hl9.out.2.1 Hl9.out.2.2.1 Hm1.out.1 Hm1.out.2.1 Hm1.out.2.2.1 hR bk1 hC lRk2 lkC2 hle).mono ?_
      rintro e w52 ⟨hgot, hb⟩
      replace hst := hst.below hb
      clear hb r50l r50a r50b r50c r51l r51a r51b r51c
      obtain ⟨s1, rfl, k1, k2, k3, k4, s1in⟩ := hgot
      have Hs1 := Lib.hid (And.intro k1 (And.intro k2 (And.intro k3 k4)))
      clear k1 k2 k3 k4
      obtain ⟨r53l, r53a, r53b, r53c, _, _, _⟩ := (hst.get (b := w49.heap.size) (g := s0) (by simp)).box
      replace hst := hst.push s1 s1in 24
      go_wp2_with fail
      refine (add_sides _ _ s0 s1 _ (grids_two s0 s1 (hst.inn (b := w49.heap.size) (g := s0) (by simp)) (hst.inn (b := w52.heap.size) (g := s1) (by simp)) (by simp)) R C Hs0.out.1 Hs0.out.2.1 Hs0.out.2.2.1 Hs1.out.1 Hs1.out.2.1 Hs1.out.2.2.1 hR hC hle).mono ?_
      rintro e w54 ⟨hgot, hb⟩
      replace hst := (hst.alloc (.cells #[.int .i64 s0.r, .int .i64 s0.c, .slice s0.a s0.n s0.cap, .int .i64 s1.r, .int .i64 s1.c, .slice s1.a s1.n s1.cap] 24)).below hb
      clear hb r53l r53a r53b r53c
      obtain ⟨z, rfl, k1, k2, k3, k4, zin⟩ := hgot
      have Hz := Lib.hid (And.intro k1 (And.intro k2 (And.intro k3 k4)))
      clear k1 k2 k3 k4
      have HZ2 := Lib.hid (show z.r = R ∧ z.c = C ∧ z.n = R * C ∧ z.v = want.v from ⟨Hz.out.1, Hz.out.2.1, Hz.out.2.2.1, by
        rw [Hz.out.2.2.2, Hwant.out.2.2.2]
        exact mid_prod g0.v g1.v R K C k hkK l0.v l9.v m0.v m1.v s0.v s1.v Hl0.out.2.2.2 Hl9.out.2.2.2 Hm0.out.2.2.2 Hm1.out.2.2.2 Hs0.out.2.2.2 Hs1.out.2.2.2⟩)
      obtain ⟨r55l, r55a, r55b, r55c, _, _, _⟩ := (hst.get (b := w26.heap.size) (g := x) (by simp)).box
      obtain ⟨r56l, r56a, r56b, r56c, _, _, _⟩ := (hst.get (b := w12.heap.size) (g := want) (by simp)).box
      replace hst := hst.push z zin 24
      go_wp2_with fail
      refine (held_gr x want R C _ (hst.inn (b := w26.heap.size) (g := x) (by simp)) (hst.inn (b := w12.heap.size) (g := want) (by simp)) HX2.out.1 HX2.out.2.1 HX2.out.2.2.1 Hwant.out.1 Hwant.out.2.1 Hwant.out.2.2.1 HX2.out.2.2.2).mono ?_
      rintro e w57 ⟨rfl, hb⟩
      replace hst := hst.below hb
      clear hb r55l r55a r55b r55c r56l r56a r56b r56c
      obtain ⟨r58l, r58a, r58b, r58c, _, _, _⟩ := (hst.get (b := w38.heap.size) (g := y) (by simp)).box
      obtain ⟨r59l, r59a, r59b, r59c, _, _, _⟩ := (hst.get (b := w12.heap.size) (g := want) (by simp)).box
      go_wp2_with fail
      refine (held_gr y want R C _ (hst.inn (b := w38.heap.size) (g := y) (by simp)) (hst.inn (b := w12.heap.size) (g := want) (by simp)) HY2.out.1 HY2.out.2.1 HY2.out.2.2.1 Hwant.out.1 Hwant.out.2.1 Hwant.out.2.2.1 HY2.out.2.2.2).mono ?_
      rintro e w60 ⟨rfl, hb⟩
      replace hst := hst.below hb
      clear hb r58l r58a r58b r58c r59l r59a r59b r59c
      obtain ⟨r61l, r61a, r61b, r61c, _, _, _⟩ := (hst.get (b := w54.heap.size) (g := z) (by simp)).box
      obtain ⟨r62l, r62a, r62b, r62c, _, _, _⟩ := (hst.get (b := w12.heap.size) (g := want) (by simp)).box
      go_wp2_with fail
      refine (held_gr z want R C _ (hst.inn (b := w54.heap.size) (g := z) (by simp)) (hst.inn (b := w12.heap.size) (g := want) (by simp)) HZ2.out.1 HZ2.out.2.1 HZ2.out.2.2.1 Hwant.out.1 Hwant.out.2.1 Hwant.out.2.2.1 HZ2.out.2.2.2).mono ?_
      rintro e w63 ⟨rfl, hb⟩
      replace hst := hst.below hb
      clear hb r61l r61a r61b r61c r62l r62a r62b r62c
      have hB := hst.bel
      clear hst
      go_wp2
      go_ret
      exact ⟨rfl, hB⟩

set_option maxRecDepth 100000 in
theorem lifted (os : Os) (started : os.Started) (H : Type) (enc : TypeId × Value → H) :
    ReturnsInHanded {} Try.checked os 8 .any (Rows.gridPartsSpec.pre6 enc Try.prog Try.f8 Rows.gridPartsRow.domain false) (Rows.gridPartsSpec.post enc Try.prog Try.f8 false true false false) := by
  refine returnsInHanded_of_change (C := Try.checked) own started (by kernel_rfl) Try.func8
    (ChangeSpec.witness6 (enc := enc) (C := Try.checked) false ⟨#[], #[.agg #[.int .i64 0, .int .i64 0, .slice none 0 0], .agg #[.int .i64 0, .int .i64 0, .slice none 0 0], .int .i64 0], []⟩ 8 (by kernel_rfl) (by kernel_rfl) (by kernel_rfl) (by kernel_rfl)) ?_
  intro W base args ds gs before hval0 hW hcnd _
  have hval : ∀ (j : Nat) t v, Try.f8.params[j]? = some t → args[j]? = some v → Value.okWide Try.prog W .any base t v := hval0
  have hW' := hW
  obtain ⟨p, q, hA0, hV, rfl, hfz, hnd⟩ := hW
  have hA : DataW.TrodAll enc Try.prog W 0 (fun _ => true) true Try.f8.params.toList args.toList ds p := hA0
  rw [Try.params8] at hA hval
  obtain ⟨v0, vs0, d0, ds0, p0, q0, hargs, rfl, rfl, h0, r0⟩ := trodAll_cons hA
  obtain ⟨v1, vs1, d1, ds1, p1, q1, rfl, rfl, rfl, h1, r1⟩ := trodAll_cons r0
  obtain ⟨v2, vs2, d2, ds2, p2, q2, rfl, rfl, rfl, h2, r2⟩ := trodAll_cons r1
  obtain ⟨rfl, rfl, rfl⟩ := trodAll_nil r2
  obtain rfl : args = #[v0, v1, v2] := by cases args; simp_all
  obtain ⟨rfl, rfl⟩ := trodVars_none hV
  have k0 := h0
  have lt0 : ∀ x ∈ p0, x.block < W.heap.size := by obtain ⟨m, hm⟩ := k0; exact DataW.trod_lt m _ _ _ hm
  obtain ⟨g0, rfl, w0⟩ := open_grid (hval 0 24 v0 rfl rfl) h0
  have k1 := h1
  have lt1 : ∀ x ∈ p1, x.block < W.heap.size := by obtain ⟨m, hm⟩ := k1; exact DataW.trod_lt m _ _ _ hm
  obtain ⟨g1, rfl, w1⟩ := open_grid (hval 1 24 v1 rfl rfl) h1
  obtain ⟨a2, rfl, rfl, rfl, w2⟩ := open_int Try.underlying3 (hval 2 3 v2 rfl rfl) h2
  clear hA0 hval0
  refine (walk g0 g1 a2 W w0 w1 w2).mono fun e W' ⟨he, bel⟩ => ?_
  subst he
  exact ⟨_, rfl, _, _, _, [], _, [], hW', trodAll_mk1 (shut_bool Try.underlying4 _), (trodAll_cons_mk (Below.trod laidOut (by kernel_rfl) (of_decide_eq_true (by kernel_rfl)) k0 bel lt0) (trodAll_cons_mk (Below.trod laidOut (by kernel_rfl) (of_decide_eq_true (by kernel_rfl)) k1 bel lt1) (trodAll_cons_mk (shut_int Try.underlying3 w2) trodAll_mk0))), rfl, bel.frame _, fun h => by cases h⟩

theorem over : Rows.gridPartsRow.holds Try.pinned (OpenSpec.ofChange Rows.gridPartsSpec) :=
  OpenClaim.holds_of_wide 8 Try.f8 rfl rfl rfl rfl rfl rfl rfl ⟨rfl, rfl, rfl, rfl, rfl⟩ rfl rfl rfl rfl rfl (by kernel_rfl) Try.func8 (by kernel_rfl)
    (of_decide_eq_true (by kernel_rfl)) (by unfold Func.isWrapper; first | (rw [if_pos (by decide +kernel)]; kernel_rfl) | (rw [if_neg (by decide +kernel)]; exact ⟨rfl, rfl⟩))
    (fun os started H enc _ => lifted os started H enc)

/-- ████ THE STATEMENT ████ -/
theorem proved : Rows.GridPartsSaid := over
#print axioms proved
end Go.Proofs.Ytocjcfblpifdhaa.gridParts
