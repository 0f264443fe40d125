/-
  Proved: for every grid and every place GridBack returns true (cut and stacked, cut and laid beside, turned twice: the grid is back) and nothing that was in memory turns. Conditions: none.
-/
import Derived.Test.YtocjcfblpifdhaaRows
import Derived.WalkKit
import Derived.ProofKit
import Derived.OpenShut
import Derived.ShutString
import Derived.ChangeOld
import Derived.Below
import Derived.Test.YtocjcfblpifdhaaGridRow
import Derived.Test.YtocjcfblpifdhaaLawKit4
namespace Go.Proofs.Ytocjcfblpifdhaa.gridBack
open Go.ChangeShapes Go.WideShapes Go.ChangeAt Go.RowKit
open Go.ChangeMaps (open_string shut_string)
set_option linter.unusedVariables false

theorem own : ownKnob Try.prog.godebug = none := by kernel_rfl
theorem laidOut : laidOutB Try.prog = true := by kernel_rfl

set_option maxHeartbeats 8000000 in
set_option maxRecDepth 100000 in
theorem walk (g0 : Gr) (a1 : Int) (w : World) (h0 : g0.In w) (h1 : (Lit.int .i64 a1).wf = true) :
    Calls Try.prog 7 #[.agg #[.int .i64 g0.r, .int .i64 g0.c, .slice g0.a g0.n g0.cap], .int .i64 a1] w fun e w' => e = .returned (.bool true) ∧ Below w.heap.size w w' := by
  clear h1
  have hst := (st_nil w).box g0 h0 24 (b := w.heap.size) rfl
  clear h0
  cases hsm : smallB [g0] with
  | false =>
    go_enter Try.func7, Try.ntmps7
    go_wp2_with fail
    refine (awake _).mono ?_
    rintro e w1 ⟨rfl, hb⟩
    replace hst := hst.below hb
    clear hb
    obtain ⟨r2l, r2a, r2b, r2c, _, _, _⟩ := (hst.get (b := w.heap.size) (g := g0) (by simp)).box
    have hG := fun T => grids_one (T := T) (b := w1.heap.size) g0 (hst.inn (b := w.heap.size) (g := g0) (by simp)) rfl
    go_wp2_with fail
    refine (small_c _ _ _ [g0] _ (hG _) false hsm).mono ?_
    rintro e3 e3w ⟨rfl, rfl⟩
    replace hst := hst.alloc (.cells #[.int .i64 g0.r, .int .i64 g0.c, .slice g0.a g0.n g0.cap] 24)
    clear hG hsm r2l r2a r2b r2c
    go_wp2_with fail
    refine (awake _).mono ?_
    rintro e w4 ⟨rfl, hb⟩
    replace hst := hst.below hb
    clear hb
    have hB := hst.bel
    clear hst
    go_wp2
    go_ret
    exact ⟨rfl, hB⟩
  | true =>
    cases hfit : fitB g0.r g0.c g0.n with
    | false =>
      have HF := Lib.hid hfit
      clear hfit
      go_enter Try.func7, Try.ntmps7
      go_wp2_with fail
      refine (awake _).mono ?_
      rintro e w5 ⟨rfl, hb⟩
      replace hst := hst.below hb
      clear hb
      obtain ⟨r6l, r6a, r6b, r6c, _, _, _⟩ := (hst.get (b := w.heap.size) (g := g0) (by simp)).box
      have hG := fun T => grids_one (T := T) (b := w5.heap.size) g0 (hst.inn (b := w.heap.size) (g := g0) (by simp)) rfl
      go_wp2_with fail
      refine (small_c _ _ _ [g0] _ (hG _) true hsm).mono ?_
      rintro e7 e7w ⟨rfl, rfl⟩
      replace hst := hst.alloc (.cells #[.int .i64 g0.r, .int .i64 g0.c, .slice g0.a g0.n g0.cap] 24)
      clear hG hsm r6l r6a r6b r6c
      obtain ⟨r8l, r8a, r8b, r8c, _, _, _⟩ := (hst.get (b := w.heap.size) (g := g0) (by simp)).box
      go_wp2_with fail
      refine (ref_fit g0.r g0.c g0.a g0.n g0.cap _ (hst.inn (b := w.heap.size) (g := g0) (by simp)).1.2.1 false HF.out).mono ?_
      rintro e w9 ⟨rfl, hb⟩
      replace hst := hst.below hb
      clear hb r8l r8a r8b r8c
      go_wp2_with fail
      refine (awake _).mono ?_
      rintro e w10 ⟨rfl, hb⟩
      replace hst := hst.below hb
      clear hb
      have hB := hst.bel
      clear hst
      go_wp2
      go_ret
      exact ⟨rfl, hB⟩
    | true =>
      obtain ⟨R, C, x1, x2, hR, hC, x3, hle⟩ := fitB_yes hfit
      have HF := Lib.hid hfit
      obtain ⟨r, hrR, hr⟩ := place a1 R hR
      obtain ⟨c, hcC, hc⟩ := place a1 C hC
      rw [← x1] at hr
      rw [← x2] at hc
      have HG := Lib.hid (And.intro x1 (And.intro x2 x3))
      have hvl : g0.v.length = R * C := by rw [← x3]; exact (hst.inn (b := w.heap.size) (g := g0) (by simp)).1.1
      have HVL := Lib.hid hvl
      have nr0 : 0 ≤ g0.r := by omega
      have nr1 : g0.r ≤ 4096 := by omega
      have nc0 : 0 ≤ g0.c := by omega
      have nc1 : g0.c ≤ 4096 := by omega
      clear hfit x3 hvl x1 x2
      go_enter Try.func7, Try.ntmps7
      go_wp2_with fail
      refine (awake _).mono ?_
      rintro e w11 ⟨rfl, hb⟩
      replace hst := hst.below hb
      clear hb
      obtain ⟨r12l, r12a, r12b, r12c, _, _, _⟩ := (hst.get (b := w.heap.size) (g := g0) (by simp)).box
      have hG := fun T => grids_one (T := T) (b := w11.heap.size) g0 (hst.inn (b := w.heap.size) (g := g0) (by simp)) rfl
      go_wp2_with fail
      refine (small_c _ _ _ [g0] _ (hG _) true hsm).mono ?_
      rintro e13 e13w ⟨rfl, rfl⟩
      replace hst := hst.alloc (.cells #[.int .i64 g0.r, .int .i64 g0.c, .slice g0.a g0.n g0.cap] 24)
      clear hG hsm r12l r12a r12b r12c
      obtain ⟨r14l, r14a, r14b, r14c, _, _, _⟩ := (hst.get (b := w.heap.size) (g := g0) (by simp)).box
      go_wp2_with fail
      refine (ref_fit g0.r g0.c g0.a g0.n g0.cap _ (hst.inn (b := w.heap.size) (g := g0) (by simp)).1.2.1 true HF.out).mono ?_
      rintro e w15 ⟨rfl, hb⟩
      replace hst := hst.below hb
      clear hb r14l r14a r14b r14c
      obtain ⟨r16l, r16a, r16b, r16c, _, _, _⟩ := (hst.get (b := w.heap.size) (g := g0) (by simp)).box
      have nr2 : ¬ g0.r + 1 = 0 := by omega
      have nc2 : ¬ g0.c + 1 = 0 := by omega
      have t0 := Int.lt_tmod_of_pos a1 (show (0 : Int) < g0.r + 1 by omega)
      have t1 := Int.tmod_lt_of_pos a1 (show (0 : Int) < g0.r + 1 by omega)
      have t2 := Int.lt_tmod_of_pos a1 (show (0 : Int) < g0.c + 1 by omega)
      have t3 := Int.tmod_lt_of_pos a1 (show (0 : Int) < g0.c + 1 by omega)
      have mm1 : IntKind.i64.wrap (g0.r + 1) = g0.r + 1 := IntWalk.i64_in _ (by omega)
      have mm2 : IntKind.i64.wrap (g0.c + 1) = g0.c + 1 := IntWalk.i64_in _ (by omega)
      have mm3 : IntKind.i64.wrap (a1.tmod (g0.r + 1)) = a1.tmod (g0.r + 1) := IntWalk.i64_in _ (by omega)
      have mm4 : IntKind.i64.wrap (a1.tmod (g0.c + 1)) = a1.tmod (g0.c + 1) := IntWalk.i64_in _ (by omega)
      have mm5 : IntKind.i64.wrap (a1.tmod (g0.r + 1) + g0.r) = a1.tmod (g0.r + 1) + g0.r := IntWalk.i64_in _ (by omega)
      have mm6 : IntKind.i64.wrap (a1.tmod (g0.c + 1) + g0.c) = a1.tmod (g0.c + 1) + g0.c := IntWalk.i64_in _ (by omega)
      have mm7 : IntKind.i64.wrap (a1.tmod (g0.r + 1) + g0.r + 1) = a1.tmod (g0.r + 1) + g0.r + 1 := IntWalk.i64_in _ (by omega)
      have mm8 : IntKind.i64.wrap (a1.tmod (g0.c + 1) + g0.c + 1) = a1.tmod (g0.c + 1) + g0.c + 1 := IntWalk.i64_in _ (by omega)
      have mm9 : IntKind.i64.wrap r = r := IntWalk.i64_in _ (by omega)
      have mm10 : IntKind.i64.wrap c = c := IntWalk.i64_in _ (by omega)
      clear t0 t1 t2 t3
      go_wp2_with fail
      go_region_held3 (fun w' => w'.cell? ⟨w.heap.size, 0, none⟩ = some (.int .i64 g0.r) ∧ w'.cell? ⟨w.heap.size, 1, none⟩ = some (.int .i64 g0.c) ∧ w'.cell? ⟨w.heap.size, 2, none⟩ = some (.slice g0.a g0.n g0.cap))
        (first | go_keep | (go_split_ands; refine ⟨?_, ?_, ?_⟩ <;> assumption)) (fail "none")
      replace hst := hst.below (Below.drew (Below.refl _ _))
      clear mm1 mm2 mm3 mm4 mm5 mm6 mm7 mm8 mm9 mm10 nr2 nc2 r16l r16a r16b r16c
      have eR := Lib.hid (show r - 0 + (R - r) = R by omega)
      have eC := Lib.hid (show c - 0 + (C - c) = C by omega)
      clear hr hc nr0 nr1 nc0 nc1
      obtain ⟨r17l, r17a, r17b, r17c, _, _, _⟩ := (hst.get (b := w.heap.size) (g := g0) (by simp)).box
      go_wp2_with fail
      refine (rows_gr g0 R C 0 r _ (hst.inn (b := w.heap.size) (g := g0) (by simp)) HG.out.1 HG.out.2.1 HG.out.2.2 hR hC hle (Nat.zero_le _) hrR 0 r rfl rfl).mono ?_
      rintro e w18 ⟨hgot, hb⟩
      replace hst := hst.below hb
      clear hb r17l r17a r17b r17c
      obtain ⟨a, rfl, k1, k2, k3, k4, ain⟩ := hgot
      have Ha := Lib.hid (And.intro k1 (And.intro k2 (And.intro k3 k4)))
      clear k1 k2 k3 k4
      obtain ⟨r19l, r19a, r19b, r19c, _, _, _⟩ := (hst.get (b := w.heap.size) (g := g0) (by simp)).box
      replace hst := hst.push a ain 24
      go_wp2_with fail
      refine (rows_gr g0 R C r R _ (hst.inn (b := w.heap.size) (g := g0) (by simp)) HG.out.1 HG.out.2.1 HG.out.2.2 hR hC hle hrR (Nat.le_refl _) r g0.r rfl HG.out.1).mono ?_
      rintro e w20 ⟨hgot, hb⟩
      replace hst := hst.below hb
      clear hb r19l r19a r19b r19c
      obtain ⟨b, rfl, k1, k2, k3, k4, bin⟩ := hgot
      have Hb := Lib.hid (And.intro k1 (And.intro k2 (And.intro k3 k4)))
      clear k1 k2 k3 k4
      obtain ⟨r21l, r21a, r21b, r21c, _, _, _⟩ := (hst.get (b := w18.heap.size) (g := a) (by simp)).box
      replace hst := hst.push b bin 24
      go_wp2_with fail
      refine (stack_sides _ _ a b _ (grids_two a b (hst.inn (b := w18.heap.size) (g := a) (by simp)) (hst.inn (b := w20.heap.size) (g := b) (by simp)) (by simp)) (r - 0) (R - r) C Ha.out.1 Ha.out.2.1 Ha.out.2.2.1 Hb.out.1 Hb.out.2.1 Hb.out.2.2.1 (by rw [eR.out]; exact hR) hC (by rw [eR.out]; exact hle)).mono ?_
      rintro e w22 ⟨hgot, hb⟩
      replace hst := (hst.alloc (.cells #[.int .i64 a.r, .int .i64 a.c, .slice a.a a.n a.cap, .int .i64 b.r, .int .i64 b.c, .slice b.a b.n b.cap] 24)).below hb
      clear hb r21l r21a r21b r21c
      obtain ⟨x, rfl, k1, k2, k3, k4, xin⟩ := hgot
      have Hx := Lib.hid (And.intro k1 (And.intro k2 (And.intro k3 k4)))
      clear k1 k2 k3 k4
      have HX2 := Lib.hid (show x.r = R ∧ x.c = C ∧ x.n = R * C ∧ x.v = g0.v from ⟨by rw [Hx.out.1, eR.out], Hx.out.2.1, by rw [Hx.out.2.2.1, eR.out], by rw [Hx.out.2.2.2, Ha.out.2.2.2, Hb.out.2.2.2]; exact rows_whole g0.v R C r HVL.out hrR⟩)
      obtain ⟨r23l, r23a, r23b, r23c, _, _, _⟩ := (hst.get (b := w.heap.size) (g := g0) (by simp)).box
      replace hst := hst.push x xin 24
      go_wp2_with fail
      refine (cols_gr g0 R C 0 c _ (hst.inn (b := w.heap.size) (g := g0) (by simp)) HG.out.1 HG.out.2.1 HG.out.2.2 hR hC hle (Nat.zero_le _) hcC 0 c rfl rfl).mono ?_
      rintro e w24 ⟨hgot, hb⟩
      replace hst := hst.below hb
      clear hb r23l r23a r23b r23c
      obtain ⟨p, rfl, k1, k2, k3, k4, pin⟩ := hgot
      have Hp := Lib.hid (And.intro k1 (And.intro k2 (And.intro k3 k4)))
      clear k1 k2 k3 k4
      obtain ⟨r25l, r25a, r25b, r25c, _, _, _⟩ := (hst.get (b := w.heap.size) (g := g0) (by simp)).box
      replace hst := hst.push p pin 24
      go_wp2_with fail
      refine (cols_gr g0 R C c C _ (hst.inn (b := w.heap.size) (g := g0) (by simp)) HG.out.1 HG.out.2.1 HG.out.2.2 hR hC hle hcC (Nat.le_refl _) c g0.c rfl HG.out.2.1).mono ?_
      rintro e w26 ⟨hgot, hb⟩
      replace hst := hst.below hb
      clear hb r25l r25a r25b r25c
      obtain ⟨q, rfl, k1, k2, k3, k4, qin⟩ := hgot
      have Hq := Lib.hid (And.intro k1 (And.intro k2 (And.intro k3 k4)))
      clear k1 k2 k3 k4
      obtain ⟨r27l, r27a, r27b, r27c, _, _, _⟩ := (hst.get (b := w24.heap.size) (g := p) (by simp)).box
      replace hst := hst.push q qin 24
      go_wp2_with fail
      refine (beside_sides _ _ p q _ (grids_two p q (hst.inn (b := w24.heap.size) (g := p) (by simp)) (hst.inn (b := w26.heap.size) (g := q) (by simp)) (by simp)) (by intro hh; cases hh) (Nat.le_refl _) R (c - 0) (C - c) Hp.out.1 Hp.out.2.1 Hp.out.2.2.1 Hq.out.1 Hq.out.2.1 Hq.out.2.2.1 hR (by rw [eC.out]; exact hC) (by rw [eC.out]; exact hle)).mono ?_
      rintro e w28 ⟨hgot, hb⟩
      replace hst := (hst.alloc (.cells #[.int .i64 p.r, .int .i64 p.c, .slice p.a p.n p.cap, .int .i64 q.r, .int .i64 q.c, .slice q.a q.n q.cap] 24)).below hb
      clear hb r27l r27a r27b r27c
      obtain ⟨y, rfl, k1, k2, k3, k4, yin⟩ := hgot
      have Hy := Lib.hid (And.intro k1 (And.intro k2 (And.intro k3 k4)))
      clear k1 k2 k3 k4
      have HY2 := Lib.hid (show y.r = R ∧ y.c = C ∧ y.n = R * C ∧ y.v = g0.v from ⟨Hy.out.1, by rw [Hy.out.2.1, eC.out], by rw [Hy.out.2.2.1, eC.out], by
        rw [Hy.out.2.2.2, eC.out, Hp.out.2.2.2, Hq.out.2.2.2]
        refine tab_self g0.v R C HVL.out _ fun i j hi hj => ?_
        by_cases hj2 : j < c - 0
        · rw [if_pos hj2, tab_at R (c - 0) _ i j hi hj2, Nat.zero_add]
        · rw [if_neg hj2, tab_at R (C - c) _ i (j - (c - 0)) hi (by omega), show c + (j - (c - 0)) = j by omega]⟩)
      have hle2 : C * R ≤ 1048576 := by rw [Nat.mul_comm]; exact hle
      obtain ⟨r29l, r29a, r29b, r29c, _, _, _⟩ := (hst.get (b := w.heap.size) (g := g0) (by simp)).box
      replace hst := hst.push y yin 24
      go_wp2_with fail
      refine (turn_gr g0 R C _ (hst.inn (b := w.heap.size) (g := g0) (by simp)) HG.out.1 HG.out.2.1 HG.out.2.2 hR hC hle).mono ?_
      rintro e w30 ⟨hgot, hb⟩
      replace hst := hst.below hb
      clear hb r29l r29a r29b r29c
      obtain ⟨t, rfl, k1, k2, k3, k4, tin⟩ := hgot
      have Ht := Lib.hid (And.intro k1 (And.intro k2 (And.intro k3 k4)))
      clear k1 k2 k3 k4
      replace hst := hst.push t tin 24
      go_wp2_with fail
      refine (turn_gr t C R _ (hst.inn (b := w30.heap.size) (g := t) (by simp)) Ht.out.1 Ht.out.2.1 Ht.out.2.2.1 hC hR hle2).mono ?_
      rintro e w31 ⟨hgot, hb⟩
      replace hst := hst.below hb
      clear hb
      obtain ⟨z, rfl, k1, k2, k3, k4, zin⟩ := hgot
      have Hz := Lib.hid (And.intro k1 (And.intro k2 (And.intro k3 k4)))
      clear k1 k2 k3 k4
      have HZ2 := Lib.hid (show z.r = R ∧ z.c = C ∧ z.n = R * C ∧ z.v = g0.v from ⟨Hz.out.1, Hz.out.2.1, Hz.out.2.2.1, by
        rw [Hz.out.2.2.2, Ht.out.2.2.2]
        refine tab_self g0.v R C HVL.out _ fun i j hi hj => ?_
        rw [tab_at C R _ j i hj hi]⟩)
      obtain ⟨r32l, r32a, r32b, r32c, _, _, _⟩ := (hst.get (b := w22.heap.size) (g := x) (by simp)).box
      obtain ⟨r33l, r33a, r33b, r33c, _, _, _⟩ := (hst.get (b := w.heap.size) (g := g0) (by simp)).box
      replace hst := hst.push z zin 24
      go_wp2_with fail
      refine (held_gr x g0 R C _ (hst.inn (b := w22.heap.size) (g := x) (by simp)) (hst.inn (b := w.heap.size) (g := g0) (by simp)) HX2.out.1 HX2.out.2.1 HX2.out.2.2.1 HG.out.1 HG.out.2.1 HG.out.2.2 HX2.out.2.2.2).mono ?_
      rintro e w34 ⟨rfl, hb⟩
      replace hst := hst.below hb
      clear hb r32l r32a r32b r32c r33l r33a r33b r33c
      obtain ⟨r35l, r35a, r35b, r35c, _, _, _⟩ := (hst.get (b := w28.heap.size) (g := y) (by simp)).box
      obtain ⟨r36l, r36a, r36b, r36c, _, _, _⟩ := (hst.get (b := w.heap.size) (g := g0) (by simp)).box
      go_wp2_with fail
      refine (held_gr y g0 R C _ (hst.inn (b := w28.heap.size) (g := y) (by simp)) (hst.inn (b := w.heap.size) (g := g0) (by simp)) HY2.out.1 HY2.out.2.1 HY2.out.2.2.1 HG.out.1 HG.out.2.1 HG.out.2.2 HY2.out.2.2.2).mono ?_
      rintro e w37 ⟨rfl, hb⟩
      replace hst := hst.below hb
      clear hb r35l r35a r35b r35c r36l r36a r36b r36c
      obtain ⟨r38l, r38a, r38b, r38c, _, _, _⟩ := (hst.get (b := w31.heap.size) (g := z) (by simp)).box
      obtain ⟨r39l, r39a, r39b, r39c, _, _, _⟩ := (hst.get (b := w.heap.size) (g := g0) (by simp)).box
      go_wp2_with fail
      refine (held_gr z g0 R C _ (hst.inn (b := w31.heap.size) (g := z) (by simp)) (hst.inn (b := w.heap.size) (g := g0) (by simp)) HZ2.out.1 HZ2.out.2.1 HZ2.out.2.2.1 HG.out.1 HG.out.2.1 HG.out.2.2 HZ2.out.2.2.2).mono ?_
      rintro e w40 ⟨rfl, hb⟩
      replace hst := hst.below hb
      clear hb r38l r38a r38b r38c r39l r39a r39b r39c
      have hB := hst.bel
      clear hst
      go_wp2
      go_ret
      exact ⟨rfl, hB⟩

set_option maxRecDepth 100000 in
theorem lifted (os : Os) (started : os.Started) (H : Type) (enc : TypeId × Value → H) :
    ReturnsInHanded {} Try.checked os 7 .any (Rows.gridBackSpec.pre6 enc Try.prog Try.f7 Rows.gridBackRow.domain false) (Rows.gridBackSpec.post enc Try.prog Try.f7 false true false false) := by
  refine returnsInHanded_of_change (C := Try.checked) own started (by kernel_rfl) Try.func7
    (ChangeSpec.witness6 (enc := enc) (C := Try.checked) false ⟨#[], #[.agg #[.int .i64 0, .int .i64 0, .slice none 0 0], .int .i64 0], []⟩ 8 (by kernel_rfl) (by kernel_rfl) (by kernel_rfl) (by kernel_rfl)) ?_
  intro W base args ds gs before hval0 hW hcnd _
  have hval : ∀ (j : Nat) t v, Try.f7.params[j]? = some t → args[j]? = some v → Value.okWide Try.prog W .any base t v := hval0
  have hW' := hW
  obtain ⟨p, q, hA0, hV, rfl, hfz, hnd⟩ := hW
  have hA : DataW.TrodAll enc Try.prog W 0 (fun _ => true) true Try.f7.params.toList args.toList ds p := hA0
  rw [Try.params7] at hA hval
  obtain ⟨v0, vs0, d0, ds0, p0, q0, hargs, rfl, rfl, h0, r0⟩ := trodAll_cons hA
  obtain ⟨v1, vs1, d1, ds1, p1, q1, rfl, rfl, rfl, h1, r1⟩ := trodAll_cons r0
  obtain ⟨rfl, rfl, rfl⟩ := trodAll_nil r1
  obtain rfl : args = #[v0, v1] := by cases args; simp_all
  obtain ⟨rfl, rfl⟩ := trodVars_none hV
  have k0 := h0
  have lt0 : ∀ x ∈ p0, x.block < W.heap.size := by obtain ⟨m, hm⟩ := k0; exact DataW.trod_lt m _ _ _ hm
  obtain ⟨g0, rfl, w0⟩ := open_grid (hval 0 24 v0 rfl rfl) h0
  obtain ⟨a1, rfl, rfl, rfl, w1⟩ := open_int Try.underlying3 (hval 1 3 v1 rfl rfl) h1
  clear hA0 hval0
  refine (walk g0 a1 W w0 w1).mono fun e W' ⟨he, bel⟩ => ?_
  subst he
  exact ⟨_, rfl, _, _, _, [], _, [], hW', trodAll_mk1 (shut_bool Try.underlying4 _), (trodAll_cons_mk (Below.trod laidOut (by kernel_rfl) (of_decide_eq_true (by kernel_rfl)) k0 bel lt0) (trodAll_cons_mk (shut_int Try.underlying3 w1) trodAll_mk0)), rfl, bel.frame _, fun h => by cases h⟩

theorem over : Rows.gridBackRow.holds Try.pinned (OpenSpec.ofChange Rows.gridBackSpec) :=
  OpenClaim.holds_of_wide 7 Try.f7 rfl rfl rfl rfl rfl rfl rfl ⟨rfl, rfl, rfl, rfl, rfl⟩ rfl rfl rfl rfl rfl (by kernel_rfl) Try.func7 (by kernel_rfl)
    (of_decide_eq_true (by kernel_rfl)) (by unfold Func.isWrapper; first | (rw [if_pos (by decide +kernel)]; kernel_rfl) | (rw [if_neg (by decide +kernel)]; exact ⟨rfl, rfl⟩))
    (fun os started H enc _ => lifted os started H enc)

/-- ████ THE STATEMENT ████ -/
theorem proved : Rows.GridBackSaid := over
#print axioms proved
end Go.Proofs.Ytocjcfblpifdhaa.gridBack
