/-
  Proved: for every three grids GridChains returns true (of three grids it does not matter which two are multiplied first) and nothing that was in memory turns. Conditions: none.
-/
import Derived.Test.YtocjcfblpifdhaaRows
import Derived.WalkKit
import Derived.ProofKit
import Derived.OpenShut
import Derived.ShutString
import Derived.ChangeOld
import Derived.Below
import Derived.Test.YtocjcfblpifdhaaGridRow
import Derived.Test.YtocjcfblpifdhaaLawKit
import Derived.Test.YtocjcfblpifdhaaProdMath
namespace Go.Proofs.Ytocjcfblpifdhaa.gridChains
open Go.ChangeShapes Go.WideShapes Go.ChangeAt Go.RowKit
open Go.ChangeMaps (open_string shut_string)
set_option linter.unusedVariables false

theorem own : ownKnob Try.prog.godebug = none := by kernel_rfl
theorem laidOut : laidOutB Try.prog = true := by kernel_rfl

set_option maxHeartbeats 8000000 in
set_option maxRecDepth 100000 in
theorem walk (g0 : Gr) (g1 : Gr) (g2 : Gr) (w : World) (h0 : g0.In w) (h1 : g1.In w) (h2 : g2.In w) :
    Calls Try.prog 9 #[.agg #[.int .i64 g0.r, .int .i64 g0.c, .slice g0.a g0.n g0.cap], .agg #[.int .i64 g1.r, .int .i64 g1.c, .slice g1.a g1.n g1.cap], .agg #[.int .i64 g2.r, .int .i64 g2.c, .slice g2.a g2.n g2.cap]] w fun e w' => e = .returned (.bool true) ∧ Below w.heap.size w w' := by
  have hst := (((st_nil w).box g0 h0 24 (b := w.heap.size) rfl).box g1 h1 24 (b := w.heap.size + 1) (by simp)).box g2 h2 24 (b := w.heap.size + 1 + 1) (by simp)
  clear h0 h1 h2
  cases hsm : smallB [g0, g1, g2] with
  | false =>
    go_enter Try.func9, Try.ntmps9
    go_wp2_with fail
    refine (awake _).mono ?_
    rintro e w1 ⟨rfl, hb⟩
    replace hst := hst.below hb
    clear hb
    obtain ⟨r2l, r2a, r2b, r2c, _, _, _⟩ := (hst.get (b := w.heap.size) (g := g0) (by simp)).box
    obtain ⟨r3l, r3a, r3b, r3c, _, _, _⟩ := (hst.get (b := w.heap.size + 1) (g := g1) (by simp)).box
    obtain ⟨r4l, r4a, r4b, r4c, _, _, _⟩ := (hst.get (b := w.heap.size + 1 + 1) (g := g2) (by simp)).box
    have hG := fun T => grids_three (T := T) (b := w1.heap.size) g0 g1 g2 (hst.inn (b := w.heap.size) (g := g0) (by simp)) (hst.inn (b := w.heap.size + 1) (g := g1) (by simp)) (hst.inn (b := w.heap.size + 1 + 1) (g := g2) (by simp)) rfl
    go_wp2_with fail
    refine (small_c _ _ _ [g0, g1, g2] _ (hG _) false hsm).mono ?_
    rintro e5 e5w ⟨rfl, rfl⟩
    replace hst := hst.alloc (.cells #[.int .i64 g0.r, .int .i64 g0.c, .slice g0.a g0.n g0.cap, .int .i64 g1.r, .int .i64 g1.c, .slice g1.a g1.n g1.cap, .int .i64 g2.r, .int .i64 g2.c, .slice g2.a g2.n g2.cap] 24)
    clear hG hsm r2l r2a r2b r2c r3l r3a r3b r3c r4l r4a r4b r4c
    go_wp2_with fail
    refine (awake _).mono ?_
    rintro e w6 ⟨rfl, hb⟩
    replace hst := hst.below hb
    clear hb
    have hB := hst.bel
    clear hst
    go_wp2
    go_ret
    exact ⟨rfl, hB⟩
  | true =>
    go_enter Try.func9, Try.ntmps9
    go_wp2_with fail
    refine (awake _).mono ?_
    rintro e w7 ⟨rfl, hb⟩
    replace hst := hst.below hb
    clear hb
    obtain ⟨r8l, r8a, r8b, r8c, _, _, _⟩ := (hst.get (b := w.heap.size) (g := g0) (by simp)).box
    obtain ⟨r9l, r9a, r9b, r9c, _, _, _⟩ := (hst.get (b := w.heap.size + 1) (g := g1) (by simp)).box
    obtain ⟨r10l, r10a, r10b, r10c, _, _, _⟩ := (hst.get (b := w.heap.size + 1 + 1) (g := g2) (by simp)).box
    have hG := fun T => grids_three (T := T) (b := w7.heap.size) g0 g1 g2 (hst.inn (b := w.heap.size) (g := g0) (by simp)) (hst.inn (b := w.heap.size + 1) (g := g1) (by simp)) (hst.inn (b := w.heap.size + 1 + 1) (g := g2) (by simp)) rfl
    go_wp2_with fail
    refine (small_c _ _ _ [g0, g1, g2] _ (hG _) true hsm).mono ?_
    rintro e11 e11w ⟨rfl, rfl⟩
    replace hst := hst.alloc (.cells #[.int .i64 g0.r, .int .i64 g0.c, .slice g0.a g0.n g0.cap, .int .i64 g1.r, .int .i64 g1.c, .slice g1.a g1.n g1.cap, .int .i64 g2.r, .int .i64 g2.c, .slice g2.a g2.n g2.cap] 24)
    clear hG hsm r8l r8a r8b r8c r9l r9a r9b r9c r10l r10a r10b r10c
    obtain ⟨r12l, r12a, r12b, r12c, _, _, _⟩ := (hst.get (b := w.heap.size) (g := g0) (by simp)).box
    obtain ⟨r13l, r13a, r13b, r13c, _, _, _⟩ := (hst.get (b := w.heap.size + 1) (g := g1) (by simp)).box
    go_wp2_with fail
    refine (times_gr g0 g1 _ (hst.inn (b := w.heap.size) (g := g0) (by simp)) (hst.inn (b := w.heap.size + 1) (g := g1) (by simp))).mono ?_
    rintro e w14 ⟨hc1, hb⟩
    replace hst := hst.below hb
    clear hb r12l r12a r12b r12c r13l r13a r13b r13c
    rcases hc1 with ⟨-, he⟩ | ⟨hy1, R, K, C, ⟨e1, e2, e3, e4, hR, hK, hC, hle⟩, hgot⟩
    ·
      unfold NoGrid at he
      subst he
      obtain ⟨r15l, r15a, r15b, r15c, _, _, _⟩ := (hst.get (b := w.heap.size + 1) (g := g1) (by simp)).box
      obtain ⟨r16l, r16a, r16b, r16c, _, _, _⟩ := (hst.get (b := w.heap.size + 1 + 1) (g := g2) (by simp)).box
      replace hst := hst.zero 24
      go_wp2_with fail
      refine (times_gr g1 g2 _ (hst.inn (b := w.heap.size + 1) (g := g1) (by simp)) (hst.inn (b := w.heap.size + 1 + 1) (g := g2) (by simp))).mono ?_
      rintro e w17 ⟨hc2, hb⟩
      replace hst := hst.below hb
      clear hb r15l r15a r15b r15c r16l r16a r16b r16c
      rcases hc2 with ⟨-, he⟩ | ⟨-, R2, K2, C2, -, hgot⟩
      ·
        unfold NoGrid at he
        subst he
        replace hst := hst.zero 24
        have hB := hst.bel
        clear hst
        go_wp2
        go_ret
        exact ⟨rfl, hB⟩
      ·
        obtain ⟨k2, rfl, -, -, -, -, kin⟩ := hgot
        replace hst := hst.push k2 kin 24
        have hB := hst.bel
        clear hst
        go_wp2
        go_ret
        exact ⟨rfl, hB⟩
    ·
      have HF := Lib.hid (times_ok hy1)
      clear hy1
      obtain ⟨p, rfl, p1, p2, p3, p4, pin⟩ := hgot
      have HP := Lib.hid (And.intro p1 (And.intro p2 (And.intro p3 (And.intro p4 (And.intro e1 (And.intro e2 (And.intro e3 e4)))))))
      clear p1 p2 p3 p4 e1 e2 e3 e4
      obtain ⟨r18l, r18a, r18b, r18c, _, _, _⟩ := (hst.get (b := w.heap.size + 1) (g := g1) (by simp)).box
      obtain ⟨r19l, r19a, r19b, r19c, _, _, _⟩ := (hst.get (b := w.heap.size + 1 + 1) (g := g2) (by simp)).box
      replace hst := hst.push p pin 24
      go_wp2_with fail
      refine (times_gr g1 g2 _ (hst.inn (b := w.heap.size + 1) (g := g1) (by simp)) (hst.inn (b := w.heap.size + 1 + 1) (g := g2) (by simp))).mono ?_
      rintro e w20 ⟨hc2, hb⟩
      replace hst := hst.below hb
      clear hb r18l r18a r18b r18c r19l r19a r19b r19c
      rcases hc2 with ⟨-, he⟩ | ⟨hy2, K2, C2, M, ⟨f1, f2, f3, f4, hK2, hC2, hM, hle2⟩, hgot⟩
      ·
        unfold NoGrid at he
        subst he
        replace hst := hst.zero 24
        have hB := hst.bel
        clear hst
        go_wp2
        go_ret
        exact ⟨rfl, hB⟩
      ·
        have HF2 := Lib.hid (times_ok hy2)
        have HY2 := Lib.hid hy2
        clear hy2
        obtain ⟨q, rfl, q1, q2, q3, q4, qin⟩ := hgot
        obtain rfl : K = K2 := by have := HP.out; omega
        obtain rfl : C = C2 := by have := HP.out; omega
        have HQ := Lib.hid (And.intro q1 (And.intro q2 (And.intro q3 (And.intro q4 (And.intro f1 (And.intro f2 (And.intro f3 f4)))))))
        clear q1 q2 q3 q4 f1 f2 f3 f4
        obtain ⟨r21l, r21a, r21b, r21c, _, _, _⟩ := (hst.get (b := w14.heap.size) (g := p) (by simp)).box
        obtain ⟨r22l, r22a, r22b, r22c, _, _, _⟩ := (hst.get (b := w.heap.size + 1 + 1) (g := g2) (by simp)).box
        replace hst := hst.push q qin 24
        go_wp2_with fail
        refine (times_gr p g2 _ (hst.inn (b := w14.heap.size) (g := p) (by simp)) (hst.inn (b := w.heap.size + 1 + 1) (g := g2) (by simp))).mono ?_
        rintro e w23 ⟨hc3, hb⟩
        replace hst := hst.below hb
        clear hb r21l r21a r21b r21c r22l r22a r22b r22c
        rcases hc3 with ⟨hno, he⟩ | ⟨-, R3, K3, M3, ⟨m1, m2, m3, m4, -, -, -, hle3⟩, hgot⟩
        ·
          unfold NoGrid at he
          subst he
          have hno2 : (fitB g0.r g0.c g0.n && (fitB q.r q.c q.n && (decide (g0.c = q.r) && newB g0.r q.c))) = false := by
            have hp := HP.out
            have hq := HQ.out
            by_cases hsm2 : R * M ≤ 1048576
            · exfalso
              have hfp : fitB p.r p.c p.n = true := fit_of hp.1 hp.2.1 hp.2.2.1 hR hC hle
              rw [hfp, Bool.true_and] at hno
              have : newB p.r g2.c = true := by
                rw [hp.1, hq.2.2.2.2.2.2.2]
                unfold newB sideB
                simp only [Bool.and_eq_true, decide_eq_true_eq]
                refine ⟨by omega, by omega, ?_⟩
                have e : ((R * M : Nat) : Int) = (R : Int) * M := by push_cast; rfl
                omega
              rw [this, hp.2.1, hq.2.2.2.2.2.2.1, decide_eq_true rfl, Bool.and_true, Bool.and_true] at hno
              have hfz : fitB g2.r g2.c g2.n = true := by have h := HY2.out; simp only [Bool.and_eq_true] at h; exact h.2.1
              rw [hq.2.2.2.2.2.2.1] at hfz
              rw [hfz] at hno
              cases hno
            · have : newB g0.r q.c = false := by
                rw [hp.2.2.2.2.1, hq.2.1]
                unfold newB
                rw [Bool.and_eq_false_iff]; right
                rw [Bool.and_eq_false_iff]; right
                have e : ((R * M : Nat) : Int) = (R : Int) * M := by push_cast; rfl
                exact decide_eq_false (by omega)
              rw [this, Bool.and_false, Bool.and_false, Bool.and_false]
          have HNO := Lib.hid hno2
          clear hno hno2
          obtain ⟨r24l, r24a, r24b, r24c, _, _, _⟩ := (hst.get (b := w.heap.size) (g := g0) (by simp)).box
          obtain ⟨r25l, r25a, r25b, r25c, _, _, _⟩ := (hst.get (b := w20.heap.size) (g := q) (by simp)).box
          replace hst := hst.zero 24
          go_wp2_with fail
          refine (times_gr g0 q _ (hst.inn (b := w.heap.size) (g := g0) (by simp)) (hst.inn (b := w20.heap.size) (g := q) (by simp))).mono ?_
          rintro e w26 ⟨hc4, hb⟩
          replace hst := hst.below hb
          clear hb r24l r24a r24b r24c r25l r25a r25b r25c
          rcases hc4 with ⟨-, he⟩ | ⟨hy, -⟩
          ·
            unfold NoGrid at he
            subst he
            replace hst := hst.zero 24
            have hB := hst.bel
            clear hst
            go_wp2
            go_ret
            exact ⟨rfl, hB⟩
          ·
            rw [HNO.out] at hy; cases hy
        ·
          obtain ⟨x, rfl, x1, x2, x3, x4, xin⟩ := hgot
          obtain rfl : R = R3 := by have := HP.out; omega
          obtain rfl : C = K3 := by have := HP.out; omega
          obtain rfl : M = M3 := by have := HQ.out; omega
          have HX := Lib.hid (And.intro x1 (And.intro x2 (And.intro x3 x4)))
          clear x1 x2 x3 x4 m1 m2 m3 m4
          have hn0 : g0.n = R * K ∧ R * K ≤ 1048576 := by
            obtain ⟨R9, K9, C9, b1, b2, b3, b4, b5, b6, _, _, _, b7, _, _⟩ := HF.out
            have hp := HP.out
            obtain rfl : R = R9 := by have := hp.2.2.2.2.1; omega
            obtain rfl : K = K9 := by have := hp.2.2.2.2.2.1; omega
            exact ⟨b5, b7⟩
          have HN0 := Lib.hid hn0
          have hl0 := hn0.2
          clear hn0
          obtain ⟨r27l, r27a, r27b, r27c, _, _, _⟩ := (hst.get (b := w.heap.size) (g := g0) (by simp)).box
          obtain ⟨r28l, r28a, r28b, r28c, _, _, _⟩ := (hst.get (b := w20.heap.size) (g := q) (by simp)).box
          replace hst := hst.push x xin 24
          go_wp2_with fail
          refine (times_sides g0 q R K M _ (hst.inn (b := w.heap.size) (g := g0) (by simp)) (hst.inn (b := w20.heap.size) (g := q) (by simp)) HP.out.2.2.2.2.1 HP.out.2.2.2.2.2.1 HN0.out.1 HQ.out.1 HQ.out.2.1 HQ.out.2.2.1 hR hK hM hl0 hle2 hle3).mono ?_
          rintro e w29 ⟨hgot, hb⟩
          replace hst := hst.below hb
          clear hb r27l r27a r27b r27c r28l r28a r28b r28c
          obtain ⟨y, rfl, y1, y2, y3, y4, yin⟩ := hgot
          have hv : y.v = x.v := by
            rw [y4, HX.out.2.2.2]
            refine tab_congr _ _ _ _ fun i j hi hj => ?_
            rw [HQ.out.2.2.2.1, HP.out.2.2.2.1]
            exact (prod_assoc g0.v g1.v g2.v R K C M i j hi hj).symm
          have HV := Lib.hid hv
          have HY := Lib.hid (And.intro y1 (And.intro y2 y3))
          clear hv y1 y2 y3 y4
          obtain ⟨r30l, r30a, r30b, r30c, _, _, _⟩ := (hst.get (b := w23.heap.size) (g := x) (by simp)).box
          replace hst := hst.push y yin 24
          go_wp2_with fail
          refine (held_gr y x R M _ (hst.inn (b := w29.heap.size) (g := y) (by simp)) (hst.inn (b := w23.heap.size) (g := x) (by simp)) HY.out.1 HY.out.2.1 HY.out.2.2 HX.out.1 HX.out.2.1 HX.out.2.2.1 HV.out).mono ?_
          rintro e w31 ⟨rfl, hb⟩
          replace hst := hst.below hb
          clear hb r30l r30a r30b r30c
          have hB := hst.bel
          clear hst
          go_wp2
          go_ret
          exact ⟨rfl, hB⟩

set_option maxRecDepth 100000 in
theorem lifted (os : Os) (started : os.Started) (H : Type) (enc : TypeId × Value → H) :
    ReturnsInHanded {} Try.checked os 9 .any (Rows.gridChainsSpec.pre6 enc Try.prog Try.f9 Rows.gridChainsRow.domain false) (Rows.gridChainsSpec.post enc Try.prog Try.f9 false true false false) := by
  refine returnsInHanded_of_change (C := Try.checked) own started (by kernel_rfl) Try.func9
    (ChangeSpec.witness6 (enc := enc) (C := Try.checked) false ⟨#[], #[.agg #[.int .i64 0, .int .i64 0, .slice none 0 0], .agg #[.int .i64 0, .int .i64 0, .slice none 0 0], .agg #[.int .i64 0, .int .i64 0, .slice none 0 0]], []⟩ 8 (by kernel_rfl) (by kernel_rfl) (by kernel_rfl) (by kernel_rfl)) ?_
  intro W base args ds gs before hval0 hW hcnd _
  have hval : ∀ (j : Nat) t v, Try.f9.params[j]? = some t → args[j]? = some v → Value.okWide Try.prog W .any base t v := hval0
  have hW' := hW
  obtain ⟨p, q, hA0, hV, rfl, hfz, hnd⟩ := hW
  have hA : DataW.TrodAll enc Try.prog W 0 (fun _ => true) true Try.f9.params.toList args.toList ds p := hA0
  rw [Try.params9] at hA hval
  obtain ⟨v0, vs0, d0, ds0, p0, q0, hargs, rfl, rfl, h0, r0⟩ := trodAll_cons hA
  obtain ⟨v1, vs1, d1, ds1, p1, q1, rfl, rfl, rfl, h1, r1⟩ := trodAll_cons r0
  obtain ⟨v2, vs2, d2, ds2, p2, q2, rfl, rfl, rfl, h2, r2⟩ := trodAll_cons r1
  obtain ⟨rfl, rfl, rfl⟩ := trodAll_nil r2
  obtain rfl : args = #[v0, v1, v2] := by cases args; simp_all
  obtain ⟨rfl, rfl⟩ := trodVars_none hV
  have k0 := h0
  have lt0 : ∀ x ∈ p0, x.block < W.heap.size := by obtain ⟨m, hm⟩ := k0; exact DataW.trod_lt m _ _ _ hm
  obtain ⟨g0, rfl, w0⟩ := open_grid (hval 0 24 v0 rfl rfl) h0
  have k1 := h1
  have lt1 : ∀ x ∈ p1, x.block < W.heap.size := by obtain ⟨m, hm⟩ := k1; exact DataW.trod_lt m _ _ _ hm
  obtain ⟨g1, rfl, w1⟩ := open_grid (hval 1 24 v1 rfl rfl) h1
  have k2 := h2
  have lt2 : ∀ x ∈ p2, x.block < W.heap.size := by obtain ⟨m, hm⟩ := k2; exact DataW.trod_lt m _ _ _ hm
  obtain ⟨g2, rfl, w2⟩ := open_grid (hval 2 24 v2 rfl rfl) h2
  clear hA0 hval0
  refine (walk g0 g1 g2 W w0 w1 w2).mono fun e W' ⟨he, bel⟩ => ?_
  subst he
  exact ⟨_, rfl, _, _, _, [], _, [], hW', trodAll_mk1 (shut_bool Try.underlying4 _), (trodAll_cons_mk (Below.trod laidOut (by kernel_rfl) (of_decide_eq_true (by kernel_rfl)) k0 bel lt0) (trodAll_cons_mk (Below.trod laidOut (by kernel_rfl) (of_decide_eq_true (by kernel_rfl)) k1 bel lt1) (trodAll_cons_mk (Below.trod laidOut (by kernel_rfl) (of_decide_eq_true (by kernel_rfl)) k2 bel lt2) trodAll_mk0))), rfl, bel.frame _, fun h => by cases h⟩

theorem over : Rows.gridChainsRow.holds Try.pinned (OpenSpec.ofChange Rows.gridChainsSpec) :=
  OpenClaim.holds_of_wide 9 Try.f9 rfl rfl rfl rfl rfl rfl rfl ⟨rfl, rfl, rfl, rfl, rfl⟩ rfl rfl rfl rfl rfl (by kernel_rfl) Try.func9 (by kernel_rfl)
    (of_decide_eq_true (by kernel_rfl)) (by unfold Func.isWrapper; first | (rw [if_pos (by decide +kernel)]; kernel_rfl) | (rw [if_neg (by decide +kernel)]; exact ⟨rfl, rfl⟩))
    (fun os started H enc _ => lifted os started H enc)

/-- ████ THE STATEMENT ████ -/
theorem proved : Rows.GridChainsSaid := over
#print axioms proved
end Go.Proofs.Ytocjcfblpifdhaa.gridChains
