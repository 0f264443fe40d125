/-
  Proved: for every three grids GridSpreads returns true (a product with a sum is the sum of products; the product turned is that of the turned ones, the other way round) and nothing that was in memory turns. Conditions: none.
-/
import Derived.Test.YtocjcfblpifdhaaRows
import Derived.WalkKit
import Derived.ProofKit
import Derived.OpenShut
import Derived.ShutString
import Derived.ChangeOld
import Derived.Below
import Derived.Test.YtocjcfblpifdhaaGridRow
import Derived.Test.YtocjcfblpifdhaaLawKit2
namespace Go.Proofs.Ytocjcfblpifdhaa.gridSpreads
open Go.ChangeShapes Go.WideShapes Go.ChangeAt Go.RowKit
open Go.ChangeMaps (open_string shut_string)
set_option linter.unusedVariables false

theorem own : ownKnob Try.prog.godebug = none := by kernel_rfl
theorem laidOut : laidOutB Try.prog = true := by kernel_rfl

set_option maxHeartbeats 8000000 in
set_option maxRecDepth 100000 in
theorem walk (g0 : Gr) (g1 : Gr) (g2 : Gr) (w : World) (h0 : g0.In w) (h1 : g1.In w) (h2 : g2.In w) :
    Calls Try.prog 10 #[.agg #[.int .i64 g0.r, .int .i64 g0.c, .slice g0.a g0.n g0.cap], .agg #[.int .i64 g1.r, .int .i64 g1.c, .slice g1.a g1.n g1.cap], .agg #[.int .i64 g2.r, .int .i64 g2.c, .slice g2.a g2.n g2.cap]] w fun e w' => e = .returned (.bool true) ∧ Below w.heap.size w w' := by
  have hst := (((st_nil w).box g0 h0 24 (b := w.heap.size) rfl).box g1 h1 24 (b := w.heap.size + 1) (by simp)).box g2 h2 24 (b := w.heap.size + 1 + 1) (by simp)
  clear h0 h1 h2
  cases hsm : smallB [g0, g1, g2] with
  | false =>
    go_enter Try.func10, Try.ntmps10
    go_wp2_with fail
    refine (awake _).mono ?_
    rintro e w1 ⟨rfl, hb⟩
    replace hst := hst.below hb
    clear hb
    obtain ⟨r2l, r2a, r2b, r2c, _, _, _⟩ := (hst.get (b := w.heap.size) (g := g0) (by simp)).box
    obtain ⟨r3l, r3a, r3b, r3c, _, _, _⟩ := (hst.get (b := w.heap.size + 1) (g := g1) (by simp)).box
    obtain ⟨r4l, r4a, r4b, r4c, _, _, _⟩ := (hst.get (b := w.heap.size + 1 + 1) (g := g2) (by simp)).box
    have hG := fun T => grids_three (T := T) (b := w1.heap.size) g0 g1 g2 (hst.inn (b := w.heap.size) (g := g0) (by simp)) (hst.inn (b := w.heap.size + 1) (g := g1) (by simp)) (hst.inn (b := w.heap.size + 1 + 1) (g := g2) (by simp)) rfl
    go_wp2_with fail
    refine (small_c _ _ _ [g0, g1, g2] _ (hG _) false hsm).mono ?_
    rintro e5 e5w ⟨rfl, rfl⟩
    replace hst := hst.alloc (.cells #[.int .i64 g0.r, .int .i64 g0.c, .slice g0.a g0.n g0.cap, .int .i64 g1.r, .int .i64 g1.c, .slice g1.a g1.n g1.cap, .int .i64 g2.r, .int .i64 g2.c, .slice g2.a g2.n g2.cap] 24)
    clear hG hsm r2l r2a r2b r2c r3l r3a r3b r3c r4l r4a r4b r4c
    go_wp2_with fail
    refine (awake _).mono ?_
    rintro e w6 ⟨rfl, hb⟩
    replace hst := hst.below hb
    clear hb
    have hB := hst.bel
    clear hst
    go_wp2
    go_ret
    exact ⟨rfl, hB⟩
  | true =>
    go_enter Try.func10, Try.ntmps10
    go_wp2_with fail
    refine (awake _).mono ?_
    rintro e w7 ⟨rfl, hb⟩
    replace hst := hst.below hb
    clear hb
    obtain ⟨r8l, r8a, r8b, r8c, _, _, _⟩ := (hst.get (b := w.heap.size) (g := g0) (by simp)).box
    obtain ⟨r9l, r9a, r9b, r9c, _, _, _⟩ := (hst.get (b := w.heap.size + 1) (g := g1) (by simp)).box
    obtain ⟨r10l, r10a, r10b, r10c, _, _, _⟩ := (hst.get (b := w.heap.size + 1 + 1) (g := g2) (by simp)).box
    have hG := fun T => grids_three (T := T) (b := w7.heap.size) g0 g1 g2 (hst.inn (b := w.heap.size) (g := g0) (by simp)) (hst.inn (b := w.heap.size + 1) (g := g1) (by simp)) (hst.inn (b := w.heap.size + 1 + 1) (g := g2) (by simp)) rfl
    go_wp2_with fail
    refine (small_c _ _ _ [g0, g1, g2] _ (hG _) true hsm).mono ?_
    rintro e11 e11w ⟨rfl, rfl⟩
    replace hst := hst.alloc (.cells #[.int .i64 g0.r, .int .i64 g0.c, .slice g0.a g0.n g0.cap, .int .i64 g1.r, .int .i64 g1.c, .slice g1.a g1.n g1.cap, .int .i64 g2.r, .int .i64 g2.c, .slice g2.a g2.n g2.cap] 24)
    clear hG hsm r8l r8a r8b r8c r9l r9a r9b r9c r10l r10a r10b r10c
    obtain ⟨r12l, r12a, r12b, r12c, _, _, _⟩ := (hst.get (b := w.heap.size + 1) (g := g1) (by simp)).box
    obtain ⟨r13l, r13a, r13b, r13c, _, _, _⟩ := (hst.get (b := w.heap.size + 1 + 1) (g := g2) (by simp)).box
    go_wp2_with fail
    refine (add_gr _ _ g1 g2 _ (grids_two g1 g2 (hst.inn (b := w.heap.size + 1) (g := g1) (by simp)) (hst.inn (b := w.heap.size + 1 + 1) (g := g2) (by simp)) (by simp))).mono ?_
    rintro e w14 ⟨hc1, hb⟩
    replace hst := (hst.alloc (.cells #[.int .i64 g1.r, .int .i64 g1.c, .slice g1.a g1.n g1.cap, .int .i64 g2.r, .int .i64 g2.c, .slice g2.a g2.n g2.cap] 24)).below hb
    clear hb r12l r12a r12b r12c r13l r13a r13b r13c
    rcases hc1 with he | ⟨K, C, hS, hgot⟩
    ·
      unfold NoGrid at he
      subst he
      have hzero := zero_in
      obtain ⟨r15l, r15a, r15b, r15c, _, _, _⟩ := (hst.get (b := w.heap.size) (g := g0) (by simp)).box
      replace hst := hst.zero 24
      clear hzero
      go_wp2_with fail
      refine (times_gr g0 (⟨0, 0, none, 0, 0, []⟩ : Gr) _ (hst.inn (b := w.heap.size) (g := g0) (by simp)) (zero_in _)).mono ?_
      rintro e wz ⟨hc2, hb⟩
      replace hst := hst.below hb
      clear hb r15l r15a r15b r15c
      rcases hc2 with ⟨-, he⟩ | ⟨-, R2, K2, C2, -, hgot⟩
      ·
        unfold NoGrid at he
        subst he
        replace hst := hst.zero 24
        have hB := hst.bel
        clear hst
        go_wp2
        go_ret
        exact ⟨rfl, hB⟩
      ·
        obtain ⟨k2, rfl, -, -, -, -, kin⟩ := hgot
        replace hst := hst.push k2 kin 24
        have hB := hst.bel
        clear hst
        go_wp2
        go_ret
        exact ⟨rfl, hB⟩
    ·
      have HS := Lib.hid hS
      clear hS
      obtain ⟨s, rfl, k1, k2, k3, k4, sin⟩ := hgot
      have HSS := Lib.hid (And.intro k1 (And.intro k2 (And.intro k3 k4)))
      clear k1 k2 k3 k4
      obtain ⟨r16l, r16a, r16b, r16c, _, _, _⟩ := (hst.get (b := w.heap.size) (g := g0) (by simp)).box
      replace hst := hst.push s sin 24
      go_wp2_with fail
      refine (times_gr g0 s _ (hst.inn (b := w.heap.size) (g := g0) (by simp)) (hst.inn (b := w14.heap.size) (g := s) (by simp))).mono ?_
      rintro e w17 ⟨hc2, hb⟩
      replace hst := hst.below hb
      clear hb r16l r16a r16b r16c
      rcases hc2 with ⟨-, he⟩ | ⟨hy2, R, K2, C2, ⟨f1, f2, f3, f4, hR, hK2, hC2, hle2⟩, hgot⟩
      ·
        unfold NoGrid at he
        subst he
        replace hst := hst.zero 24
        have hB := hst.bel
        clear hst
        go_wp2
        go_ret
        exact ⟨rfl, hB⟩
      ·
        obtain rfl : K = K2 := by have := HSS.out; omega
        obtain rfl : C = C2 := by have := HSS.out; omega
        have hn0 : g0.n = R * K ∧ R * K ≤ 1048576 := by
          obtain ⟨R9, K9, C9, b1, b2, b3, b4, b5, b6, _, _, _, b7, _, _⟩ := times_ok hy2
          obtain rfl : R = R9 := by omega
          obtain rfl : K = K9 := by omega
          exact ⟨b5, b7⟩
        have H0 := Lib.hid (And.intro f1 (And.intro f2 hn0.1))
        have hl0 := hn0.2
        have hKC := HS.out.2.2.2.2.2.2.2.2
        have hCR : C * R ≤ 1048576 := by rw [Nat.mul_comm]; exact hle2
        have hCK : C * K ≤ 1048576 := by rw [Nat.mul_comm]; exact hKC
        have hKR : K * R ≤ 1048576 := by rw [Nat.mul_comm]; exact hl0
        clear hn0 hy2 f1 f2 f3 f4
        obtain ⟨x, rfl, k1, k2, k3, k4, xin⟩ := hgot
        have HX := Lib.hid (And.intro k1 (And.intro k2 (And.intro k3 k4)))
        clear k1 k2 k3 k4
        obtain ⟨r18l, r18a, r18b, r18c, _, _, _⟩ := (hst.get (b := w.heap.size) (g := g0) (by simp)).box
        obtain ⟨r19l, r19a, r19b, r19c, _, _, _⟩ := (hst.get (b := w.heap.size + 1) (g := g1) (by simp)).box
        replace hst := hst.push x xin 24
        go_wp2_with fail
        refine (times_sides g0 g1 R K C _ (hst.inn (b := w.heap.size) (g := g0) (by simp)) (hst.inn (b := w.heap.size + 1) (g := g1) (by simp)) H0.out.1 H0.out.2.1 H0.out.2.2 HS.out.1 HS.out.2.1 HS.out.2.2.2.2.1 hR hK2 hC2 hl0 hKC hle2).mono ?_
        rintro e w20 ⟨hgot, hb⟩
        replace hst := hst.below hb
        clear hb r18l r18a r18b r18c r19l r19a r19b r19c
        obtain ⟨p, rfl, k1, k2, k3, k4, pin⟩ := hgot
        have HP := Lib.hid (And.intro k1 (And.intro k2 (And.intro k3 k4)))
        clear k1 k2 k3 k4
        obtain ⟨r21l, r21a, r21b, r21c, _, _, _⟩ := (hst.get (b := w.heap.size) (g := g0) (by simp)).box
        obtain ⟨r22l, r22a, r22b, r22c, _, _, _⟩ := (hst.get (b := w.heap.size + 1 + 1) (g := g2) (by simp)).box
        replace hst := hst.push p pin 24
        go_wp2_with fail
        refine (times_sides g0 g2 R K C _ (hst.inn (b := w.heap.size) (g := g0) (by simp)) (hst.inn (b := w.heap.size + 1 + 1) (g := g2) (by simp)) H0.out.1 H0.out.2.1 H0.out.2.2 HS.out.2.2.1 HS.out.2.2.2.1 HS.out.2.2.2.2.2.1 hR hK2 hC2 hl0 hKC hle2).mono ?_
        rintro e w23 ⟨hgot, hb⟩
        replace hst := hst.below hb
        clear hb r21l r21a r21b r21c r22l r22a r22b r22c
        obtain ⟨q, rfl, k1, k2, k3, k4, qin⟩ := hgot
        have HQ := Lib.hid (And.intro k1 (And.intro k2 (And.intro k3 k4)))
        clear k1 k2 k3 k4
        obtain ⟨r24l, r24a, r24b, r24c, _, _, _⟩ := (hst.get (b := w20.heap.size) (g := p) (by simp)).box
        replace hst := hst.push q qin 24
        go_wp2_with fail
        refine (add_sides _ _ p q _ (grids_two p q (hst.inn (b := w20.heap.size) (g := p) (by simp)) (hst.inn (b := w23.heap.size) (g := q) (by simp)) (by simp)) R C HP.out.1 HP.out.2.1 HP.out.2.2.1 HQ.out.1 HQ.out.2.1 HQ.out.2.2.1 hR hC2 hle2).mono ?_
        rintro e w25 ⟨hgot, hb⟩
        replace hst := (hst.alloc (.cells #[.int .i64 p.r, .int .i64 p.c, .slice p.a p.n p.cap, .int .i64 q.r, .int .i64 q.c, .slice q.a q.n q.cap] 24)).below hb
        clear hb r24l r24a r24b r24c
        obtain ⟨y, rfl, k1, k2, k3, k4, yin⟩ := hgot
        have HY := Lib.hid (And.intro k1 (And.intro k2 (And.intro k3 k4)))
        clear k1 k2 k3 k4
        obtain ⟨r26l, r26a, r26b, r26c, _, _, _⟩ := (hst.get (b := w.heap.size) (g := g0) (by simp)).box
        replace hst := hst.push y yin 24
        go_wp2_with fail
        refine (turn_gr g0 R K _ (hst.inn (b := w.heap.size) (g := g0) (by simp)) H0.out.1 H0.out.2.1 H0.out.2.2 hR hK2 hl0).mono ?_
        rintro e w27 ⟨hgot, hb⟩
        replace hst := hst.below hb
        clear hb r26l r26a r26b r26c
        obtain ⟨u, rfl, k1, k2, k3, k4, uin⟩ := hgot
        have HU := Lib.hid (And.intro k1 (And.intro k2 (And.intro k3 k4)))
        clear k1 k2 k3 k4
        obtain ⟨r28l, r28a, r28b, r28c, _, _, _⟩ := (hst.get (b := w.heap.size + 1) (g := g1) (by simp)).box
        replace hst := hst.push u uin 24
        go_wp2_with fail
        refine (turn_gr g1 K C _ (hst.inn (b := w.heap.size + 1) (g := g1) (by simp)) HS.out.1 HS.out.2.1 HS.out.2.2.2.2.1 hK2 hC2 hKC).mono ?_
        rintro e w29 ⟨hgot, hb⟩
        replace hst := hst.below hb
        clear hb r28l r28a r28b r28c
        obtain ⟨v, rfl, k1, k2, k3, k4, vin⟩ := hgot
        have HV := Lib.hid (And.intro k1 (And.intro k2 (And.intro k3 k4)))
        clear k1 k2 k3 k4
        obtain ⟨r30l, r30a, r30b, r30c, _, _, _⟩ := (hst.get (b := w27.heap.size) (g := u) (by simp)).box
        replace hst := hst.push v vin 24
        go_wp2_with fail
        refine (times_sides v u C K R _ (hst.inn (b := w29.heap.size) (g := v) (by simp)) (hst.inn (b := w27.heap.size) (g := u) (by simp)) HV.out.1 HV.out.2.1 HV.out.2.2.1 HU.out.1 HU.out.2.1 HU.out.2.2.1 hC2 hK2 hR hCK hKR hCR).mono ?_
        rintro e w31 ⟨hgot, hb⟩
        replace hst := hst.below hb
        clear hb r30l r30a r30b r30c
        obtain ⟨t, rfl, k1, k2, k3, k4, tin⟩ := hgot
        have HT := Lib.hid (And.intro k1 (And.intro k2 (And.intro k3 k4)))
        clear k1 k2 k3 k4
        obtain ⟨r32l, r32a, r32b, r32c, _, _, _⟩ := (hst.get (b := w20.heap.size) (g := p) (by simp)).box
        replace hst := hst.push t tin 24
        go_wp2_with fail
        refine (turn_gr p R C _ (hst.inn (b := w20.heap.size) (g := p) (by simp)) HP.out.1 HP.out.2.1 HP.out.2.2.1 hR hC2 hle2).mono ?_
        rintro e w33 ⟨hgot, hb⟩
        replace hst := hst.below hb
        clear hb r32l r32a r32b r32c
        obtain ⟨z, rfl, k1, k2, k3, k4, zin⟩ := hgot
        have HZ := Lib.hid (And.intro k1 (And.intro k2 (And.intro k3 k4)))
        clear k1 k2 k3 k4
        have hv1 : y.v = x.v := by
          rw [HY.out.2.2.2, HX.out.2.2.2]
          refine tab_congr _ _ _ _ fun i j hi hj => ?_
          rw [HP.out.2.2.2, HQ.out.2.2.2, HSS.out.2.2.2, tab_at R C _ i j hi hj, tab_at R C _ i j hi hj]
          exact (prod_add g0.v g1.v g2.v K C i j hj).symm
        have hv2 : z.v = t.v := by
          rw [HZ.out.2.2.2, HT.out.2.2.2]
          refine tab_congr _ _ _ _ fun i j hi hj => ?_
          rw [HP.out.2.2.2, HU.out.2.2.2, HV.out.2.2.2, tab_at R C _ j i hj hi]
          exact (prod_turn g0.v g1.v R K C j i hj hi).symm
        have HV1 := Lib.hid hv1
        have HV2 := Lib.hid hv2
        clear hv1 hv2
        obtain ⟨r34l, r34a, r34b, r34c, _, _, _⟩ := (hst.get (b := w25.heap.size) (g := y) (by simp)).box
        obtain ⟨r35l, r35a, r35b, r35c, _, _, _⟩ := (hst.get (b := w17.heap.size) (g := x) (by simp)).box
        replace hst := hst.push z zin 24
        go_wp2_with fail
        refine (held_gr y x R C _ (hst.inn (b := w25.heap.size) (g := y) (by simp)) (hst.inn (b := w17.heap.size) (g := x) (by simp)) HY.out.1 HY.out.2.1 HY.out.2.2.1 HX.out.1 HX.out.2.1 HX.out.2.2.1 HV1.out).mono ?_
        rintro e w36 ⟨rfl, hb⟩
        replace hst := hst.below hb
        clear hb r34l r34a r34b r34c r35l r35a r35b r35c
        obtain ⟨r37l, r37a, r37b, r37c, _, _, _⟩ := (hst.get (b := w33.heap.size) (g := z) (by simp)).box
        obtain ⟨r38l, r38a, r38b, r38c, _, _, _⟩ := (hst.get (b := w31.heap.size) (g := t) (by simp)).box
        go_wp2_with fail
        refine (held_gr z t C R _ (hst.inn (b := w33.heap.size) (g := z) (by simp)) (hst.inn (b := w31.heap.size) (g := t) (by simp)) HZ.out.1 HZ.out.2.1 HZ.out.2.2.1 HT.out.1 HT.out.2.1 HT.out.2.2.1 HV2.out).mono ?_
        rintro e w39 ⟨rfl, hb⟩
        replace hst := hst.below hb
        clear hb r37l r37a r37b r37c r38l r38a r38b r38c
        have hB := hst.bel
        clear hst
        go_wp2
        go_ret
        exact ⟨rfl, hB⟩

set_option maxRecDepth 100000 in
theorem lifted (os : Os) (started : os.Started) (H : Type) (enc : TypeId × Value → H) :
    ReturnsInHanded {} Try.checked os 10 .any (Rows.gridSpreadsSpec.pre6 enc Try.prog Try.f10 Rows.gridSpreadsRow.domain false) (Rows.gridSpreadsSpec.post enc Try.prog Try.f10 false true false false) := by
  refine returnsInHanded_of_change (C := Try.checked) own started (by kernel_rfl) Try.func10
    (ChangeSpec.witness6 (enc := enc) (C := Try.checked) false ⟨#[], #[.agg #[.int .i64 0, .int .i64 0, .slice none 0 0], .agg #[.int .i64 0, .int .i64 0, .slice none 0 0], .agg #[.int .i64 0, .int .i64 0, .slice none 0 0]], []⟩ 8 (by kernel_rfl) (by kernel_rfl) (by kernel_rfl) (by kernel_rfl)) ?_
  intro W base args ds gs before hval0 hW hcnd _
  have hval : ∀ (j : Nat) t v, Try.f10.params[j]? = some t → args[j]? = some v → Value.okWide Try.prog W .any base t v := hval0
  have hW' := hW
  obtain ⟨p, q, hA0, hV, rfl, hfz, hnd⟩ := hW
  have hA : DataW.TrodAll enc Try.prog W 0 (fun _ => true) true Try.f10.params.toList args.toList ds p := hA0
  rw [Try.params10] at hA hval
  obtain ⟨v0, vs0, d0, ds0, p0, q0, hargs, rfl, rfl, h0, r0⟩ := trodAll_cons hA
  obtain ⟨v1, vs1, d1, ds1, p1, q1, rfl, rfl, rfl, h1, r1⟩ := trodAll_cons r0
  obtain ⟨v2, vs2, d2, ds2, p2, q2, rfl, rfl, rfl, h2, r2⟩ := trodAll_cons r1
  obtain ⟨rfl, rfl, rfl⟩ := trodAll_nil r2
  obtain rfl : args = #[v0, v1, v2] := by cases args; simp_all
  obtain ⟨rfl, rfl⟩ := trodVars_none hV
  have k0 := h0
  have lt0 : ∀ x ∈ p0, x.block < W.heap.size := by obtain ⟨m, hm⟩ := k0; exact DataW.trod_lt m _ _ _ hm
  obtain ⟨g0, rfl, w0⟩ := open_grid (hval 0 24 v0 rfl rfl) h0
  have k1 := h1
  have lt1 : ∀ x ∈ p1, x.block < W.heap.size := by obtain ⟨m, hm⟩ := k1; exact DataW.trod_lt m _ _ _ hm
  obtain ⟨g1, rfl, w1⟩ := open_grid (hval 1 24 v1 rfl rfl) h1
  have k2 := h2
  have lt2 : ∀ x ∈ p2, x.block < W.heap.size := by obtain ⟨m, hm⟩ := k2; exact DataW.trod_lt m _ _ _ hm
  obtain ⟨g2, rfl, w2⟩ := open_grid (hval 2 24 v2 rfl rfl) h2
  clear hA0 hval0
  refine (walk g0 g1 g2 W w0 w1 w2).mono fun e W' ⟨he, bel⟩ => ?_
  subst he
  exact ⟨_, rfl, _, _, _, [], _, [], hW', trodAll_mk1 (shut_bool Try.underlying4 _), (trodAll_cons_mk (Below.trod laidOut (by kernel_rfl) (of_decide_eq_true (by kernel_rfl)) k0 bel lt0) (trodAll_cons_mk (Below.trod laidOut (by kernel_rfl) (of_decide_eq_true (by kernel_rfl)) k1 bel lt1) (trodAll_cons_mk (Below.trod laidOut (by kernel_rfl) (of_decide_eq_true (by kernel_rfl)) k2 bel lt2) trodAll_mk0))), rfl, bel.frame _, fun h => by cases h⟩

theorem over : Rows.gridSpreadsRow.holds Try.pinned (OpenSpec.ofChange Rows.gridSpreadsSpec) :=
  OpenClaim.holds_of_wide 10 Try.f10 rfl rfl rfl rfl rfl rfl rfl ⟨rfl, rfl, rfl, rfl, rfl⟩ rfl rfl rfl rfl rfl (by kernel_rfl) Try.func10 (by kernel_rfl)
    (of_decide_eq_true (by kernel_rfl)) (by unfold Func.isWrapper; first | (rw [if_pos (by decide +kernel)]; kernel_rfl) | (rw [if_neg (by decide +kernel)]; exact ⟨rfl, rfl⟩))
    (fun os started H enc _ => lifted os started H enc)

/-- ████ THE STATEMENT ████ -/
theorem proved : Rows.GridSpreadsSaid := over
#print axioms proved
end Go.Proofs.Ytocjcfblpifdhaa.gridSpreads
