/-
  Proved: for every two grids GridTimes returns true (Times is the document's) and nothing that was in memory turns. Conditions: none.
-/
import Derived.Test.YtocjcfblpifdhaaRows
import Derived.WalkKit
import Derived.ProofKit
import Derived.OpenShut
import Derived.ShutString
import Derived.ChangeOld
import Derived.Below
import Derived.Test.YtocjcfblpifdhaaGridRow
import Derived.Test.YtocjcfblpifdhaaLawKit
namespace Go.Proofs.Ytocjcfblpifdhaa.gridTimes
open Go.ChangeShapes Go.WideShapes Go.ChangeAt Go.RowKit
open Go.ChangeMaps (open_string shut_string)
set_option linter.unusedVariables false

theorem own : ownKnob Try.prog.godebug = none := by kernel_rfl
theorem laidOut : laidOutB Try.prog = true := by kernel_rfl

set_option maxHeartbeats 4000000 in
theorem walk (g0 : Gr) (g1 : Gr) (w : World) (h0 : g0.In w) (h1 : g1.In w) :
    Calls Try.prog 6 #[.agg #[.int .i64 g0.r, .int .i64 g0.c, .slice g0.a g0.n g0.cap], .agg #[.int .i64 g1.r, .int .i64 g1.c, .slice g1.a g1.n g1.cap]] w fun e w' => e = .returned (.bool true) ∧ Below w.heap.size w w' := by
  have X0 : ∀ o, Boxed w ((w.alloc (.cells #[.int .i64 g0.r, .int .i64 g0.c, .slice g0.a g0.n g0.cap] 24)).alloc o) w.heap.size g0 := fun o => (boxed_new h0 rfl).alloc o
  have X1 : ∀ o, Boxed w ((w.alloc o).alloc (.cells #[.int .i64 g1.r, .int .i64 g1.c, .slice g1.a g1.n g1.cap] 24)) (w.heap.size + 1) g1 := fun o => boxed_new (h1.below ((Below.refl _ _).alloc (Nat.le_refl _) o)) (by simp)
  have B0 := fun o o2 => below_alloc (below_alloc (Below.refl w.heap.size w) o) o2
  clear h0 h1
  cases hsm : smallB [g0, g1] with
  | false =>
    go_enter Try.func6, Try.ntmps6
    go_wp2_with fail
    refine (awake _).mono ?_
    rintro e wa ⟨rfl, hb⟩
    have Y0 := (X0 _).below hb
    have Y1 := (X1 _).below hb
    have hB := below_two (B0 _ _) hb
    have hG := fun T => grids_two (T := T) (b := wa.heap.size) g0 g1 Y0.inn Y1.inn rfl
    obtain ⟨_, c0, c1, c2, _, _, _⟩ := Y0.box
    obtain ⟨_, d0, d1, d2, _, _, _⟩ := Y1.box
    clear X0 X1 B0 hb Y0 Y1
    go_wp2_with fail
    refine (small_c _ _ _ [g0, g1] _ (hG _) false hsm).mono ?_
    rintro e wb ⟨rfl, rfl⟩
    clear hsm hG
    go_wp2_with fail
    refine (awake _).mono ?_
    rintro e wc ⟨rfl, hc⟩
    have hB2 := below_two (below_alloc hB _) hc
    go_wp2
    go_ret
    exact ⟨rfl, hB2⟩
  | true =>
    go_enter Try.func6, Try.ntmps6
    go_wp2_with fail
    refine (awake _).mono ?_
    rintro e wa ⟨rfl, hb⟩
    have Y0 := (X0 _).below hb
    have Y1 := (X1 _).below hb
    have hB := below_two (B0 _ _) hb
    have hG := fun T => grids_two (T := T) (b := wa.heap.size) g0 g1 Y0.inn Y1.inn rfl
    have Z0 := fun o => Y0.alloc o
    have Z1 := fun o => Y1.alloc o
    have hBz := fun o => below_alloc hB o
    obtain ⟨_, c0, c1, c2, _, _, _⟩ := Y0.box
    obtain ⟨_, d0, d1, d2, _, _, _⟩ := Y1.box
    clear X0 X1 B0 hb Y0 Y1 hB
    go_wp2_with fail
    refine (small_c _ _ _ [g0, g1] _ (hG _) true hsm).mono ?_
    rintro e wb ⟨rfl, rfl⟩
    clear hsm hG c0 c1 c2 d0 d1 d2
    have W0 := Z0 (.cells #[.int .i64 g0.r, .int .i64 g0.c, .slice g0.a g0.n g0.cap, .int .i64 g1.r, .int .i64 g1.c, .slice g1.a g1.n g1.cap] 24)
    have W1 := Z1 (.cells #[.int .i64 g0.r, .int .i64 g0.c, .slice g0.a g0.n g0.cap, .int .i64 g1.r, .int .i64 g1.c, .slice g1.a g1.n g1.cap] 24)
    have hBw := hBz (.cells #[.int .i64 g0.r, .int .i64 g0.c, .slice g0.a g0.n g0.cap, .int .i64 g1.r, .int .i64 g1.c, .slice g1.a g1.n g1.cap] 24)
    clear Z0 Z1 hBz
    obtain ⟨_, c0, c1, c2, _, _, _⟩ := W0.box
    obtain ⟨_, d0, d1, d2, _, _, _⟩ := W1.box
    go_wp2_with fail
    refine (times_any g0 g1 _ W0.inn W1.inn).mono ?_
    rintro e wc ⟨hcase, hc⟩
    have Y0 := W0.below hc
    have Y1 := W1.below hc
    have hB := below_two hBw hc
    clear W0 W1 hBw hc c0 c1 c2 d0 d1 d2
    rcases hcase with ⟨hno, he⟩ | ⟨hyes, R, K, C, e1, e2, e3, e4, hR, hK, hC, hle, he⟩
    · unfold NoGrid at he
      subst he
      rw [times_cond] at hno
      have Z0 := fun o => Y0.alloc o
      have Z1 := fun o => Y1.alloc o
      have hBz := fun o => below_alloc hB o
      have V := fun T => box3_new wc (.int .i64 0) (.int .i64 0) (.slice none 0 0) T
      obtain ⟨_, c0, c1, c2, _, _, _⟩ := Y0.box
      obtain ⟨_, d0, d1, d2, _, _, _⟩ := Y1.box
      have n0 := Y0.inn.1.2.1
      have n1 := Y1.inn.1.2.1
      clear Y0 Y1 hB
      go_wp2_with fail
      refine (ref_times_no g0.r g0.c g1.r g1.c g0.a g1.a g0.n g1.n g0.cap g1.cap _ n0 n1 hno).mono ?_
      rintro e wd ⟨he, hd⟩
      unfold NoneOf at he
      subst he
      have hB := below_two (hBz _) hd
      obtain ⟨_, v0, v1, v2, _, _, _⟩ := (V _).below hd
      clear Z0 Z1 hBz V hd hno c0 c1 c2 d0 d1 d2
      go_wp2_with fail
      refine (held_no 0 0 none 0 0 _).mono ?_
      rintro e we ⟨rfl, he⟩
      have hB2 := below_two (below_alloc hB _) he
      go_wp2
      go_ret
      exact ⟨rfl, hB2⟩
    · obtain ⟨g, rfl, hE⟩ := he
      have Z0 := fun o => Y0.alloc o
      have Z1 := fun o => Y1.alloc o
      have hBz := fun o => below_alloc hB o
      have hEz := fun o => hE.below ((Below.refl wc.heap.size wc).alloc (Nat.le_refl _) o)
      have V := fun T => box3_new wc (.int .i64 R) (.int .i64 C) (.slice (some ⟨g, 0, none⟩) (R * C : Nat) (R * C : Nat)) T
      obtain ⟨_, c0, c1, c2, _, _, _⟩ := Y0.box
      obtain ⟨_, d0, d1, d2, _, _, _⟩ := Y1.box
      have HREF := Lib.hid (fun o => ref_times_gr g0 g1 _ (Z0 o).inn (Z1 o).inn hyes R K C e1 e2 e4)
      clear Y0 Y1 hB hE hyes e1 e2 e3 e4
      go_wp2_with fail
      refine (HREF.out _).mono ?_
      rintro e wd ⟨⟨ua, ucap, rfl, hE2⟩, hd⟩
      have hB := below_two (hBz _) hd
      have hE1 := (hEz _).below hd
      have V2 := (V _).below hd
      obtain ⟨xs, hxs⟩ : ∃ xs, xs = tab R C (fun i j => prod g0.v g1.v K C i j) := ⟨_, rfl⟩
      rw [← hxs] at hE1 hE2
      have E1 := fun o => hE1.below ((Below.refl wd.heap.size wd).alloc (Nat.le_refl _) o)
      have E2 := fun o => hE2.below ((Below.refl wd.heap.size wd).alloc (Nat.le_refl _) o)
      obtain ⟨_, v0, v1, v2, _, _, _⟩ := V2
      clear Z0 Z1 hBz hEz V HREF hd c0 c1 c2 d0 d1 d2 hxs hE1 hE2
      go_wp2_with fail
      refine (held_yes R C (some ⟨g, 0, none⟩) ua (R * C) (R * C) ucap xs _ (E1 _) (E2 _)).mono ?_
      rintro e we ⟨rfl, he⟩
      have hB2 := below_two (below_alloc hB _) he
      go_wp2
      go_ret
      exact ⟨rfl, hB2⟩

set_option maxRecDepth 100000 in
theorem lifted (os : Os) (started : os.Started) (H : Type) (enc : TypeId × Value → H) :
    ReturnsInHanded {} Try.checked os 6 .any (Rows.gridTimesSpec.pre6 enc Try.prog Try.f6 Rows.gridTimesRow.domain false) (Rows.gridTimesSpec.post enc Try.prog Try.f6 false true false false) := by
  refine returnsInHanded_of_change (C := Try.checked) own started (by kernel_rfl) Try.func6
    (ChangeSpec.witness6 (enc := enc) (C := Try.checked) false ⟨#[], #[.agg #[.int .i64 0, .int .i64 0, .slice none 0 0], .agg #[.int .i64 0, .int .i64 0, .slice none 0 0]], []⟩ 8 (by kernel_rfl) (by kernel_rfl) (by kernel_rfl) (by kernel_rfl)) ?_
  intro W base args ds gs before hval0 hW hcnd _
  have hval : ∀ (j : Nat) t v, Try.f6.params[j]? = some t → args[j]? = some v → Value.okWide Try.prog W .any base t v := hval0
  have hW' := hW
  obtain ⟨p, q, hA0, hV, rfl, hfz, hnd⟩ := hW
  have hA : DataW.TrodAll enc Try.prog W 0 (fun _ => true) true Try.f6.params.toList args.toList ds p := hA0
  rw [Try.params6] at hA hval
  obtain ⟨v0, vs0, d0, ds0, p0, q0, hargs, rfl, rfl, h0, r0⟩ := trodAll_cons hA
  obtain ⟨v1, vs1, d1, ds1, p1, q1, rfl, rfl, rfl, h1, r1⟩ := trodAll_cons r0
  obtain ⟨rfl, rfl, rfl⟩ := trodAll_nil r1
  obtain rfl : args = #[v0, v1] := by cases args; simp_all
  obtain ⟨rfl, rfl⟩ := trodVars_none hV
  have k0 := h0
  have lt0 : ∀ x ∈ p0, x.block < W.heap.size := by obtain ⟨m, hm⟩ := k0; exact DataW.trod_lt m _ _ _ hm
  obtain ⟨g0, rfl, w0⟩ := open_grid (hval 0 24 v0 rfl rfl) h0
  have k1 := h1
  have lt1 : ∀ x ∈ p1, x.block < W.heap.size := by obtain ⟨m, hm⟩ := k1; exact DataW.trod_lt m _ _ _ hm
  obtain ⟨g1, rfl, w1⟩ := open_grid (hval 1 24 v1 rfl rfl) h1
  clear hA0 hval0
  refine (walk g0 g1 W w0 w1).mono fun e W' ⟨he, bel⟩ => ?_
  subst he
  exact ⟨_, rfl, _, _, _, [], _, [], hW', trodAll_mk1 (shut_bool Try.underlying4 _), (trodAll_cons_mk (Below.trod laidOut (by kernel_rfl) (of_decide_eq_true (by kernel_rfl)) k0 bel lt0) (trodAll_cons_mk (Below.trod laidOut (by kernel_rfl) (of_decide_eq_true (by kernel_rfl)) k1 bel lt1) trodAll_mk0)), rfl, bel.frame _, fun h => by cases h⟩

theorem over : Rows.gridTimesRow.holds Try.pinned (OpenSpec.ofChange Rows.gridTimesSpec) :=
  OpenClaim.holds_of_wide 6 Try.f6 rfl rfl rfl rfl rfl rfl rfl ⟨rfl, rfl, rfl, rfl, rfl⟩ rfl rfl rfl rfl rfl (by kernel_rfl) Try.func6 (by kernel_rfl)
    (of_decide_eq_true (by kernel_rfl)) (by unfold Func.isWrapper; first | (rw [if_pos (by decide +kernel)]; kernel_rfl) | (rw [if_neg (by decide +kernel)]; exact ⟨rfl, rfl⟩))
    (fun os started H enc _ => lifted os started H enc)

/-- ████ THE STATEMENT ████ -/
theorem proved : Rows.GridTimesSaid := over
#print axioms proved
end Go.Proofs.Ytocjcfblpifdhaa.gridTimes
