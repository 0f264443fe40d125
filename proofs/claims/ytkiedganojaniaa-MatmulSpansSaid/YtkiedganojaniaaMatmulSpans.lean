/-
  Proved: for every two whole numbers MatmulSpans returns true (spans are the document's, rise from 0 to all there is, and are even) and nothing that was in memory turns. Conditions: none.
-/
import Derived.Test.YtkiedganojaniaaRows
import Derived.WalkKit
import Derived.ProofKit
import Derived.OpenShut
import Derived.ShutString
import Derived.Below
import Derived.Test.YtkiedganojaniaaLaw4
namespace Go.Proofs.Ytkiedganojaniaa.matmulSpans
open Go.ChangeShapes Go.WideShapes Go.ChangeAt Go.RowKit
open Go.ChangeMaps (open_string shut_string)
set_option linter.unusedVariables false      -- a walk need not use every 'w<i>' (that an integer argument fits its kind)

theorem own : ownKnob Try.prog.godebug = none := by kernel_rfl

/-! ### STEP 1: THE WALK: the Go text returns true. 'Grown w w'': the world has at most new blocks (Derived/RowKit3.lean). Part the cases AHEAD of 'go_enter' where a test parts the walk; take each callee by a contract of your own. -/
set_option maxHeartbeats 2000000 in
theorem walk (a0 : Int) (a1 : Int) (w0 : (Lit.int .i64 a0).wf = true) (w1 : (Lit.int .i64 a1).wf = true) (w : World) :
    Calls Try.prog 6 #[.int .i64 a0, .int .i64 a1] w fun e w' => e = .returned (.bool true) ∧ Below w.heap.size w w' := by
  cases hs : spansB a0 a1 with
  | false =>
    have hno := hs
    unfold spansB at hno
    have hno := of_decide_eq_false hno
    have hc : a0 < 0 ∨ (0 ≤ a0 ∧ 1099511627776 < a0) ∨ (0 ≤ a0 ∧ a0 ≤ 1099511627776 ∧ a1 < 1) ∨ (0 ≤ a0 ∧ a0 ≤ 1099511627776 ∧ 1 ≤ a1 ∧ 4096 < a1) := by omega
    clear hno
    rcases hc with hc | ⟨_, hc⟩ | ⟨_, _, hc⟩ | ⟨_, _, _, hc⟩
    all_goals
      go_enter Try.func6, Try.ntmps6
      go_wp2_with fail
      refine (awake4 _).mono ?_
      rintro e wa ⟨rfl, hb⟩
      go_wp2_with fail
      refine (spans_no a0 a1 hs _).mono ?_
      rintro e wb ⟨rfl, rfl⟩
      clear hs
      go_wp2
      go_ret
      exact ⟨rfl, hb⟩
  | true =>
    obtain ⟨N, P, rfl, rfl, hN, hP1, hP⟩ := spansB_yes hs
    clear hs
    go_enter Try.func6, Try.ntmps6
    go_wp2_with fail
    refine (awake4 _).mono ?_
    rintro e wa ⟨rfl, hb⟩
    go_wp2_with fail
    refine (spans_yes N P hN hP1 hP _).mono ?_
    rintro e wb ⟨⟨g, rfl, _, hE⟩, hb2⟩
    have B := below_two hb hb2
    obtain ⟨b, off, he, hcell⟩ := hE.2.2.2 (by omega)
    cases he
    have hall : ∀ i, i ≤ P → wb.cell? ⟨g, i, none⟩ = some (.int .i64 (spanAt N P i : Nat)) := fun i hi => by
      have := hcell i (by omega)
      rw [spanL_at N P i hi, Nat.zero_add] at this
      exact this
    have h0 := hall 0 (by omega)
    have hPn := hall P (Nat.le_refl _)
    rw [span_zero] at h0
    rw [span_end N P hP1] at hPn
    replace h0 : wb.cell? ⟨g, 0, none⟩ = some (.int .i64 0) := h0
    obtain ⟨L, hL⟩ : ∃ L, L = P + 1 := ⟨_, rfl⟩
    rw [← hL]
    have eL : (P : Int) + 1 = (L : Int) := by omega
    have z0 : (0 : Int) ≤ (P : Int) := by omega
    have z1 : (P : Int) < (L : Int) := by omega
    have hL0 : 0 < L := by omega
    have HALL := Lib.hid hall
    have HL := Lib.hid hL
    clear hE hcell hall hb hb2 hL
    go_wp2_with fail
    go_loopw [7] (fun i wr => ∃ k d : Nat, k ≤ P ∧ i = .int .i64 k ∧ wr = wb.drewN d) (fun i _ => P - (intOf i).toNat)
    case atStart => exact ⟨0, 0, by omega, rfl, rfl⟩
    case round =>
      obtain ⟨k, d, hk, rfl, rfl⟩ := hrel
      by_cases hlt : k < P
      · have c0 := HALL.out k (by omega)
        have c1 := HALL.out (k + 1) (by omega)
        obtain ⟨q, hq⟩ : ∃ q, q = N / P := ⟨_, rfl⟩
        have hdiff : spanAt N P (k + 1) = spanAt N P k + q ∨ spanAt N P (k + 1) = spanAt N P k + q + 1 := by
          unfold spanAt
          rw [Nat.succ_mul, Nat.add_div (show 0 < P by omega), hq]
          split
          · right; rfl
          · left; omega
        have hqN : q ≤ N := by rw [hq]; exact Nat.div_le_self N P
        have eq0 : (N : Int) / (P : Int) = (q : Int) := by rw [hq]; push_cast; rfl
        obtain ⟨z, hz⟩ : ∃ z, z = k * N := ⟨_, rfl⟩
        have ez : (k : Int) * (N : Int) = (z : Int) := by rw [hz]; push_cast; rfl
        have zb : (z : Int) ≤ 4503599627370496 := by
          rw [← ez]
          have := Int.mul_le_mul (show (k : Int) ≤ 4096 by omega) (show (N : Int) ≤ 1099511627776 by omega) (by omega) (by omega)
          omega
        have yb := span_le N P k (by omega)
        have yb1 := span_le N P (k + 1) (by omega)
        have ey : (z : Int) / (P : Int) = ((spanAt N P k : Nat) : Int) := by unfold spanAt; rw [hz]; push_cast; rfl
        obtain ⟨y, hy⟩ : ∃ y, y = spanAt N P k := ⟨_, rfl⟩
        obtain ⟨y1, hy1⟩ : ∃ y1, y1 = spanAt N P (k + 1) := ⟨_, rfl⟩
        rw [← hy] at c0 ey yb hdiff
        rw [← hy1] at c1 yb1 hdiff
        obtain ⟨k1, hk1⟩ : ∃ k1, k1 = k + 1 := ⟨_, rfl⟩
        have ek1 : (k : Int) + 1 = (k1 : Int) := by omega
        rw [← hk1] at c1
        obtain ⟨m, hm⟩ : ∃ m, m = y1 - y := ⟨_, rfl⟩
        have em : (y1 : Int) - (y : Int) = (m : Int) := by omega
        have f0 : (0 : Int) ≤ (k : Int) := by omega
        have f1 : (k : Int) < (L : Int) := by omega
        have f2 : (0 : Int) ≤ (k1 : Int) := by omega
        have f3 : (k1 : Int) < (L : Int) := by omega
        have f4 : (k : Int) < (P : Int) := by omega
        have v1 : IntKind.i64.wrap (k1 : Int) = (k1 : Int) := IntWalk.i64_in _ (by omega)
        have v2 : IntKind.i64.wrap (z : Int) = (z : Int) := IntWalk.i64_in _ (by omega)
        have v3 : IntKind.i64.wrap (m : Int) = (m : Int) := IntWalk.i64_in _ (by omega)
        have v4 : IntKind.i64.wrap (y : Int) = (y : Int) := IntWalk.i64_in _ (by omega)
        have v5 : IntKind.i64.wrap (q : Int) = (q : Int) := IntWalk.i64_in _ (by omega)
        have hne : ¬ (P : Int) = 0 := by omega
        have hcase : m = q ∨ m = q + 1 := by omega
        have z00 : (0 : Int) ≤ (z : Int) := by omega
        have n00 : (0 : Int) ≤ (N : Int) := by omega
        clear hdiff hz hy hy1 hk1 hm hq
        rcases hcase with rfl | hmq
        · go_wp2_with fail
          go_quiet (fail)
          go_wp2_with fail
          go_quiet (fail)
          go_wp2
          go_roundw
          case rel => exact ⟨k + 1, _, by omega, by go_num, rfl⟩
          case measure => simp [intOf]; omega
        · have em1 : (q : Int) + 1 = (m : Int) := by omega
          have t1 : ((m : Int) == (q : Int)) = false := beq_eq_false_iff_ne.2 (by omega)
          have t2 : ((m : Int) != (q : Int)) = true := by rw [bne, t1]; rfl
          clear hmq
          go_wp2_with fail
          go_quiet (fail)
          go_wp2_with fail
          go_quiet (fail)
          go_wp2
          go_roundw
          case rel => exact ⟨k + 1, _, by omega, by go_num, rfl⟩
          case measure => simp [intOf]; omega
      · obtain rfl : k = P := by omega
        clear h0 hPn HALL
        go_wp2
        go_ret
        exact ⟨rfl, below_drewN B d⟩

/-! ### THE ROW's STEP: WRITTEN OUT: LEAVE IT -/
set_option maxRecDepth 100000 in
theorem lifted (os : Os) (started : os.Started) (H : Type) (enc : TypeId × Value → H) :
    ReturnsInHanded {} Try.checked os 6 .any (Rows.matmulSpansSpec.pre6 enc Try.prog Try.f6 Rows.matmulSpansRow.domain false) (Rows.matmulSpansSpec.post enc Try.prog Try.f6 false true false false) := by
  refine returnsInHanded_of_change (C := Try.checked) own started (by kernel_rfl) Try.func6
    (ChangeSpec.witness6 (enc := enc) (C := Try.checked) false ⟨#[], #[.int .i64 0, .int .i64 0], []⟩ 8 (by kernel_rfl) (by kernel_rfl) (by kernel_rfl) (by kernel_rfl)) ?_
  intro W base args ds gs before hval0 hW hcnd _
  have hval : ∀ (j : Nat) t v, Try.f6.params[j]? = some t → args[j]? = some v → Value.okWide Try.prog W .any base t v := hval0
  have hW' := hW
  obtain ⟨p, q, hA0, hV, rfl, hfz, hnd⟩ := hW
  have hA : DataW.TrodAll enc Try.prog W 0 (fun _ => true) true Try.f6.params.toList args.toList ds p := hA0
  rw [Try.params6] at hA hval
  obtain ⟨v0, vs0, d0, ds0, p0, q0, hargs, rfl, rfl, h0, r0⟩ := trodAll_cons hA
  obtain ⟨v1, vs1, d1, ds1, p1, q1, rfl, rfl, rfl, h1, r1⟩ := trodAll_cons r0
  obtain ⟨rfl, rfl, rfl⟩ := trodAll_nil r1
  obtain rfl : args = #[v0, v1] := by cases args; simp_all
  obtain ⟨rfl, rfl⟩ := trodVars_none hV
  obtain ⟨a0, rfl, rfl, rfl, w0⟩ := open_int Try.underlying3 (hval 0 3 v0 rfl rfl) h0
  obtain ⟨a1, rfl, rfl, rfl, w1⟩ := open_int Try.underlying3 (hval 1 3 v1 rfl rfl) h1
  clear hA0 hval0
  refine (walk a0 a1 w0 w1 W).mono fun e W' ⟨he, bel⟩ => ?_
  subst he
  exact ⟨_, rfl, _, _, _, [], _, [], hW', trodAll_mk1 (shut_bool Try.underlying4 _), (trodAll_cons_mk (shut_int Try.underlying3 w0) (trodAll_cons_mk (shut_int Try.underlying3 w1) trodAll_mk0)), rfl, bel.frame _, fun h => by cases h⟩

theorem over : Rows.matmulSpansRow.holds Try.pinned (OpenSpec.ofChange Rows.matmulSpansSpec) :=
  OpenClaim.holds_of_wide 6 Try.f6 rfl rfl rfl rfl rfl rfl rfl ⟨rfl, rfl, rfl, rfl, rfl⟩ rfl rfl rfl rfl rfl (by kernel_rfl) Try.func6 (by kernel_rfl)
    (of_decide_eq_true (by kernel_rfl)) (by unfold Func.isWrapper; first | (rw [if_pos (by decide +kernel)]; kernel_rfl) | (rw [if_neg (by decide +kernel)]; exact ⟨rfl, rfl⟩))
    (fun os started H enc _ => lifted os started H enc)

/-- ████ THE STATEMENT ████ -/
theorem proved : Rows.MatmulSpansSaid :=
  over
#print axioms proved
end Go.Proofs.Ytkiedganojaniaa.matmulSpans
