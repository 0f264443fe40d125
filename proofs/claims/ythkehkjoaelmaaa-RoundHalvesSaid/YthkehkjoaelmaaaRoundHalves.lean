/-
  Proved: for every number of 32 bits and every n, RoundHalves returns true (a shift leaves at most half a step, is exact at multiples and odd) and nothing that was in memory turns. Conditions: none.
-/
import Derived.Test.YthkehkjoaelmaaaRows
import Derived.WalkKit
import Derived.ProofKit
import Derived.OpenShut
import Derived.ShutString
import Derived.Test.YthkehkjoaelmaaaAwake
import Derived.Test.YthkehkjoaelmaaaShrMath
namespace Go.Proofs.Ythkehkjoaelmaaa.roundHalves
open Go.ChangeShapes Go.WideShapes Go.ChangeAt Go.RowKit
open Go.ChangeMaps (open_string shut_string)
set_option linter.unusedVariables false      -- a walk need not use every 'w<i>' (that an integer argument fits its kind)

theorem own : ownKnob Try.prog.godebug = none := by kernel_rfl

/-! ### STEP 1: THE WALK: the Go text returns true. 'Grown w w'': the world has at most new blocks (Derived/RowKit3.lean). Part the cases AHEAD of 'go_enter' where a test parts the walk; take each callee by a contract of your own. -/
set_option maxHeartbeats 400000 in
theorem walk (a0 : Int) (a1 : Int) (w0 : (Lit.int .i32 a0).wf = true) (w1 : (Lit.int .i64 a1).wf = true) (w : World) :
    Calls Try.prog 6 #[.int .i32 a0, .int .i64 a1] w fun e w' => e = .returned (.bool true) ∧ Grown w w' := by
  obtain ⟨x1, x2⟩ := wf32 w0
  obtain ⟨n1, n2⟩ := rest31 a1
  obtain ⟨r, hr⟩ : ∃ r, a1.tmod 31 = r := ⟨_, rfl⟩
  rw [hr] at n1 n2
  obtain ⟨k, hk⟩ : ∃ k, (r + 31) % 31 = k := ⟨_, rfl⟩
  have k1 : 0 ≤ k := by omega
  have k2 : k ≤ 30 := by omega
  obtain ⟨d1, d2⟩ := pow30 k k1 k2
  obtain ⟨y, hy⟩ : ∃ y, shr a0 k = y := ⟨_, rfl⟩
  obtain ⟨b1, b2⟩ := shr_dist a0 k k1 (by omega)
  obtain ⟨y1, y2⟩ := shr_bounds a0 k 2147483648 k1 (by omega) (by omega) (by omega) (by omega)
  rw [hy] at b1 b2 y1 y2
  obtain ⟨p1, p2⟩ := prod_bounds a0 (2 ^ k.toNat) x1 x2 (by omega) (by omega)
  have c1 := shift_c a0 k y (by omega) (by omega) hy
  have c2 := shift_c a0 0 a0 (by omega) (by omega) (shr_at a0 0 (by decide) (by decide))
  have c3 := shift_c (a0 * 2 ^ k.toNat) k a0 (by omega) (by omega) (shr_mul a0 k k1 (by omega))
  have c4 := shift_c (-a0) k (-y) (by omega) (by omega) (by rw [shr_neg a0 k k1 (by omega), hy])
  clear hy
  by_cases hs : y * 2 ^ k.toNat - a0 < 0
  · go_enter Try.func6, Try.ntmps6
    go_wp2_with (first | (go_at_call 12; refine (awake _).mono ?_; rintro e w1 ⟨rfl, hg, _⟩) | (go_at_call 19; (with_reducible refine (c1 _).mono ?_); rintro e w' ⟨rfl, rfl⟩) | (go_at_call 19; (with_reducible refine (c2 _).mono ?_); rintro e w' ⟨rfl, rfl⟩) | (go_at_call 19; (with_reducible refine (c3 _).mono ?_); rintro e w' ⟨rfl, rfl⟩) | (go_at_call 19; (with_reducible refine (c4 _).mono ?_); rintro e w' ⟨rfl, rfl⟩))
    go_ret
    exact ⟨rfl, hg⟩
  · go_enter Try.func6, Try.ntmps6
    go_wp2_with (first | (go_at_call 12; refine (awake _).mono ?_; rintro e w1 ⟨rfl, hg, _⟩) | (go_at_call 19; (with_reducible refine (c1 _).mono ?_); rintro e w' ⟨rfl, rfl⟩) | (go_at_call 19; (with_reducible refine (c2 _).mono ?_); rintro e w' ⟨rfl, rfl⟩) | (go_at_call 19; (with_reducible refine (c3 _).mono ?_); rintro e w' ⟨rfl, rfl⟩) | (go_at_call 19; (with_reducible refine (c4 _).mono ?_); rintro e w' ⟨rfl, rfl⟩))
    go_ret
    exact ⟨rfl, hg⟩

/-! ### THE ROW's STEP: WRITTEN OUT: LEAVE IT -/
set_option maxRecDepth 100000 in
theorem lifted (os : Os) (started : os.Started) (H : Type) (enc : TypeId × Value → H) :
    ReturnsInHanded {} Try.checked os 6 .any (Rows.roundHalvesSpec.pre6 enc Try.prog Try.f6 Rows.roundHalvesRow.domain false) (Rows.roundHalvesSpec.post enc Try.prog Try.f6 false true false false) := by
  refine returnsInHanded_of_change (C := Try.checked) own started (by kernel_rfl) Try.func6
    (ChangeSpec.witness6 (enc := enc) (C := Try.checked) false ⟨#[], #[.int .i32 0, .int .i64 0], []⟩ 8 (by kernel_rfl) (by kernel_rfl) (by kernel_rfl) (by kernel_rfl)) ?_
  intro W base args ds gs before hval0 hW hcnd _
  have hval : ∀ (j : Nat) t v, Try.f6.params[j]? = some t → args[j]? = some v → Value.okWide Try.prog W .any base t v := hval0
  have hW' := hW
  obtain ⟨p, q, hA0, hV, rfl, hfz, hnd⟩ := hW
  have hA : DataW.TrodAll enc Try.prog W 0 (fun _ => true) true Try.f6.params.toList args.toList ds p := hA0
  rw [Try.params6] at hA hval
  obtain ⟨v0, vs0, d0, ds0, p0, q0, hargs, rfl, rfl, h0, r0⟩ := trodAll_cons hA
  obtain ⟨v1, vs1, d1, ds1, p1, q1, rfl, rfl, rfl, h1, r1⟩ := trodAll_cons r0
  obtain ⟨rfl, rfl, rfl⟩ := trodAll_nil r1
  obtain rfl : args = #[v0, v1] := by cases args; simp_all
  obtain ⟨rfl, rfl⟩ := trodVars_none hV
  obtain ⟨a0, rfl, rfl, rfl, w0⟩ := open_int Try.underlying21 (hval 0 21 v0 rfl rfl) h0
  obtain ⟨a1, rfl, rfl, rfl, w1⟩ := open_int Try.underlying3 (hval 1 3 v1 rfl rfl) h1
  clear hA0 hval0
  simp only [List.append_nil] at hW'
  refine (walk a0 a1 w0 w1 W).mono fun e W' ⟨he, hg⟩ => ?_
  subst he
  exact ⟨_, rfl, post_of_same (pa := []) (pv := []) hW' (fun _ _ _ => (trodAll_cons_mk (shut_bool Try.underlying4 _) trodAll_mk0)) (fun sp _ => (trodAll_cons_mk (shut_int Try.underlying21 w0) (trodAll_cons_mk (shut_int Try.underlying3 w1) trodAll_mk0))) (fun _ _ => rfl) rfl
    (hg.frame _) hg.2.1 (ok_one (by kernel_rfl) rfl (okWide_bool_mk Try.underlying4 _))⟩

theorem over : Rows.roundHalvesRow.holds Try.pinned (OpenSpec.ofChange Rows.roundHalvesSpec) :=
  OpenClaim.holds_of_wide 6 Try.f6 rfl rfl rfl rfl rfl rfl rfl ⟨rfl, rfl, rfl, rfl, rfl⟩ rfl rfl rfl rfl rfl (by kernel_rfl) Try.func6 (by kernel_rfl)
    (of_decide_eq_true (by kernel_rfl)) (by unfold Func.isWrapper; first | (rw [if_pos (by decide +kernel)]; kernel_rfl) | (rw [if_neg (by decide +kernel)]; exact ⟨rfl, rfl⟩))
    (fun os started H enc _ => lifted os started H enc)

/-- ████ THE STATEMENT ████ -/
theorem proved : Rows.RoundHalvesSaid :=
  over
#print axioms proved
end Go.Proofs.Ythkehkjoaelmaaa.roundHalves
