/-
  Proved: for every two numbers and every n, RoundOrders returns true (shifting and bringing to a range never turn an order about; scaling by a power of two and back gives the number) and nothing that was in memory turns. Conditions: none.
-/
import Derived.Test.YthkehkjoaelmaaaRows
import Derived.WalkKit
import Derived.ProofKit
import Derived.OpenShut
import Derived.ShutString
import Derived.Test.YthkehkjoaelmaaaAwake
import Derived.Test.YthkehkjoaelmaaaShrMath
namespace Go.Proofs.Ythkehkjoaelmaaa.roundOrders
open Go.ChangeShapes Go.WideShapes Go.ChangeAt Go.RowKit
open Go.ChangeMaps (open_string shut_string)
set_option linter.unusedVariables false      -- a walk need not use every 'w<i>' (that an integer argument fits its kind)

theorem own : ownKnob Try.prog.godebug = none := by kernel_rfl

/-! ### STEP 1: THE WALK: the Go text returns true. 'Grown w w'': the world has at most new blocks (Derived/RowKit3.lean). Part the cases AHEAD of 'go_enter' where a test parts the walk; take each callee by a contract of your own. -/
set_option maxHeartbeats 400000 in
theorem walk (a0 : Int) (a1 : Int) (a2 : Int) (w0 : (Lit.int .i64 a0).wf = true) (w1 : (Lit.int .i64 a1).wf = true) (w2 : (Lit.int .i64 a2).wf = true) (w : World) :
    Calls Try.prog 10 #[.int .i64 a0, .int .i64 a1, .int .i64 a2] w fun e w' => e = .returned (.bool true) ∧ Grown w w' := by
  obtain ⟨p1, p2⟩ := wf64 w0
  obtain ⟨q1, q2⟩ := wf64 w1
  obtain ⟨n1, n2⟩ := rest31 a2
  obtain ⟨r, hr⟩ : ∃ r, a2.tmod 31 = r := ⟨_, rfl⟩
  rw [hr] at n1 n2
  obtain ⟨k, hk⟩ : ∃ k, (r + 31) % 31 = k := ⟨_, rfl⟩
  have k1 : 0 ≤ k := by omega
  have k2 : k ≤ 30 := by omega
  obtain ⟨d1, d2⟩ := pow30 k k1 k2
  obtain ⟨c1, c2⟩ := wrap32_bd a0
  have hsc : ∀ w, Calls Try.prog 24 #[.int .i32 (wrap32 a0), .int .i32 (2 ^ k.toNat), .int .i64 k] w fun e w' => e = .returned (.int .i32 (wrap32 a0)) ∧ w = w' := by
    intro w
    have h := scale (wrap32 a0) (2 ^ k.toNat) k c1 c2 (by omega) (by omega) w
    rwa [shr_mul _ k k1 (by omega), near_same _ _ _ c1 c2] at h
  rcases Int.lt_trichotomy a0 a1 with hab | rfl | hab
  · have m1 := shr_mono a0 a1 a2 (by omega)
    have m2 := near_mono a0 a1 (-128) 127 (by omega) (by decide)
    have m3 := near_mono a0 a1 (-2147483648) 2147483647 (by omega) (by decide)
    go_enter Try.func10, Try.ntmps10
    go_wp2_with (first | (go_at_call 12; refine (awake _).mono ?_; rintro e w1 ⟨rfl, hg, _⟩) | (go_at_call 24; (with_reducible refine (hsc _).mono ?_); rintro e w' ⟨rfl, rfl⟩) | (go_at_call 19; refine (shift _ _ (by omega) (by omega) _).mono ?_; rintro e w' ⟨rfl, rfl⟩) | (go_at_call 16; refine (sat8 _ _).mono ?_; rintro e w' ⟨rfl, rfl⟩) | (go_at_call 18; refine (sat32 _ _).mono ?_; rintro e w' ⟨rfl, rfl⟩))
    go_ret
    exact ⟨rfl, hg⟩
  · have m1 := shr_mono a0 a0 a2 (by omega)
    have m2 := near_mono a0 a0 (-128) 127 (by omega) (by decide)
    have m3 := near_mono a0 a0 (-2147483648) 2147483647 (by omega) (by decide)
    go_enter Try.func10, Try.ntmps10
    go_wp2_with (first | (go_at_call 12; refine (awake _).mono ?_; rintro e w1 ⟨rfl, hg, _⟩) | (go_at_call 24; (with_reducible refine (hsc _).mono ?_); rintro e w' ⟨rfl, rfl⟩) | (go_at_call 19; refine (shift _ _ (by omega) (by omega) _).mono ?_; rintro e w' ⟨rfl, rfl⟩) | (go_at_call 16; refine (sat8 _ _).mono ?_; rintro e w' ⟨rfl, rfl⟩) | (go_at_call 18; refine (sat32 _ _).mono ?_; rintro e w' ⟨rfl, rfl⟩))
    go_ret
    exact ⟨rfl, hg⟩
  · have m1 := shr_mono a1 a0 a2 (by omega)
    have m2 := near_mono a1 a0 (-128) 127 (by omega) (by decide)
    have m3 := near_mono a1 a0 (-2147483648) 2147483647 (by omega) (by decide)
    go_enter Try.func10, Try.ntmps10
    go_wp2_with (first | (go_at_call 12; refine (awake _).mono ?_; rintro e w1 ⟨rfl, hg, _⟩) | (go_at_call 24; (with_reducible refine (hsc _).mono ?_); rintro e w' ⟨rfl, rfl⟩) | (go_at_call 19; refine (shift _ _ (by omega) (by omega) _).mono ?_; rintro e w' ⟨rfl, rfl⟩) | (go_at_call 16; refine (sat8 _ _).mono ?_; rintro e w' ⟨rfl, rfl⟩) | (go_at_call 18; refine (sat32 _ _).mono ?_; rintro e w' ⟨rfl, rfl⟩))
    go_ret
    exact ⟨rfl, hg⟩

/-! ### THE ROW's STEP: WRITTEN OUT: LEAVE IT -/
set_option maxRecDepth 100000 in
theorem lifted (os : Os) (started : os.Started) (H : Type) (enc : TypeId × Value → H) :
    ReturnsInHanded {} Try.checked os 10 .any (Rows.roundOrdersSpec.pre6 enc Try.prog Try.f10 Rows.roundOrdersRow.domain false) (Rows.roundOrdersSpec.post enc Try.prog Try.f10 false true false false) := by
  refine returnsInHanded_of_change (C := Try.checked) own started (by kernel_rfl) Try.func10
    (ChangeSpec.witness6 (enc := enc) (C := Try.checked) false ⟨#[], #[.int .i64 0, .int .i64 0, .int .i64 0], []⟩ 8 (by kernel_rfl) (by kernel_rfl) (by kernel_rfl) (by kernel_rfl)) ?_
  intro W base args ds gs before hval0 hW hcnd _
  have hval : ∀ (j : Nat) t v, Try.f10.params[j]? = some t → args[j]? = some v → Value.okWide Try.prog W .any base t v := hval0
  have hW' := hW
  obtain ⟨p, q, hA0, hV, rfl, hfz, hnd⟩ := hW
  have hA : DataW.TrodAll enc Try.prog W 0 (fun _ => true) true Try.f10.params.toList args.toList ds p := hA0
  rw [Try.params10] at hA hval
  obtain ⟨v0, vs0, d0, ds0, p0, q0, hargs, rfl, rfl, h0, r0⟩ := trodAll_cons hA
  obtain ⟨v1, vs1, d1, ds1, p1, q1, rfl, rfl, rfl, h1, r1⟩ := trodAll_cons r0
  obtain ⟨v2, vs2, d2, ds2, p2, q2, rfl, rfl, rfl, h2, r2⟩ := trodAll_cons r1
  obtain ⟨rfl, rfl, rfl⟩ := trodAll_nil r2
  obtain rfl : args = #[v0, v1, v2] := by cases args; simp_all
  obtain ⟨rfl, rfl⟩ := trodVars_none hV
  obtain ⟨a0, rfl, rfl, rfl, w0⟩ := open_int Try.underlying2 (hval 0 2 v0 rfl rfl) h0
  obtain ⟨a1, rfl, rfl, rfl, w1⟩ := open_int Try.underlying2 (hval 1 2 v1 rfl rfl) h1
  obtain ⟨a2, rfl, rfl, rfl, w2⟩ := open_int Try.underlying3 (hval 2 3 v2 rfl rfl) h2
  clear hA0 hval0
  simp only [List.append_nil] at hW'
  refine (walk a0 a1 a2 w0 w1 w2 W).mono fun e W' ⟨he, hg⟩ => ?_
  subst he
  exact ⟨_, rfl, post_of_same (pa := []) (pv := []) hW' (fun _ _ _ => (trodAll_cons_mk (shut_bool Try.underlying4 _) trodAll_mk0)) (fun sp _ => (trodAll_cons_mk (shut_int Try.underlying2 w0) (trodAll_cons_mk (shut_int Try.underlying2 w1) (trodAll_cons_mk (shut_int Try.underlying3 w2) trodAll_mk0)))) (fun _ _ => rfl) rfl
    (hg.frame _) hg.2.1 (ok_one (by kernel_rfl) rfl (okWide_bool_mk Try.underlying4 _))⟩

theorem over : Rows.roundOrdersRow.holds Try.pinned (OpenSpec.ofChange Rows.roundOrdersSpec) :=
  OpenClaim.holds_of_wide 10 Try.f10 rfl rfl rfl rfl rfl rfl rfl ⟨rfl, rfl, rfl, rfl, rfl⟩ rfl rfl rfl rfl rfl (by kernel_rfl) Try.func10 (by kernel_rfl)
    (of_decide_eq_true (by kernel_rfl)) (by unfold Func.isWrapper; first | (rw [if_pos (by decide +kernel)]; kernel_rfl) | (rw [if_neg (by decide +kernel)]; exact ⟨rfl, rfl⟩))
    (fun os started H enc _ => lifted os started H enc)

/-- ████ THE STATEMENT ████ -/
theorem proved : Rows.RoundOrdersSaid :=
  over
#print axioms proved
end Go.Proofs.Ythkehkjoaelmaaa.roundOrders
