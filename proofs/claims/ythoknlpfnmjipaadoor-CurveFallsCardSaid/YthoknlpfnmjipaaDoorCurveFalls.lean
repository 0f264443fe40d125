/-
  Proved: for every two powers a, b and every number n CurveFalls returns true (Exp never falls, lies between 0 and one; the root of a square is the number) and nothing that was in memory turns. Conditions: the table reads as the program's initialisers lay it (tied by the card).
-/
import Derived.Test.YthoknlpfnmjipaaDoorRows
import Derived.WalkKit
import Derived.ProofKit
import Derived.OpenShut
import Derived.ShutString
import Derived.Below
import Derived.Test.YthoknlpfnmjipaaDoorLaid
import Derived.Test.YthoknlpfnmjipaaDoorTie
import Derived.Test.YthoknlpfnmjipaaDoorCards
import Derived.SevenTiedAt
import Derived.Test.YthoknlpfnmjipaaDoorAwake2
import Derived.Test.YthoknlpfnmjipaaDoorFalls
namespace Go.Proofs.YthoknlpfnmjipaaDoor.curveFalls
open Go.ChangeShapes Go.WideShapes Go.ChangeAt Go.RowKit
open Go.ChangeMaps (open_string shut_string)
set_option linter.unusedVariables false      -- a walk need not use every 'w<i>' (that an integer argument fits its kind)

theorem own : ownKnob Tryd.prog.godebug = none := by kernel_rfl

/-! ### STEP 1: THE WALK: the Go text returns true. 'Grown w w'': the world has at most new blocks (Derived/RowKit3.lean). Part the cases AHEAD of 'go_enter' where a test parts the walk; take each callee by a contract of your own. -/
set_option maxHeartbeats 3200000 in
theorem walk (a0 : Int) (a1 : Int) (a2 : Int) (w0 : (Lit.int .i64 a0).wf = true) (w1 : (Lit.int .i64 a1).wf = true) (w2 : (Lit.int .u32 a2).wf = true) (w : World) (hT : Tab w) :
    Calls Tryd.prog 6 #[.int .i64 a0, .int .i64 a1, .int .u32 a2] w fun e w' => e = .returned (.bool true) ∧ Below w.heap.size w w' := by
  obtain ⟨l0, u0⟩ := wf64 w0
  obtain ⟨l1, u1⟩ := wf64 w1
  obtain ⟨n0, n1⟩ := wfu32 w2
  have b0 := E_bd a0
  have b1 := E_bd a1
  have m0 : 0 ≤ a2 * a2 := Int.mul_nonneg n0 n0
  have m1 : a2 * a2 ≤ 4294967295 * 4294967295 := sq_le n0 n1
  have hr1 : ∀ w, Calls Tryd.prog 14 #[.int .u64 (a2 * a2)] w fun e w' => e = .returned (.int .u64 a2) ∧ w = w' := root_c (a2 * a2) a2 m0 (by omega) (root_square a2 n0)
  have he0 := fun w hT => exp a0 l0 u0 w hT
  have he1 := fun w hT => exp a1 l1 u1 w hT
  have ho1 := E_mono a0 a1
  have ho2 := E_mono a1 a0
  obtain ⟨p, hp⟩ : ∃ p, E a0 = p := ⟨_, rfl⟩
  obtain ⟨q, hq⟩ : ∃ q, E a1 = q := ⟨_, rfl⟩
  rw [hp] at b0 he0 ho1 ho2
  rw [hq] at b1 he1 ho1 ho2
  clear w0 w1 w2 hp hq
  rcases Int.lt_trichotomy a0 a1 with h | h | h
  · have hle := ho1 (by omega)
    clear ho1 ho2
    by_cases c : a2 = 0
    · subst c
      simp only [Int.mul_zero] at hr1
      go_enter Tryd.func6, Tryd.ntmps6
      go_wp2_with fail
      refine (awake _ hT).mono ?_
      rintro e wa ⟨rfl, hb1⟩
      have hT1 := hT.below hb1
      clear hT
      go_wp2_with fail
      refine (he0 _ hT1).mono ?_
      rintro e wb ⟨rfl, d1, rfl⟩
      go_wp2_with fail
      refine (he1 _ (hT1.drewN _)).mono ?_
      rintro e wb ⟨rfl, d2, rfl⟩
      clear hT1
      go_wp2_with fail
      refine (hr1 _).mono ?_
      rintro e wb ⟨rfl, rfl⟩
      go_wp2
      go_ret
      exact ⟨rfl, below_drewN hb1 _⟩
    · have c1 : 1 ≤ a2 := by omega
      have c' : (a2 == 0) = false := by simpa using c
      have hr2 : ∀ w, Calls Tryd.prog 14 #[.int .u64 (a2 * a2 - 1)] w fun e w' => e = .returned (.int .u64 (a2 - 1)) ∧ w = w' := root_c (a2 * a2 - 1) (a2 - 1) (by have := sq_le (a := 1) (b := a2) (by decide) c1; omega) (by omega) (root_below a2 c1)
      have m2 : 1 ≤ a2 * a2 := by have := sq_le (a := 1) (b := a2) (by decide) c1; omega
      go_enter Tryd.func6, Tryd.ntmps6
      go_wp2_with fail
      refine (awake _ hT).mono ?_
      rintro e wa ⟨rfl, hb1⟩
      have hT1 := hT.below hb1
      clear hT
      go_wp2_with fail
      refine (he0 _ hT1).mono ?_
      rintro e wb ⟨rfl, d1, rfl⟩
      go_wp2_with fail
      refine (he1 _ (hT1.drewN _)).mono ?_
      rintro e wb ⟨rfl, d2, rfl⟩
      clear hT1
      go_wp2_with fail
      refine (hr1 _).mono ?_
      rintro e wb ⟨rfl, rfl⟩
      go_wp2_with fail
      refine (hr2 _).mono ?_
      rintro e wb ⟨rfl, rfl⟩
      go_wp2
      go_ret
      exact ⟨rfl, below_drewN hb1 _⟩
  · subst h
    have hle := Int.le_refl p
    clear ho1 ho2 he1 b1
    by_cases c : a2 = 0
    · subst c
      simp only [Int.mul_zero] at hr1
      go_enter Tryd.func6, Tryd.ntmps6
      go_wp2_with fail
      refine (awake _ hT).mono ?_
      rintro e wa ⟨rfl, hb1⟩
      have hT1 := hT.below hb1
      clear hT
      go_wp2_with fail
      refine (he0 _ hT1).mono ?_
      rintro e wb ⟨rfl, d1, rfl⟩
      go_wp2_with fail
      refine (he0 _ (hT1.drewN _)).mono ?_
      rintro e wb ⟨rfl, d2, rfl⟩
      clear hT1
      go_wp2_with fail
      refine (hr1 _).mono ?_
      rintro e wb ⟨rfl, rfl⟩
      go_wp2
      go_ret
      exact ⟨rfl, below_drewN hb1 _⟩
    · have c1 : 1 ≤ a2 := by omega
      have c' : (a2 == 0) = false := by simpa using c
      have hr2 : ∀ w, Calls Tryd.prog 14 #[.int .u64 (a2 * a2 - 1)] w fun e w' => e = .returned (.int .u64 (a2 - 1)) ∧ w = w' := root_c (a2 * a2 - 1) (a2 - 1) (by have := sq_le (a := 1) (b := a2) (by decide) c1; omega) (by omega) (root_below a2 c1)
      have m2 : 1 ≤ a2 * a2 := by have := sq_le (a := 1) (b := a2) (by decide) c1; omega
      go_enter Tryd.func6, Tryd.ntmps6
      go_wp2_with fail
      refine (awake _ hT).mono ?_
      rintro e wa ⟨rfl, hb1⟩
      have hT1 := hT.below hb1
      clear hT
      go_wp2_with fail
      refine (he0 _ hT1).mono ?_
      rintro e wb ⟨rfl, d1, rfl⟩
      go_wp2_with fail
      refine (he0 _ (hT1.drewN _)).mono ?_
      rintro e wb ⟨rfl, d2, rfl⟩
      clear hT1
      go_wp2_with fail
      refine (hr1 _).mono ?_
      rintro e wb ⟨rfl, rfl⟩
      go_wp2_with fail
      refine (hr2 _).mono ?_
      rintro e wb ⟨rfl, rfl⟩
      go_wp2
      go_ret
      exact ⟨rfl, below_drewN hb1 _⟩
  · have hle := ho2 (by omega)
    clear ho1 ho2
    by_cases c : a2 = 0
    · subst c
      simp only [Int.mul_zero] at hr1
      go_enter Tryd.func6, Tryd.ntmps6
      go_wp2_with fail
      refine (awake _ hT).mono ?_
      rintro e wa ⟨rfl, hb1⟩
      have hT1 := hT.below hb1
      clear hT
      go_wp2_with fail
      refine (he1 _ hT1).mono ?_
      rintro e wb ⟨rfl, d1, rfl⟩
      go_wp2_with fail
      refine (he0 _ (hT1.drewN _)).mono ?_
      rintro e wb ⟨rfl, d2, rfl⟩
      clear hT1
      go_wp2_with fail
      refine (hr1 _).mono ?_
      rintro e wb ⟨rfl, rfl⟩
      go_wp2
      go_ret
      exact ⟨rfl, below_drewN hb1 _⟩
    · have c1 : 1 ≤ a2 := by omega
      have c' : (a2 == 0) = false := by simpa using c
      have hr2 : ∀ w, Calls Tryd.prog 14 #[.int .u64 (a2 * a2 - 1)] w fun e w' => e = .returned (.int .u64 (a2 - 1)) ∧ w = w' := root_c (a2 * a2 - 1) (a2 - 1) (by have := sq_le (a := 1) (b := a2) (by decide) c1; omega) (by omega) (root_below a2 c1)
      have m2 : 1 ≤ a2 * a2 := by have := sq_le (a := 1) (b := a2) (by decide) c1; omega
      go_enter Tryd.func6, Tryd.ntmps6
      go_wp2_with fail
      refine (awake _ hT).mono ?_
      rintro e wa ⟨rfl, hb1⟩
      have hT1 := hT.below hb1
      clear hT
      go_wp2_with fail
      refine (he1 _ hT1).mono ?_
      rintro e wb ⟨rfl, d1, rfl⟩
      go_wp2_with fail
      refine (he0 _ (hT1.drewN _)).mono ?_
      rintro e wb ⟨rfl, d2, rfl⟩
      clear hT1
      go_wp2_with fail
      refine (hr1 _).mono ?_
      rintro e wb ⟨rfl, rfl⟩
      go_wp2_with fail
      refine (hr2 _).mono ?_
      rintro e wb ⟨rfl, rfl⟩
      go_wp2
      go_ret
      exact ⟨rfl, below_drewN hb1 _⟩

/-! ### THE ROW's STEP: WRITTEN OUT: LEAVE IT -/
set_option maxRecDepth 100000 in
theorem lifted (os : Os) (started : os.Started) (H : Type) (enc : TypeId × Value → H) :
    ReturnsInHanded {} Tryd.checked os 6 .any (fun w args => (Rows.curveFallsSpec.pre enc Tryd.prog Tryd.f6 [] false w args ∧ laidMetH Tryd.prog laidList w) ∧ sizedMet enc Tryd.prog Tryd.f6 (OpenSpec.ofChange Rows.curveFallsSpec) false w args) (Rows.curveFallsSpec.post enc Tryd.prog Tryd.f6 false true false false) := by
  refine returnsInHanded_of_change_and (C := Tryd.checked) (X := fun w _ => laidMetH Tryd.prog laidList w) (fun _ _ _ hh h => h.of_heap hh) own started (by kernel_rfl) Tryd.func6
    (ChangeSpec.witness_shaped (enc := enc) (C := Tryd.checked) (os := os) (X := fun w _ => laidMetH Tryd.prog laidList w) false (World.doorLaid Tryd.prog 400 os) #[.int .i64 0, .int .i64 0, .int .u32 0] 8 rfl (World.shaped_of_RefB (by kernel_rfl) (by kernel_rfl)) (by kernel_rfl) (by kernel_rfl) (by kernel_rfl) (door_met os _)) ?_
  intro W base args ds gs before hval0 hW _ _ hL _
  have hval : ∀ (j : Nat) t v, Tryd.f6.params[j]? = some t → args[j]? = some v → Value.okWide Tryd.prog W .any base t v := hval0
  have hW' := hW
  obtain ⟨p, q, hA0, hV, rfl, hfz, hnd⟩ := hW
  have hA : DataW.TrodAll enc Tryd.prog W 0 (fun _ => true) true Tryd.f6.params.toList args.toList ds p := hA0
  rw [Tryd.params6] at hA hval
  obtain ⟨v0, vs0, d0, ds0, p0, q0, hargs, rfl, rfl, h0, r0⟩ := trodAll_cons hA
  obtain ⟨v1, vs1, d1, ds1, p1, q1, rfl, rfl, rfl, h1, r1⟩ := trodAll_cons r0
  obtain ⟨v2, vs2, d2, ds2, p2, q2, rfl, rfl, rfl, h2, r2⟩ := trodAll_cons r1
  obtain ⟨rfl, rfl, rfl⟩ := trodAll_nil r2
  obtain rfl : args = #[v0, v1, v2] := by cases args; simp_all
  obtain ⟨rfl, rfl⟩ := trodVars_none hV
  obtain ⟨a0, rfl, rfl, rfl, w0⟩ := open_int Tryd.underlying2 (hval 0 2 v0 rfl rfl) h0
  obtain ⟨a1, rfl, rfl, rfl, w1⟩ := open_int Tryd.underlying2 (hval 1 2 v1 rfl rfl) h1
  obtain ⟨a2, rfl, rfl, rfl, w2⟩ := open_int Tryd.underlying35 (hval 2 35 v2 rfl rfl) h2
  clear hA0 hval0
  have hT := tab_of_laid hL
  refine (walk a0 a1 a2 w0 w1 w2 W hT).mono fun e W' ⟨he, bel⟩ => ?_
  subst he
  exact ⟨_, rfl, _, _, _, [], _, [], hW', trodAll_mk1 (shut_bool Tryd.underlying4 _), (trodAll_cons_mk (shut_int Tryd.underlying2 w0) (trodAll_cons_mk (shut_int Tryd.underlying2 w1) (trodAll_cons_mk (shut_int Tryd.underlying35 w2) trodAll_mk0))), rfl, bel.frame _, fun h => by cases h⟩

theorem over : Rows.curveFallsRow.holds Tryd.pinned (OpenSpec.ofChange Rows.curveFallsSpec) :=
  OpenClaim.holds_of_wide 6 Tryd.f6 rfl rfl rfl rfl rfl rfl rfl ⟨rfl, rfl, rfl, rfl, rfl⟩ rfl rfl rfl rfl rfl (by kernel_rfl) Tryd.func6 (by kernel_rfl)
    (of_decide_eq_true (by kernel_rfl)) (by unfold Func.isWrapper; first | (rw [if_pos (by decide +kernel)]; kernel_rfl) | (rw [if_neg (by decide +kernel)]; exact ⟨rfl, rfl⟩))
    (fun os started H enc _ => lifted os started H enc)

/-- the row's statement -/
theorem said : Rows.CurveFallsSaid := over

/-- THE STATEMENT: the tied card -/
theorem proved : Rows.CurveFallsCardSaid :=
  Claim7.holds_tied_plain_at .later [] [.data] true (true, "4bf39e601c0bef885d605a565528bdf0db9fce48cf7e75ebb9db6c5d31bef3df") false
    said (fun _ h => by cases h) (by kernel_rfl) (fun _ h => by cases h) curveFalls_row_tie rfl ⟨rfl, rfl⟩ (by kernel_rfl) rfl
    (fun f fn hf hfn => by
      obtain rfl : f = 6 := Option.some.inj ((show Tryd.prog.funcNamed "peloton/pelotonlaw02.CurveFalls" = some 6 by kernel_rfl).symm.trans hf) |>.symm
      obtain rfl : fn = Tryd.f6 := (Option.some.inj (Tryd.func6.symm.trans hfn)).symm
      exact ⟨by kernel_rfl, fun j t ht => by
        rw [Tryd.params6] at ht
        have hm : t ∈ [2, 2, 35] := by simpa using Array.mem_of_getElem? ht
        have hall : ([2, 2, 35].all fun u => !Tryd.prog.wantsStandIn u) = true := by kernel_rfl
        exact (show Tryd.prog.wantsStandIn t = false by simpa using List.all_eq_true.1 hall t hm)⟩)
    (by kernel_rfl)
#print axioms proved
end Go.Proofs.YthoknlpfnmjipaaDoor.curveFalls
