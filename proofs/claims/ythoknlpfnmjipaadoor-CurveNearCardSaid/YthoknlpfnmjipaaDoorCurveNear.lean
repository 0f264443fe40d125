/-
  Proved: for every number n of 32 bits CurveNear returns true (the whole root and one by the root are the nearest from below) and nothing that was in memory turns. Conditions: the table reads as the program's initialisers lay it (tied by the card).
-/
import Derived.Test.YthoknlpfnmjipaaDoorRows
import Derived.WalkKit
import Derived.ProofKit
import Derived.OpenShut
import Derived.ShutString
import Derived.Below
import Derived.Test.YthoknlpfnmjipaaDoorLaid
import Derived.Test.YthoknlpfnmjipaaDoorTie
import Derived.Test.YthoknlpfnmjipaaDoorCards
import Derived.SevenTiedAt
import Derived.Test.YthoknlpfnmjipaaDoorAwake2
import Derived.Test.YthoknlpfnmjipaaDoorFalls
namespace Go.Proofs.YthoknlpfnmjipaaDoor.curveNear
open Go.ChangeShapes Go.WideShapes Go.ChangeAt Go.RowKit
open Go.ChangeMaps (open_string shut_string)
set_option linter.unusedVariables false      -- a walk need not use every 'w<i>' (that an integer argument fits its kind)

theorem own : ownKnob Tryd.prog.godebug = none := by kernel_rfl

/-! ### STEP 1: THE WALK: the Go text returns true. 'Grown w w'': the world has at most new blocks (Derived/RowKit3.lean). Part the cases AHEAD of 'go_enter' where a test parts the walk; take each callee by a contract of your own. -/
set_option maxHeartbeats 3200000 in
theorem walk (a0 : Int) (w0 : (Lit.int .u32 a0).wf = true) (w : World) (hT : Tab w) :
    Calls Tryd.prog 8 #[.int .u32 a0] w fun e w' => e = .returned (.bool true) ∧ Below w.heap.size w w' := by
  obtain ⟨n0, n1⟩ := wfu32 w0
  clear w0
  have hone : a0 ≠ 0 → one_of a0 = a0 := fun h => by unfold one_of; rw [if_neg h]
  go_enter Tryd.func8, Tryd.ntmps8
  go_wp2_with fail
  refine (awake _ hT).mono ?_
  rintro e wa ⟨rfl, hb1⟩
  clear hT
  go_wp2_with fail
  refine (root a0 n0 (by omega) _).mono ?_
  rintro e wb ⟨⟨r, rfl, hr, _⟩, rfl⟩
  go_wp2_with fail
  refine (inverse a0 n0 (by omega) _).mono ?_
  rintro e wb ⟨⟨q, rfl, hq, _⟩, rfl⟩
  obtain ⟨r0, r1, r2⟩ := hr
  obtain ⟨q0, q1, q2⟩ := hq
  have rb : r ≤ 65535 := by
    rcases Int.lt_or_le 65535 r with h | h
    · have := sq_le (a := 65536) (b := r) (by decide) (by omega); omega
    · exact h
  have rs : (r + 1) * (r + 1) ≤ 65536 * 65536 := sq_le (by omega) (by omega)
  have rp : 0 ≤ (r + 1) * (r + 1) := Int.mul_nonneg (by omega) (by omega)
  have rq : 0 ≤ r * r := Int.mul_nonneg r0 r0
  by_cases c : a0 = 0
  · have c' : (a0 == 0) = true := by simpa using c
    clear q0 q1 q2 hone
    have C := Lib.hid c
    clear c
    have rn1 : decide (a0 < r * r) = false := by simp; omega
    have rn2 : decide ((r + 1) * (r + 1) ≤ a0) = false := by simp; omega
    go_wp2
    go_ret
    exact ⟨rfl, hb1⟩
  · have c' : (a0 == 0) = false := by simpa using c
    rw [hone c] at q1 q2
    have k0 : 0 ≤ 281474976710656 / a0 := Int.ediv_nonneg (by decide) (by omega)
    have k1 : 281474976710656 / a0 ≤ 281474976710656 := Int.ediv_le_self _ (by decide)
    have k2 : 281474976710656 / a0 * a0 ≤ 281474976710656 := Int.ediv_mul_le _ (by omega)
    have qb : q ≤ 16777216 := by
      rcases Int.lt_or_le 16777216 q with h | h
      · have := sq_le (a := 16777217) (b := q) (by decide) (by omega); omega
      · exact h
    have qs : (q + 1) * (q + 1) ≤ 16777217 * 16777217 := sq_le (by omega) (by omega)
    have qp : 0 ≤ (q + 1) * (q + 1) := Int.mul_nonneg (by omega) (by omega)
    have qq : 0 ≤ q * q := Int.mul_nonneg q0 q0
    have qm : q * q * a0 ≤ 281474976710656 / a0 * a0 := Int.mul_le_mul_of_nonneg_right q1 n0
    have qm0 : 0 ≤ q * q * a0 := Int.mul_nonneg qq n0
    have qm1 : q * q * a0 ≤ 281474976710656 := by omega
    clear hone k2 qm
    have rn1 : decide (a0 < r * r) = false := by simp; omega
    have rn2 : decide ((r + 1) * (r + 1) ≤ a0) = false := by simp; omega
    go_wp2
    go_ret
    exact ⟨rfl, hb1⟩

/-! ### THE ROW's STEP: WRITTEN OUT: LEAVE IT -/
set_option maxRecDepth 100000 in
theorem lifted (os : Os) (started : os.Started) (H : Type) (enc : TypeId × Value → H) :
    ReturnsInHanded {} Tryd.checked os 8 .any (fun w args => (Rows.curveNearSpec.pre enc Tryd.prog Tryd.f8 [] false w args ∧ laidMetH Tryd.prog laidList w) ∧ sizedMet enc Tryd.prog Tryd.f8 (OpenSpec.ofChange Rows.curveNearSpec) false w args) (Rows.curveNearSpec.post enc Tryd.prog Tryd.f8 false true false false) := by
  refine returnsInHanded_of_change_and (C := Tryd.checked) (X := fun w _ => laidMetH Tryd.prog laidList w) (fun _ _ _ hh h => h.of_heap hh) own started (by kernel_rfl) Tryd.func8
    (ChangeSpec.witness_shaped (enc := enc) (C := Tryd.checked) (os := os) (X := fun w _ => laidMetH Tryd.prog laidList w) false (World.doorLaid Tryd.prog 400 os) #[.int .u32 0] 8 rfl (World.shaped_of_RefB (by kernel_rfl) (by kernel_rfl)) (by kernel_rfl) (by kernel_rfl) (by kernel_rfl) (door_met os _)) ?_
  intro W base args ds gs before hval0 hW _ _ hL _
  have hval : ∀ (j : Nat) t v, Tryd.f8.params[j]? = some t → args[j]? = some v → Value.okWide Tryd.prog W .any base t v := hval0
  have hW' := hW
  obtain ⟨p, q, hA0, hV, rfl, hfz, hnd⟩ := hW
  have hA : DataW.TrodAll enc Tryd.prog W 0 (fun _ => true) true Tryd.f8.params.toList args.toList ds p := hA0
  rw [Tryd.params8] at hA hval
  obtain ⟨v0, vs0, d0, ds0, p0, q0, hargs, rfl, rfl, h0, r0⟩ := trodAll_cons hA
  obtain ⟨rfl, rfl, rfl⟩ := trodAll_nil r0
  obtain rfl : args = #[v0] := by cases args; simp_all
  obtain ⟨rfl, rfl⟩ := trodVars_none hV
  obtain ⟨a0, rfl, rfl, rfl, w0⟩ := open_int Tryd.underlying35 (hval 0 35 v0 rfl rfl) h0
  clear hA0 hval0
  have hT := tab_of_laid hL
  refine (walk a0 w0 W hT).mono fun e W' ⟨he, bel⟩ => ?_
  subst he
  exact ⟨_, rfl, _, _, _, [], _, [], hW', trodAll_mk1 (shut_bool Tryd.underlying4 _), (trodAll_cons_mk (shut_int Tryd.underlying35 w0) trodAll_mk0), rfl, bel.frame _, fun h => by cases h⟩

theorem over : Rows.curveNearRow.holds Tryd.pinned (OpenSpec.ofChange Rows.curveNearSpec) :=
  OpenClaim.holds_of_wide 8 Tryd.f8 rfl rfl rfl rfl rfl rfl rfl ⟨rfl, rfl, rfl, rfl, rfl⟩ rfl rfl rfl rfl rfl (by kernel_rfl) Tryd.func8 (by kernel_rfl)
    (of_decide_eq_true (by kernel_rfl)) (by unfold Func.isWrapper; first | (rw [if_pos (by decide +kernel)]; kernel_rfl) | (rw [if_neg (by decide +kernel)]; exact ⟨rfl, rfl⟩))
    (fun os started H enc _ => lifted os started H enc)

/-- the row's statement -/
theorem said : Rows.CurveNearSaid := over

/-- THE STATEMENT: the tied card -/
theorem proved : Rows.CurveNearCardSaid :=
  Claim7.holds_tied_plain_at .later [] [.data] true (true, "4bf39e601c0bef885d605a565528bdf0db9fce48cf7e75ebb9db6c5d31bef3df") false
    said (fun _ h => by cases h) (by kernel_rfl) (fun _ h => by cases h) curveNear_row_tie rfl ⟨rfl, rfl⟩ (by kernel_rfl) rfl
    (fun f fn hf hfn => by
      obtain rfl : f = 8 := Option.some.inj ((show Tryd.prog.funcNamed "peloton/pelotonlaw02.CurveNear" = some 8 by kernel_rfl).symm.trans hf) |>.symm
      obtain rfl : fn = Tryd.f8 := (Option.some.inj (Tryd.func8.symm.trans hfn)).symm
      exact ⟨by kernel_rfl, fun j t ht => by
        rw [Tryd.params8] at ht
        have hm : t ∈ [35] := by simpa using Array.mem_of_getElem? ht
        have hall : ([35].all fun u => !Tryd.prog.wantsStandIn u) = true := by kernel_rfl
        exact (show Tryd.prog.wantsStandIn t = false by simpa using List.all_eq_true.1 hall t hm)⟩)
    (by kernel_rfl)
#print axioms proved
end Go.Proofs.YthoknlpfnmjipaaDoor.curveNear
