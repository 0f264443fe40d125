/-
  Proved: for any numbers of places and pairs RopeTables returns true (a table has just its places and pairs, each with the cosine and the sine of its angle, and is refused where the document says so) and nothing that was in memory turns. Conditions: the table reads as the program's initialisers lay it (tied by the card).
-/
import Derived.Test.YtbggklhnmkiamaaDoorRows
import Derived.WalkKit
import Derived.ProofKit
import Derived.OpenShut
import Derived.ShutString
import Derived.Below
import Derived.Test.YtbggklhnmkiamaaDoorLaid6
import Derived.Test.YtbggklhnmkiamaaDoorTie
import Derived.Test.YtbggklhnmkiamaaDoorCards
import Derived.SevenTiedAt
import Derived.Test.YtbggklhnmkiamaaDoorAwake6
import Derived.Test.YtbggklhnmkiamaaDoorTables
import Derived.Test.YtbggklhnmkiamaaDoorTurns
import Derived.Test.YtbggklhnmkiamaaDoorRefSines
import Derived.Deep.RegionHeld3
import Derived.Deep.CutRange
namespace Go.Proofs.YtbggklhnmkiamaaDoor.ropeTables
open Go.ChangeShapes Go.WideShapes Go.ChangeAt Go.RowKit
open Go.ChangeMaps (open_string shut_string)
set_option linter.unusedVariables false      -- a walk need not use every 'w<i>' (that an integer argument fits its kind)

theorem own : ownKnob Tryd.prog.godebug = none := by kernel_rfl

/-! ### STEP 1: THE WALK: the Go text returns true. 'Grown w w'': the world has at most new blocks (Derived/RowKit3.lean). Part the cases AHEAD of 'go_enter' where a test parts the walk; take each callee by a contract of your own. -/
set_option maxHeartbeats 3200000 in
set_option maxRecDepth 100000 in
theorem walk (a0 : Int) (a1 : Int) (w0 : (Lit.int .i64 a0).wf = true) (w1 : (Lit.int .i64 a1).wf = true) (w : World) (hT : STab w) :
    Calls Tryd.prog 5 #[.int .i64 a0, .int .i64 a1] w fun e w' => e = .returned (.bool true) ∧ Below w.heap.size w w' := by
  obtain ⟨p1, p2⟩ := wf64 w0
  obtain ⟨q1, q2⟩ := wf64 w1
  clear w0 w1
  have hnone := len_none
  by_cases c0 : a0 < 0
  · have hno := table_no a0 a1 (.inl (by omega))
    go_enter Tryd.func5, Tryd.ntmps5
    go_wp2_with fail
    refine (awake6 _ hT).mono ?_
    rintro e wa ⟨rfl, hb1⟩
    go_wp2_with fail
    refine (hno _).mono ?_
    rintro e w' ⟨rfl, rfl⟩
    clear hno hT
    go_wp2
    go_ret
    exact ⟨rfl, hb1⟩
  · by_cases c1 : a1 < 0
    · have hno := table_no a0 a1 (.inr (by omega))
      go_enter Tryd.func5, Tryd.ntmps5
      go_wp2_with fail
      refine (awake6 _ hT).mono ?_
      rintro e wa ⟨rfl, hb1⟩
      go_wp2_with fail
      refine (hno _).mono ?_
      rintro e w' ⟨rfl, rfl⟩
      clear hno hT
      go_wp2
      go_ret
      exact ⟨rfl, hb1⟩
    · by_cases c2 : 256 < a0
      · have hno := table_no a0 a1 (.inl (by omega))
        go_enter Tryd.func5, Tryd.ntmps5
        go_wp2_with fail
        refine (awake6 _ hT).mono ?_
        rintro e wa ⟨rfl, hb1⟩
        go_wp2_with fail
        refine (hno _).mono ?_
        rintro e w' ⟨rfl, rfl⟩
        clear hno hT
        go_wp2
        go_ret
        exact ⟨rfl, hb1⟩
      · by_cases c3 : 256 < a1
        · have hno := table_no a0 a1 (.inr (by omega))
          go_enter Tryd.func5, Tryd.ntmps5
          go_wp2_with fail
          refine (awake6 _ hT).mono ?_
          rintro e wa ⟨rfl, hb1⟩
          go_wp2_with fail
          refine (hno _).mono ?_
          rintro e w' ⟨rfl, rfl⟩
          clear hno hT
          go_wp2
          go_ret
          exact ⟨rfl, hb1⟩
        · obtain ⟨P, rfl⟩ : ∃ n : Nat, a0 = n := ⟨a0.toNat, by omega⟩
          obtain ⟨Q, rfl⟩ : ∃ n : Nat, a1 = n := ⟨a1.toNat, by omega⟩
          have hP : P ≤ 256 := by omega
          have hQ : Q ≤ 256 := by omega
          have hm : 0 ≤ (P : Int) * (Q : Int) ∧ (P : Int) * (Q : Int) ≤ 256 * 256 := ⟨Int.mul_nonneg (by omega) (by omega), Int.mul_le_mul (by omega) (by omega) (by omega) (by decide)⟩
          clear c0 c1 c2 c3 p1 p2 q1 q2 hnone
          go_enter Tryd.func5, Tryd.ntmps5
          go_wp2_with fail
          refine (awake6 _ hT).mono ?_
          rintro e wa ⟨rfl, hb1⟩
          have hT1 := hT.below hb1
          go_wp2_with fail
          refine (table_yes P Q hP hQ wa hT1).mono ?_
          rintro e wb ⟨⟨b, D, rfl, hown, htab⟩, hb2⟩
          have hbb := below_two hb1 hb2
          have hlen : ∀ ty, (Builtin.len_ #[33] ty #[.map (some b)]).run Tryd.prog wb = .ok (.int .i64 ((P : Int) * (Q : Int))) wb := fun ty => by
            rw [hown.len ty, htab.2.1]; simp
          have hne : ((P : Int) * (Q : Int) != (P : Int) * (Q : Int)) = false := by simp
          have HO := Lib.hid hown
          have HTB := Lib.hid htab
          clear hown htab hT hT1 hb1 hb2
          go_upto_region 8 with (fail)
          clear hlen hne
          go_wp2
          go_loopw [7] (fun x wr => ∃ (p : Nat), p ≤ P ∧ x = .int .i64 p ∧ Below wb.heap.size wb wr) (fun x _ => P - (intOf x).toNat)
          case atStart => exact ⟨0, by omega, rfl, Below.refl _ _⟩
          case round =>
            obtain ⟨p, hp, rfl, hbel⟩ := hrel
            by_cases hlt : p < P
            · go_wp2
              go_loopw [8] (fun x wq => ∃ (i : Nat), i ≤ Q ∧ x = .int .i64 i ∧ Below wb.heap.size wb wq) (fun x _ => Q - (intOf x).toNat)
              case atStart => exact ⟨0, by omega, rfl, hbel⟩
              case round =>
                obtain ⟨i, hi, rfl, hbel2⟩ := hrel
                by_cases hlt2 : i < Q
                · have ho := HO.out.below hbel2 HO.out.lt
                  have hkey := key_mk (p := p) (i := i) (by omega) (by omega)
                  have hhas : Maps.has D (keyP p i) = true := by rw [HTB.out.2.2.1 p i (by omega) (by omega), decide_eq_true (by omega)]
                  have hat := HTB.out.2.2.2 p i (by omega) (by omega) (by omega)
                  have e1 : fC p i = cosi (ang p i) := rfl
                  have e2 : fS p i = sine (ang p i) := rfl
                  rw [e1, e2] at hat
                  have hang := ref_angle6 p i (by omega)
                  have eb := ang_bd p i
                  generalize ang p i = g at hat hang eb
                  have hcos := ref_cos6 g (by omega) (by omega)
                  have hsin := ref_sin6 g (by omega) (by omega)
                  generalize cosi g = c at hat hcos
                  generalize sine g = s at hat hsin
                  have HH := Lib.hid hhas
                  have HA := Lib.hid hat
                  clear e1 e2 hhas hat
                  go_wp2_with (at_lookup; refine wpList_lookup_row _ (by rfl) _ _ (by rfl) b (P * Q + 0) D (by rfl) ho _ _ (by rfl) hkey c s HH.out HA.out ?_)
                  have z0 : (wr.alloc (.cells #[.int .i32 c, .int .i32 s] 36)).cell? ⟨wr.heap.size, 0, none⟩ = some (.int .i32 c) := by simp
                  have z1 : (wr.alloc (.cells #[.int .i32 c, .int .i32 s] 36)).cell? ⟨wr.heap.size, 1, none⟩ = some (.int .i32 s) := by simp
                  have Bv := hbel2.alloc hbel2.size (.cells #[.int .i32 c, .int .i32 s] 36)
                  refine (hang _).mono ?_
                  rintro e w' ⟨rfl, rfl⟩
                  generalize wr.alloc (.cells #[.int .i32 c, .int .i32 s] 36) = wv at z0 z1 Bv ⊢
                  clear hang ho hkey hbel2
                  generalize wr.heap.size = B at z0 z1 ⊢
                  have t0 : (c != c) = false := by simp
                  have t1 : (s != s) = false := by simp
                  go_upto_region 16 with (fail)
                  go_region_held3 (fun w' => w'.cell? ⟨B, 0, none⟩ = some (.int .i32 c) ∧ w'.cell? ⟨B, 1, none⟩ = some (.int .i32 s)) (first | go_keep | (go_split_ands; refine ⟨?_, ?_⟩ <;> assumption))
                    (first
                      | (go_at_call 12; (with_reducible refine (hcos _).mono ?_); rintro e wx ⟨rfl, hb3⟩; have k0 := cell_kept6 (w := wv.drew) hb3 z0; have k1 := cell_kept6 (w := wv.drew) hb3 z1)
                      | (go_at_call 10; (with_reducible refine (hsin _).mono ?_); rintro e wy ⟨rfl, hb4⟩; have k2 := cell_kept6 hb4 k0; have k3 := cell_kept6 hb4 k1))
                  have Bz := below_two Bv (below_two (Below.refl _ _).drew (below_two hb3 hb4))
                  clear t0 t1 hcos hsin k0 k1 k2 k3 hb3 hb4 z0 z1 Bv
                  go_wp2
                  go_roundw
                  case rel => exact ⟨i + 1, by omega, by go_num, Bz⟩
                  case measure => simp [intOf]; omega
                · obtain rfl : i = Q := by omega
                  go_wp2
                  go_roundw
                  case rel => exact ⟨p + 1, by omega, by go_num, hbel2⟩
                  case measure => simp [intOf]; omega
            · obtain rfl : p = P := by omega
              go_wp2
              go_ret
              exact ⟨rfl, below_two hbb hbel⟩

/-! ### THE ROW's STEP: WRITTEN OUT: LEAVE IT -/
set_option maxRecDepth 100000 in
theorem lifted (os : Os) (started : os.Started) (H : Type) (enc : TypeId × Value → H) :
    ReturnsInHanded {} Tryd.checked os 5 .any (fun w args => (Rows.ropeTablesSpec.pre enc Tryd.prog Tryd.f5 [] false w args ∧ laidMetH Tryd.prog laidList6 w) ∧ sizedMet enc Tryd.prog Tryd.f5 (OpenSpec.ofChange Rows.ropeTablesSpec) false w args) (Rows.ropeTablesSpec.post enc Tryd.prog Tryd.f5 false true false false) := by
  refine returnsInHanded_of_change_and (C := Tryd.checked) (X := fun w _ => laidMetH Tryd.prog laidList6 w) (fun _ _ _ hh h => h.of_heap hh) own started (by kernel_rfl) Tryd.func5
    (ChangeSpec.witness_shaped (enc := enc) (C := Tryd.checked) (os := os) (X := fun w _ => laidMetH Tryd.prog laidList6 w) false (World.doorLaid Tryd.prog 400 os) #[.int .i64 0, .int .i64 0] 8 rfl (World.shaped_of_RefB (by kernel_rfl) (by kernel_rfl)) (by kernel_rfl) (by kernel_rfl) (by kernel_rfl) (door_met6 os _)) ?_
  intro W base args ds gs before hval0 hW _ _ hL _
  have hval : ∀ (j : Nat) t v, Tryd.f5.params[j]? = some t → args[j]? = some v → Value.okWide Tryd.prog W .any base t v := hval0
  have hW' := hW
  obtain ⟨p, q, hA0, hV, rfl, hfz, hnd⟩ := hW
  have hA : DataW.TrodAll enc Tryd.prog W 0 (fun _ => true) true Tryd.f5.params.toList args.toList ds p := hA0
  rw [Tryd.params5] at hA hval
  obtain ⟨v0, vs0, d0, ds0, p0, q0, hargs, rfl, rfl, h0, r0⟩ := trodAll_cons hA
  obtain ⟨v1, vs1, d1, ds1, p1, q1, rfl, rfl, rfl, h1, r1⟩ := trodAll_cons r0
  obtain ⟨rfl, rfl, rfl⟩ := trodAll_nil r1
  obtain rfl : args = #[v0, v1] := by cases args; simp_all
  obtain ⟨rfl, rfl⟩ := trodVars_none hV
  obtain ⟨a0, rfl, rfl, rfl, w0⟩ := open_int Tryd.underlying3 (hval 0 3 v0 rfl rfl) h0
  obtain ⟨a1, rfl, rfl, rfl, w1⟩ := open_int Tryd.underlying3 (hval 1 3 v1 rfl rfl) h1
  clear hA0 hval0
  have hT := stab_of_laid hL
  refine (walk a0 a1 w0 w1 W hT).mono fun e W' ⟨he, bel⟩ => ?_
  subst he
  exact ⟨_, rfl, _, _, _, [], _, [], hW', trodAll_mk1 (shut_bool Tryd.underlying4 _), (trodAll_cons_mk (shut_int Tryd.underlying3 w0) (trodAll_cons_mk (shut_int Tryd.underlying3 w1) trodAll_mk0)), rfl, bel.frame _, fun h => by cases h⟩

theorem over : Rows.ropeTablesRow.holds Tryd.pinned (OpenSpec.ofChange Rows.ropeTablesSpec) :=
  OpenClaim.holds_of_wide 5 Tryd.f5 rfl rfl rfl rfl rfl rfl rfl ⟨rfl, rfl, rfl, rfl, rfl⟩ rfl rfl rfl rfl rfl (by kernel_rfl) Tryd.func5 (by kernel_rfl)
    (of_decide_eq_true (by kernel_rfl)) (by unfold Func.isWrapper; first | (rw [if_pos (by decide +kernel)]; kernel_rfl) | (rw [if_neg (by decide +kernel)]; exact ⟨rfl, rfl⟩))
    (fun os started H enc _ => lifted os started H enc)

/-- the row's statement -/
theorem said : Rows.RopeTablesSaid := over

/-- THE STATEMENT: the tied card -/
theorem proved : Rows.RopeTablesCardSaid :=
  Claim7.holds_tied_plain_at .later [] [.data] true (true, "37de5bb9a3743b0e4af4fafce8e0a0ad854add1be9201d4b2f2084e34ad96049") false
    said (fun _ h => by cases h) (by kernel_rfl) (fun _ h => by cases h) ropeTables_row_tie rfl ⟨rfl, rfl⟩ (by kernel_rfl) rfl
    (fun f fn hf hfn => by
      obtain rfl : f = 5 := Option.some.inj ((show Tryd.prog.funcNamed "peloton/pelotonlaw06.RopeTables" = some 5 by kernel_rfl).symm.trans hf) |>.symm
      obtain rfl : fn = Tryd.f5 := (Option.some.inj (Tryd.func5.symm.trans hfn)).symm
      exact ⟨by kernel_rfl, fun j t ht => by
        rw [Tryd.params5] at ht
        have hm : t ∈ [3, 3] := by simpa using Array.mem_of_getElem? ht
        have hall : ([3, 3].all fun u => !Tryd.prog.wantsStandIn u) = true := by kernel_rfl
        exact (show Tryd.prog.wantsStandIn t = false by simpa using List.all_eq_true.1 hall t hm)⟩)
    (by kernel_rfl)
#print axioms proved
end Go.Proofs.YtbggklhnmkiamaaDoor.ropeTables
