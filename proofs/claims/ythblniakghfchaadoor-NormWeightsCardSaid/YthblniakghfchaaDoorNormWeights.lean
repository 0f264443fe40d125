/-
  Proved: for every scale and every row NormWeights returns true (softmax weights are the document's) and nothing that was in memory turns. Conditions: the table reads as the program's initialisers lay it (tied by the card).
-/
import Derived.Test.YthblniakghfchaaDoorRows
import Derived.WalkKit
import Derived.ProofKit
import Derived.OpenShut
import Derived.ShutString
import Derived.ChangeOld
import Derived.Below
import Derived.Test.YthblniakghfchaaDoorLaid
import Derived.Test.YthblniakghfchaaDoorTie
import Derived.Test.YthblniakghfchaaDoorCards
import Derived.SevenTiedAt
import Derived.Test.YthblniakghfchaaDoorAwake5
import Derived.Test.YthblniakghfchaaDoorRefSoft
import Derived.Test.YthblniakghfchaaDoorRwRow
namespace Go.Proofs.YthblniakghfchaaDoor.normWeights
open Go.ChangeShapes Go.WideShapes Go.ChangeAt Go.RowKit
open Go.ChangeMaps (open_string shut_string)
set_option linter.unusedVariables false

theorem own : ownKnob Tryd.prog.godebug = none := by kernel_rfl
theorem laidOut : laidOutB Tryd.prog = true := by kernel_rfl

/-- WHAT THE WALK IS TOLD OF A SLICE OF INTEGERS THAT CAME IN: it is nil; or it leads to a row of 'cap' cells, the numbers 'zs' (the first 'len' are its elements, the rest its spare room), each fitting its kind. -/
def IsRow (k : IntKind) (w : World) (a : Option Addr) (len cap : Nat) (zs : List Int) : Prop :=
  (a = none ∧ len = 0 ∧ cap = 0 ∧ zs = []) ∨
  ∃ x, a = some x ∧ len ≤ cap ∧ cap ≤ maxLen ∧ zs.length = cap ∧ (∀ i, i < zs.length → w.cell? (x.add i) = some (.int k (zs.getD i 0))) ∧ ∀ n ∈ zs, (Lit.int k n).wf = true

/-! ### STEP 1: THE WALK: the Go text returns true, AND WRITES NOTHING THAT WAS THERE: 'Below w.heap.size w w'' (Derived/Below.lean: '.refl', '.alloc', '.drew', '.setCell' at a new block, '.trans'). Open each 'IsRow' by 'rcases' AHEAD of 'go_enter'; part every test ahead of the walk. -/
set_option maxHeartbeats 3200000 in
set_option maxRecDepth 100000 in
theorem walk (a0 : Int) (a1 : Int) (a2 : Option Addr) (len2 cap2 : Nat) (z2 : List Int) (w : World) (w0 : (Lit.int .i32 a0).wf = true) (w1 : (Lit.int .i64 a1).wf = true) (w2 : IsRow .i32 w a2 len2 cap2 z2) (hT : Tab w) :
    Calls Tryd.prog 4 #[.int .i32 a0, .int .i64 a1, .slice a2 len2 cap2] w fun e w' => e = .returned (.bool true) ∧ Below w.heap.size w w' := by
  obtain ⟨⟨xs, hX⟩, hcap2, hmax2⟩ := elems_of_row w2
  obtain ⟨b1, b2⟩ := wf32 w0
  clear w0 w2
  by_cases c0 : 200 < len2
  · have c0' : (200 : Int) < (len2 : Int) := by omega
    go_enter Tryd.func4, Tryd.ntmps4
    go_wp2_with fail
    refine (awake5 _ hT).mono ?_
    rintro e wa ⟨rfl, hb1⟩
    have hT1 := hT.below hb1
    clear hT
    go_wp2_with fail
    refine (awake5 _ hT1).mono ?_
    rintro e wb ⟨rfl, hb2⟩
    clear hT1
    go_wp2
    go_ret
    exact ⟨rfl, below_two hb1 hb2⟩
  · have c0' : ¬ (200 : Int) < (len2 : Int) := by omega
    by_cases c1 : len2 = 0
    · subst c1
      obtain rfl : xs = [] := List.length_eq_zero_iff.1 hX.1
      go_enter Tryd.func4, Tryd.ntmps4
      go_wp2_with fail
      refine (awake5 _ hT).mono ?_
      rintro e wa ⟨rfl, hb1⟩
      have hX1 := hX.below hb1
      clear hX hT
      go_wp2_with fail
      refine (softmax_none a0 a1 a2 cap2 wa).mono ?_
      rintro e wb ⟨rfl, rfl⟩
      go_wp2_with fail
      refine (ref_softmax a0 a1 0 a2 0 cap2 [] wa hX1 (by omega) b1 b2 (by omega)).mono ?_
      rintro e wb ⟨⟨b, c, rfl, hE⟩, hb2⟩
      have hbb := below_two hb1 hb2
      have hE2 : Elems .i32 wb b 0 [] := hE
      clear hX1 hE hb1 hb2
      go_wp2_with fail
      refine (ints_yes none b 0 0 c [] wb (Elems.nil_ _ _ _) hE2).mono ?_
      rintro e wc ⟨rfl, d, rfl⟩
      have hbc := below_drewN hbb d
      clear hE2 hbb
      go_wp2
      go_ret
      exact ⟨rfl, hbc⟩
    · obtain ⟨m, hm⟩ := top_ex hX.1 (by omega)
      have HM := Lib.hid hm
      clear hm
      go_enter Tryd.func4, Tryd.ntmps4
      go_wp2_with fail
      refine (awake5 _ hT).mono ?_
      rintro e wa ⟨rfl, hb1⟩
      have hX1 := hX.below hb1
      have hT1 := hT.below hb1
      clear hX hT
      go_wp2_with fail
      refine (softmax_some a0 a1 m a2 len2 cap2 xs wa hX1 (by omega) (by omega) b1 b2 HM.out hT1).mono ?_
      rintro e wb ⟨⟨g, rfl, hE⟩, hb2⟩
      have hX2 := hX1.below hb2
      have hbb := below_two hb1 hb2
      clear hX1 hT1 hb1 hb2
      go_wp2_with fail
      refine (ref_softmax a0 a1 m a2 len2 cap2 xs wb hX2 (by omega) b1 b2 (fun _ => HM.out)).mono ?_
      rintro e wc ⟨⟨b, c, rfl, hE2⟩, hb3⟩
      have hE3 := hE.below hb3
      have hbc := below_two hbb hb3
      clear hX2 hE hbb hb3
      go_wp2_with fail
      refine (ints_yes _ _ len2 len2 c _ wc hE3 hE2).mono ?_
      rintro e wd ⟨rfl, d, rfl⟩
      have hbd := below_drewN hbc d
      clear hE2 hE3 hbc HM
      go_wp2
      go_ret
      exact ⟨rfl, hbd⟩

/-! ### THE ROW's STEP: WRITTEN OUT: LEAVE IT -/
set_option maxRecDepth 100000 in
theorem lifted (os : Os) (started : os.Started) (H : Type) (enc : TypeId × Value → H) :
    ReturnsInHanded {} Tryd.checked os 4 .any (fun w args => (Rows.normWeightsSpec.pre enc Tryd.prog Tryd.f4 [] false w args ∧ laidMetH Tryd.prog laidList w) ∧ sizedMet enc Tryd.prog Tryd.f4 (OpenSpec.ofChange Rows.normWeightsSpec) false w args) (Rows.normWeightsSpec.post enc Tryd.prog Tryd.f4 false true false false) := by
  refine returnsInHanded_of_change_and (C := Tryd.checked) (X := fun w _ => laidMetH Tryd.prog laidList w) (fun _ _ _ hh h => h.of_heap hh) own started (by kernel_rfl) Tryd.func4
    (ChangeSpec.witness_shaped (enc := enc) (C := Tryd.checked) (os := os) (X := fun w _ => laidMetH Tryd.prog laidList w) false (World.doorLaid Tryd.prog 400 os) #[.int .i32 0, .int .i64 0, .slice none 0 0] 8 rfl (World.shaped_of_RefB (by kernel_rfl) (by kernel_rfl)) (by kernel_rfl) (by kernel_rfl) (by kernel_rfl) (door_met os _)) ?_
  intro W base args ds gs before hval0 hW _ _ hL _
  have hval : ∀ (j : Nat) t v, Tryd.f4.params[j]? = some t → args[j]? = some v → Value.okWide Tryd.prog W .any base t v := hval0
  have hW' := hW
  obtain ⟨p, q, hA0, hV, rfl, hfz, hnd⟩ := hW
  have hA : DataW.TrodAll enc Tryd.prog W 0 (fun _ => true) true Tryd.f4.params.toList args.toList ds p := hA0
  rw [Tryd.params4] at hA hval
  obtain ⟨v0, vs0, d0, ds0, p0, q0, hargs, rfl, rfl, h0, r0⟩ := trodAll_cons hA
  obtain ⟨v1, vs1, d1, ds1, p1, q1, rfl, rfl, rfl, h1, r1⟩ := trodAll_cons r0
  obtain ⟨v2, vs2, d2, ds2, p2, q2, rfl, rfl, rfl, h2, r2⟩ := trodAll_cons r1
  obtain ⟨rfl, rfl, rfl⟩ := trodAll_nil r2
  obtain rfl : args = #[v0, v1, v2] := by cases args; simp_all
  obtain ⟨rfl, rfl⟩ := trodVars_none hV
  obtain ⟨a0, rfl, rfl, rfl, w0⟩ := open_int Tryd.underlying21 (hval 0 21 v0 rfl rfl) h0
  obtain ⟨a1, rfl, rfl, rfl, w1⟩ := open_int Tryd.underlying3 (hval 1 3 v1 rfl rfl) h1
  obtain ⟨a2, len2, cap2, rfl⟩ := okWide_slice Tryd.underlying23 (hval 2 23 v2 rfl rfl)
  have k2 := h2
  have lt2 : ∀ x ∈ p2, x.block < W.heap.size := by obtain ⟨m, hm⟩ := k2; exact DataW.trod_lt m _ _ _ hm
  obtain ⟨z2, w2⟩ : ∃ zs, IsRow .i32 W a2 len2 cap2 zs := by
    obtain ⟨fuel, hf⟩ := h2
    rcases open_ints Tryd.underlying23 Tryd.underlying21 (by kernel_rfl) hf with ⟨hcs, _⟩ | ⟨x, l, c, zs, hcs, _, hl, hm, hz, _, hcell, hwz⟩
    · simp [Value.cells] at hcs
      obtain ⟨rfl, rfl, rfl⟩ := hcs
      exact ⟨[], .inl ⟨rfl, rfl, rfl, rfl⟩⟩
    · simp [Value.cells] at hcs
      obtain ⟨rfl, rfl, rfl⟩ := hcs
      exact ⟨zs, .inr ⟨_, rfl, hl, hm, by simpa using hz, hcell, hwz⟩⟩
  clear hA0 hval0
  have hT := tab_of_laid hL
  refine (walk a0 a1 a2 len2 cap2 z2 W w0 w1 w2 hT).mono fun e W' ⟨he, bel⟩ => ?_
  subst he
  exact ⟨_, rfl, _, _, _, [], _, [], hW', trodAll_mk1 (shut_bool Tryd.underlying4 _), (trodAll_cons_mk (shut_int Tryd.underlying21 w0) (trodAll_cons_mk (shut_int Tryd.underlying3 w1) (trodAll_cons_mk (Below.trod laidOut (by kernel_rfl) (of_decide_eq_true (by kernel_rfl)) k2 bel lt2) trodAll_mk0))), rfl, bel.frame _, fun h => by cases h⟩

theorem over : Rows.normWeightsRow.holds Tryd.pinned (OpenSpec.ofChange Rows.normWeightsSpec) :=
  OpenClaim.holds_of_wide 4 Tryd.f4 rfl rfl rfl rfl rfl rfl rfl ⟨rfl, rfl, rfl, rfl, rfl⟩ rfl rfl rfl rfl rfl (by kernel_rfl) Tryd.func4 (by kernel_rfl)
    (of_decide_eq_true (by kernel_rfl)) (by unfold Func.isWrapper; first | (rw [if_pos (by decide +kernel)]; kernel_rfl) | (rw [if_neg (by decide +kernel)]; exact ⟨rfl, rfl⟩))
    (fun os started H enc _ => lifted os started H enc)

/-- the row's statement -/
theorem said : Rows.NormWeightsSaid := over

/-- THE STATEMENT: the tied card -/
theorem proved : Rows.NormWeightsCardSaid :=
  Claim7.holds_tied_plain_at .later [] [.data] true (true, "d25234ddf6c27c6edf394e90a076e1636ca57c252689c4c3bbb1e2edf7642b21") false
    said (fun _ h => by cases h) (by kernel_rfl) (fun _ h => by cases h) normWeights_row_tie rfl ⟨rfl, rfl⟩ (by kernel_rfl) rfl
    (fun f fn hf hfn => by
      obtain rfl : f = 4 := Option.some.inj ((show Tryd.prog.funcNamed "peloton/pelotonlaw05.NormWeights" = some 4 by kernel_rfl).symm.trans hf) |>.symm
      obtain rfl : fn = Tryd.f4 := (Option.some.inj (Tryd.func4.symm.trans hfn)).symm
      exact ⟨by kernel_rfl, fun j t ht => by
        rw [Tryd.params4] at ht
        have hm : t ∈ [21, 3, 23] := by simpa using Array.mem_of_getElem? ht
        have hall : ([21, 3, 23].all fun u => !Tryd.prog.wantsStandIn u) = true := by kernel_rfl
        exact (show Tryd.prog.wantsStandIn t = false by simpa using List.all_eq_true.1 hall t hm)⟩)
    (by kernel_rfl)
#print axioms proved
end Go.Proofs.YthblniakghfchaaDoor.normWeights
