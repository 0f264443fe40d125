/-
  Proved: for every place and row of numbers RopeTurns returns true (turned pairs are the document's, and the row is itself not changed) and nothing that was in memory turns. Conditions: the table reads as the program's initialisers lay it (tied by the card).
-/
import Derived.Test.YtbggklhnmkiamaaDoorRows
import Derived.WalkKit
import Derived.ProofKit
import Derived.OpenShut
import Derived.ShutString
import Derived.ChangeOld
import Derived.Below
import Derived.Test.YtbggklhnmkiamaaDoorLaid6
import Derived.Test.YtbggklhnmkiamaaDoorTie
import Derived.Test.YtbggklhnmkiamaaDoorCards
import Derived.SevenTiedAt
import Derived.Test.YtbggklhnmkiamaaDoorAwake6
import Derived.Test.YtbggklhnmkiamaaDoorCopyRow
import Derived.Test.YtbggklhnmkiamaaDoorRefTurns
import Derived.Test.YtbggklhnmkiamaaDoorRwRow
import Derived.Deep.CutRange
namespace Go.Proofs.YtbggklhnmkiamaaDoor.ropeTurns
open Go.ChangeShapes Go.WideShapes Go.ChangeAt Go.RowKit
open Go.ChangeMaps (open_string shut_string)
set_option linter.unusedVariables false

theorem own : ownKnob Tryd.prog.godebug = none := by kernel_rfl
theorem laidOut : laidOutB Tryd.prog = true := by kernel_rfl

/-- WHAT THE WALK IS TOLD OF A SLICE OF INTEGERS THAT CAME IN: it is nil; or it leads to a row of 'cap' cells, the numbers 'zs' (the first 'len' are its elements, the rest its spare room), each fitting its kind. -/
def IsRow (k : IntKind) (w : World) (a : Option Addr) (len cap : Nat) (zs : List Int) : Prop :=
  (a = none ∧ len = 0 ∧ cap = 0 ∧ zs = []) ∨
  ∃ x, a = some x ∧ len ≤ cap ∧ cap ≤ maxLen ∧ zs.length = cap ∧ (∀ i, i < zs.length → w.cell? (x.add i) = some (.int k (zs.getD i 0))) ∧ ∀ n ∈ zs, (Lit.int k n).wf = true

/-! ### STEP 1: THE WALK: the Go text returns true, AND WRITES NOTHING THAT WAS THERE: 'Below w.heap.size w w'' (Derived/Below.lean: '.refl', '.alloc', '.drew', '.setCell' at a new block, '.trans'). Open each 'IsRow' by 'rcases' AHEAD of 'go_enter'; part every test ahead of the walk. -/
set_option maxHeartbeats 3200000 in
set_option maxRecDepth 100000 in
theorem walk (a0 : Int) (a1 : Option Addr) (len1 cap1 : Nat) (z1 : List Int) (w : World) (w0 : (Lit.int .i64 a0).wf = true) (w1 : IsRow .i8 w a1 len1 cap1 z1) (hT : STab w) :
    Calls Tryd.prog 4 #[.int .i64 a0, .slice a1 len1 cap1] w fun e w' => e = .returned (.bool true) ∧ Below w.heap.size w w' := by
  obtain ⟨xs, hX⟩ := rw_of_row w1
  have n1 := hX.1.2.1
  simp only at n1
  clear w1
  by_cases c0 : 300 < len1
  · have c0' : (300 : Int) < (len1 : Int) := by omega
    clear hX
    go_enter Tryd.func4, Tryd.ntmps4
    go_wp2_with fail
    refine (awake6 _ hT).mono ?_
    rintro e wa ⟨rfl, hb1⟩
    have hT1 := hT.below hb1
    clear hT
    go_wp2_with fail
    refine (awake6 _ hT1).mono ?_
    rintro e wb ⟨rfl, hb2⟩
    clear hT1
    go_wp2
    go_ret
    exact ⟨rfl, below_two hb1 hb2⟩
  · have c0' : ¬ (300 : Int) < (len1 : Int) := by omega
    by_cases c1 : len1 % 2 = 1
    · have c1' : ((len1 : Int) % 2 != 0) = true := by simp; omega
      have H1 := Lib.hid c1
      clear c1
      go_enter Tryd.func4, Tryd.ntmps4
      go_wp2_with fail
      refine (awake6 _ hT).mono ?_
      rintro e wa ⟨rfl, hb1⟩
      have hT1 := hT.below hb1
      have hX1 := hX.below hb1
      obtain ⟨ga, gcap, wb, hrun, hIn, hb2⟩ := copy_new8 wa _ _ _ _ hX1 (by omega)
      have hbb := below_two hb1 hb2
      have hX2 := hX1.below hb2
      have hT2 := hT1.below hb2
      clear hX hT hX1 hT1 hb1 hb2
      go_wp2_with (at_builtin; refine wpList_append_at (by rfl) _ _ _ (by rfl) _ _ (by rfl) (by rfl) hrun ?_)
      clear hrun
      refine (turn_shape a0 _ len1 gcap (by omega) H1.out wb).mono ?_
      rintro e wd ⟨rfl, rfl⟩
      have hIn2 := hIn
      have hX3 := hX2
      clear hT2 hIn hX2
      go_wp2_with fail
      refine (bytes_yes _ _ len1 gcap cap1 xs _ hIn2.1 hX3.1).mono ?_
      rintro e we ⟨rfl, d, rfl⟩
      have hbe := below_drewN hbb d
      clear hIn2 hX3 hbb
      go_wp2
      go_ret
      exact ⟨rfl, hbe⟩
    · have c1' : ((len1 : Int) % 2 != 0) = false := by simp; omega
      have H1 : Hid (len1 % 2 = 0) := Lib.hid (by omega)
      clear c1
      by_cases c2 : a0 < 0
      · skip
        go_enter Tryd.func4, Tryd.ntmps4
        go_wp2_with fail
        refine (awake6 _ hT).mono ?_
        rintro e wa ⟨rfl, hb1⟩
        have hT1 := hT.below hb1
        have hX1 := hX.below hb1
        obtain ⟨ga, gcap, wb, hrun, hIn, hb2⟩ := copy_new8 wa _ _ _ _ hX1 (by omega)
        have hbb := below_two hb1 hb2
        have hX2 := hX1.below hb2
        have hT2 := hT1.below hb2
        clear hX hT hX1 hT1 hb1 hb2
        go_wp2_with (at_builtin; refine wpList_append_at (by rfl) _ _ _ (by rfl) _ _ (by rfl) (by rfl) hrun ?_)
        clear hrun
        refine (turn_arg a0 _ len1 gcap (by omega) H1.out (.inl c2) wb).mono ?_
        rintro e wd ⟨rfl, rfl⟩
        have hIn2 := hIn
        have hX3 := hX2
        clear hT2 hIn hX2
        go_wp2_with fail
        refine (bytes_yes _ _ len1 gcap cap1 xs _ hIn2.1 hX3.1).mono ?_
        rintro e we ⟨rfl, d, rfl⟩
        have hbe := below_drewN hbb d
        clear hIn2 hX3 hbb
        go_wp2
        go_ret
        exact ⟨rfl, hbe⟩
      · by_cases c3 : 1048576 < a0
        · skip
          go_enter Tryd.func4, Tryd.ntmps4
          go_wp2_with fail
          refine (awake6 _ hT).mono ?_
          rintro e wa ⟨rfl, hb1⟩
          have hT1 := hT.below hb1
          have hX1 := hX.below hb1
          obtain ⟨ga, gcap, wb, hrun, hIn, hb2⟩ := copy_new8 wa _ _ _ _ hX1 (by omega)
          have hbb := below_two hb1 hb2
          have hX2 := hX1.below hb2
          have hT2 := hT1.below hb2
          clear hX hT hX1 hT1 hb1 hb2
          go_wp2_with (at_builtin; refine wpList_append_at (by rfl) _ _ _ (by rfl) _ _ (by rfl) (by rfl) hrun ?_)
          clear hrun
          refine (turn_arg a0 _ len1 gcap (by omega) H1.out (.inr c3) wb).mono ?_
          rintro e wd ⟨rfl, rfl⟩
          have hIn2 := hIn
          have hX3 := hX2
          clear hT2 hIn hX2
          go_wp2_with fail
          refine (bytes_yes _ _ len1 gcap cap1 xs _ hIn2.1 hX3.1).mono ?_
          rintro e we ⟨rfl, d, rfl⟩
          have hbe := below_drewN hbb d
          clear hIn2 hX3 hbb
          go_wp2
          go_ret
          exact ⟨rfl, hbe⟩
        · skip
          go_enter Tryd.func4, Tryd.ntmps4
          go_wp2_with fail
          refine (awake6 _ hT).mono ?_
          rintro e wa ⟨rfl, hb1⟩
          have hT1 := hT.below hb1
          have hX1 := hX.below hb1
          obtain ⟨ga, gcap, wb, hrun, hIn, hb2⟩ := copy_new8 wa _ _ _ _ hX1 (by omega)
          have hbb := below_two hb1 hb2
          have hX2 := hX1.below hb2
          have hT2 := hT1.below hb2
          clear hX hT hX1 hT1 hb1 hb2
          go_wp2_with (at_builtin; refine wpList_append_at (by rfl) _ _ _ (by rfl) _ _ (by rfl) (by rfl) hrun ?_)
          clear hrun
          refine (turn_yes a0 _ len1 gcap xs wb hIn.1 (by omega) H1.out (by omega) (by omega) hT2).mono ?_
          rintro e wd ⟨⟨g, rfl, hY⟩, hb3⟩
          have hIn2 := hIn.below hb3
          have hX3 := hX2.below hb3
          have hbd := below_two hbb hb3
          clear hT2 hIn hX2 hbb hb3
          go_wp2_with fail
          refine (bytes_yes _ _ len1 gcap cap1 xs _ hIn2.1 hX3.1).mono ?_
          rintro e we ⟨rfl, d, rfl⟩
          generalize hwe : wd.drewN d = we
          have hbe : Below wd.heap.size wd we := by rw [← hwe]; exact below_drewN (Below.refl _ _) d
          have hX4 := hX3.below hbe
          have hY2 := hY.below hbe
          have hb6 := below_two hbd hbe
          clear hX3 hIn2 hY hbd hwe hbe
          go_wp2_with fail
          refine (ref_turn6 a0 _ len1 cap1 xs we hX4.1 (by omega) H1.out).mono ?_
          rintro e wf ⟨⟨zb, zc, rfl, hZ⟩, hb7⟩
          have hY3 := hY2.below hb7
          have hb8 := below_two hb6 hb7
          clear hX4 hY2 hb6 hb7
          go_wp2_with fail
          refine (bytes_yes _ _ len1 len1 zc _ wf hY3 hZ).mono ?_
          rintro e wg ⟨rfl, d2, rfl⟩
          have hb9 := below_drewN hb8 d2
          clear hY3 hZ hb8
          go_wp2
          go_ret
          exact ⟨rfl, hb9⟩

/-! ### THE ROW's STEP: WRITTEN OUT: LEAVE IT -/
set_option maxRecDepth 100000 in
theorem lifted (os : Os) (started : os.Started) (H : Type) (enc : TypeId × Value → H) :
    ReturnsInHanded {} Tryd.checked os 4 .any (fun w args => (Rows.ropeTurnsSpec.pre enc Tryd.prog Tryd.f4 [] false w args ∧ laidMetH Tryd.prog laidList6 w) ∧ sizedMet enc Tryd.prog Tryd.f4 (OpenSpec.ofChange Rows.ropeTurnsSpec) false w args) (Rows.ropeTurnsSpec.post enc Tryd.prog Tryd.f4 false true false false) := by
  refine returnsInHanded_of_change_and (C := Tryd.checked) (X := fun w _ => laidMetH Tryd.prog laidList6 w) (fun _ _ _ hh h => h.of_heap hh) own started (by kernel_rfl) Tryd.func4
    (ChangeSpec.witness_shaped (enc := enc) (C := Tryd.checked) (os := os) (X := fun w _ => laidMetH Tryd.prog laidList6 w) false (World.doorLaid Tryd.prog 400 os) #[.int .i64 0, .slice none 0 0] 8 rfl (World.shaped_of_RefB (by kernel_rfl) (by kernel_rfl)) (by kernel_rfl) (by kernel_rfl) (by kernel_rfl) (door_met6 os _)) ?_
  intro W base args ds gs before hval0 hW _ _ hL _
  have hval : ∀ (j : Nat) t v, Tryd.f4.params[j]? = some t → args[j]? = some v → Value.okWide Tryd.prog W .any base t v := hval0
  have hW' := hW
  obtain ⟨p, q, hA0, hV, rfl, hfz, hnd⟩ := hW
  have hA : DataW.TrodAll enc Tryd.prog W 0 (fun _ => true) true Tryd.f4.params.toList args.toList ds p := hA0
  rw [Tryd.params4] at hA hval
  obtain ⟨v0, vs0, d0, ds0, p0, q0, hargs, rfl, rfl, h0, r0⟩ := trodAll_cons hA
  obtain ⟨v1, vs1, d1, ds1, p1, q1, rfl, rfl, rfl, h1, r1⟩ := trodAll_cons r0
  obtain ⟨rfl, rfl, rfl⟩ := trodAll_nil r1
  obtain rfl : args = #[v0, v1] := by cases args; simp_all
  obtain ⟨rfl, rfl⟩ := trodVars_none hV
  obtain ⟨a0, rfl, rfl, rfl, w0⟩ := open_int Tryd.underlying3 (hval 0 3 v0 rfl rfl) h0
  obtain ⟨a1, len1, cap1, rfl⟩ := okWide_slice Tryd.underlying26 (hval 1 26 v1 rfl rfl)
  have k1 := h1
  have lt1 : ∀ x ∈ p1, x.block < W.heap.size := by obtain ⟨m, hm⟩ := k1; exact DataW.trod_lt m _ _ _ hm
  obtain ⟨z1, w1⟩ : ∃ zs, IsRow .i8 W a1 len1 cap1 zs := by
    obtain ⟨fuel, hf⟩ := h1
    rcases open_ints Tryd.underlying26 Tryd.underlying41 (by kernel_rfl) hf with ⟨hcs, _⟩ | ⟨x, l, c, zs, hcs, _, hl, hm, hz, _, hcell, hwz⟩
    · simp [Value.cells] at hcs
      obtain ⟨rfl, rfl, rfl⟩ := hcs
      exact ⟨[], .inl ⟨rfl, rfl, rfl, rfl⟩⟩
    · simp [Value.cells] at hcs
      obtain ⟨rfl, rfl, rfl⟩ := hcs
      exact ⟨zs, .inr ⟨_, rfl, hl, hm, by simpa using hz, hcell, hwz⟩⟩
  clear hA0 hval0
  have hT := stab_of_laid hL
  refine (walk a0 a1 len1 cap1 z1 W w0 w1 hT).mono fun e W' ⟨he, bel⟩ => ?_
  subst he
  exact ⟨_, rfl, _, _, _, [], _, [], hW', trodAll_mk1 (shut_bool Tryd.underlying4 _), (trodAll_cons_mk (shut_int Tryd.underlying3 w0) (trodAll_cons_mk (Below.trod laidOut (by kernel_rfl) (of_decide_eq_true (by kernel_rfl)) k1 bel lt1) trodAll_mk0)), rfl, bel.frame _, fun h => by cases h⟩

theorem over : Rows.ropeTurnsRow.holds Tryd.pinned (OpenSpec.ofChange Rows.ropeTurnsSpec) :=
  OpenClaim.holds_of_wide 4 Tryd.f4 rfl rfl rfl rfl rfl rfl rfl ⟨rfl, rfl, rfl, rfl, rfl⟩ rfl rfl rfl rfl rfl (by kernel_rfl) Tryd.func4 (by kernel_rfl)
    (of_decide_eq_true (by kernel_rfl)) (by unfold Func.isWrapper; first | (rw [if_pos (by decide +kernel)]; kernel_rfl) | (rw [if_neg (by decide +kernel)]; exact ⟨rfl, rfl⟩))
    (fun os started H enc _ => lifted os started H enc)

/-- the row's statement -/
theorem said : Rows.RopeTurnsSaid := over

/-- THE STATEMENT: the tied card -/
theorem proved : Rows.RopeTurnsCardSaid :=
  Claim7.holds_tied_plain_at .later [] [.data] true (true, "37de5bb9a3743b0e4af4fafce8e0a0ad854add1be9201d4b2f2084e34ad96049") false
    said (fun _ h => by cases h) (by kernel_rfl) (fun _ h => by cases h) ropeTurns_row_tie rfl ⟨rfl, rfl⟩ (by kernel_rfl) rfl
    (fun f fn hf hfn => by
      obtain rfl : f = 4 := Option.some.inj ((show Tryd.prog.funcNamed "peloton/pelotonlaw06.RopeTurns" = some 4 by kernel_rfl).symm.trans hf) |>.symm
      obtain rfl : fn = Tryd.f4 := (Option.some.inj (Tryd.func4.symm.trans hfn)).symm
      exact ⟨by kernel_rfl, fun j t ht => by
        rw [Tryd.params4] at ht
        have hm : t ∈ [3, 26] := by simpa using Array.mem_of_getElem? ht
        have hall : ([3, 26].all fun u => !Tryd.prog.wantsStandIn u) = true := by kernel_rfl
        exact (show Tryd.prog.wantsStandIn t = false by simpa using List.all_eq_true.1 hall t hm)⟩)
    (by kernel_rfl)
#print axioms proved
end Go.Proofs.YtbggklhnmkiamaaDoor.ropeTurns
