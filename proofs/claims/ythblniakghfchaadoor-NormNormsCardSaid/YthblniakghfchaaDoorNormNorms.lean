/-
  Proved: for every row and gains NormNorms returns true (a row brought to one size is the document's, and is itself not changed) and nothing that was in memory turns. Conditions: the table reads as the program's initialisers lay it (tied by the card).
-/
import Derived.Test.YthblniakghfchaaDoorRows
import Derived.WalkKit
import Derived.ProofKit
import Derived.OpenShut
import Derived.ShutString
import Derived.ChangeOld
import Derived.Below
import Derived.Test.YthblniakghfchaaDoorLaid
import Derived.Test.YthblniakghfchaaDoorTie
import Derived.Test.YthblniakghfchaaDoorCards
import Derived.SevenTiedAt
import Derived.Test.YthblniakghfchaaDoorAwake5
import Derived.Test.YthblniakghfchaaDoorCopyRow
import Derived.Test.YthblniakghfchaaDoorRefNorm
import Derived.Test.YthblniakghfchaaDoorRwRow
import Derived.Deep.CutRange
namespace Go.Proofs.YthblniakghfchaaDoor.normNorms
open Go.ChangeShapes Go.WideShapes Go.ChangeAt Go.RowKit
open Go.ChangeMaps (open_string shut_string)
set_option linter.unusedVariables false

theorem own : ownKnob Tryd.prog.godebug = none := by kernel_rfl
theorem laidOut : laidOutB Tryd.prog = true := by kernel_rfl

/-- WHAT THE WALK IS TOLD OF A SLICE OF INTEGERS THAT CAME IN: it is nil; or it leads to a row of 'cap' cells, the numbers 'zs' (the first 'len' are its elements, the rest its spare room), each fitting its kind. -/
def IsRow (k : IntKind) (w : World) (a : Option Addr) (len cap : Nat) (zs : List Int) : Prop :=
  (a = none ∧ len = 0 ∧ cap = 0 ∧ zs = []) ∨
  ∃ x, a = some x ∧ len ≤ cap ∧ cap ≤ maxLen ∧ zs.length = cap ∧ (∀ i, i < zs.length → w.cell? (x.add i) = some (.int k (zs.getD i 0))) ∧ ∀ n ∈ zs, (Lit.int k n).wf = true

/-! ### STEP 1: THE WALK: the Go text returns true, AND WRITES NOTHING THAT WAS THERE: 'Below w.heap.size w w'' (Derived/Below.lean: '.refl', '.alloc', '.drew', '.setCell' at a new block, '.trans'). Open each 'IsRow' by 'rcases' AHEAD of 'go_enter'; part every test ahead of the walk. -/
set_option maxHeartbeats 3200000 in
set_option maxRecDepth 100000 in
theorem walk (a0 : Option Addr) (len0 cap0 : Nat) (z0 : List Int) (a1 : Option Addr) (len1 cap1 : Nat) (z1 : List Int) (w : World) (w0 : IsRow .i8 w a0 len0 cap0 z0) (w1 : IsRow .i32 w a1 len1 cap1 z1) (hT : Tab w) :
    Calls Tryd.prog 3 #[.slice a0 len0 cap0, .slice a1 len1 cap1] w fun e w' => e = .returned (.bool true) ∧ Below w.heap.size w w' := by
  obtain ⟨gs, hG⟩ := rw_of_row w0
  obtain ⟨xs, hX⟩ := rw_of_row w1
  have n0 := hG.1.2.1
  have n1 := hX.1.2.1
  simp only at n0 n1
  clear w0 w1
  by_cases c0 : 300 < len0
  · have c0' : (300 : Int) < (len0 : Int) := by omega
    clear hG hX
    go_enter Tryd.func3, Tryd.ntmps3
    go_wp2_with fail
    refine (awake5 _ hT).mono ?_
    rintro e wa ⟨rfl, hb1⟩
    have hT1 := hT.below hb1
    clear hT
    go_wp2_with fail
    refine (awake5 _ hT1).mono ?_
    rintro e wb ⟨rfl, hb2⟩
    clear hT1
    go_wp2
    go_ret
    exact ⟨rfl, below_two hb1 hb2⟩
  · have c0' : ¬ (300 : Int) < (len0 : Int) := by omega
    by_cases c1 : 300 < len1
    · have c1' : (300 : Int) < (len1 : Int) := by omega
      clear hG hX
      go_enter Tryd.func3, Tryd.ntmps3
      go_wp2_with fail
      refine (awake5 _ hT).mono ?_
      rintro e wa ⟨rfl, hb1⟩
      have hT1 := hT.below hb1
      clear hT
      go_wp2_with fail
      refine (awake5 _ hT1).mono ?_
      rintro e wb ⟨rfl, hb2⟩
      clear hT1
      go_wp2
      go_ret
      exact ⟨rfl, below_two hb1 hb2⟩
    · have c1' : ¬ (300 : Int) < (len1 : Int) := by omega
      by_cases c2 : len0 = len1
      · subst c2
        have c2' : ((len0 : Int) != (len0 : Int)) = false := by simp
        obtain ⟨I, hI⟩ := inv_ex (msq xs) (msq_bd xs).1
        have HI := Lib.hid hI
        clear hI
        go_enter Tryd.func3, Tryd.ntmps3
        go_wp2_with fail
        refine (awake5 _ hT).mono ?_
        rintro e wa ⟨rfl, hb1⟩
        have hX1 := hX.below hb1
        have hG1 := hG.below hb1
        obtain ⟨xa, xcap, wb, hrun, hIn, hb2⟩ := copy_new32 wa _ _ _ _ hX1 (by omega)
        have hbb := below_two hb1 hb2
        have hX2 := hX1.below hb2
        have hG2 := hG1.below hb2
        clear hX hG hT hX1 hG1 hb1 hb2
        go_upto_region 4 with (at_builtin; refine wpList_append_at (by rfl) _ _ _ (by rfl) _ _ (by rfl) (by rfl) hrun ?_)
        clear hrun
        obtain ⟨ga, gcap, wc, hrun, hCg, hb3⟩ := copy_new8 wb _ _ _ _ hG2 (by omega)
        have hbc := below_two hbb hb3
        have hX3 := hX2.below hb3
        have hG3 := hG2.below hb3
        have hIn3 := hIn.below hb3
        clear hX2 hG2 hIn hbb hb3
        go_wp2_with (at_builtin; refine wpList_append_at (by rfl) _ _ _ (by rfl) _ _ (by rfl) (by rfl) hrun ?_)
        clear hrun
        refine (norm_any _ _ len0 gcap xcap gs xs I wc hCg.1 hIn3.1 (by omega) HI.out).mono ?_
        rintro e wd ⟨⟨yb, yc, rfl, hY⟩, hb4⟩
        have hbd := below_two hbc hb4
        have hX4 := hX3.below hb4
        have hG4 := hG3.below hb4
        have hIn4 := hIn3.below hb4
        clear hX3 hG3 hIn3 hCg hbc hb4
        go_wp2_with fail
        refine (ints_yes _ _ len0 xcap cap1 xs wd hIn4.1 hX4.1).mono ?_
        rintro e we ⟨rfl, d, rfl⟩
        generalize hwe : wd.drewN d = we
        have hbe : Below wd.heap.size wd we := by rw [← hwe]; exact below_drewN (Below.refl _ _) d
        have hX5 := hX4.below hbe
        have hG5 := hG4.below hbe
        have hY5 := hY.below hbe
        have hb6 := below_two hbd hbe
        clear hX4 hG4 hIn4 hY hbd hwe hbe
        go_wp2_with fail
        refine (ref_norm _ _ len0 cap0 cap1 gs xs I we hG5.1 hX5.1 (by omega) HI.out).mono ?_
        rintro e wf ⟨⟨zb, zc, rfl, hZ⟩, hb7⟩
        have hY6 := hY5.below hb7
        have hb8 := below_two hb6 hb7
        clear hX5 hG5 hY5 hb6 hb7
        go_wp2_with fail
        refine (bytes_yes _ _ len0 yc zc _ wf hY6 hZ).mono ?_
        rintro e wg ⟨rfl, d, rfl⟩
        have hb9 := below_drewN hb8 d
        clear hY6 hZ hb8 HI
        go_wp2
        go_ret
        exact ⟨rfl, hb9⟩
      · have c2' : ((len0 : Int) != (len1 : Int)) = true := by simp; omega
        go_enter Tryd.func3, Tryd.ntmps3
        go_wp2_with fail
        refine (awake5 _ hT).mono ?_
        rintro e wa ⟨rfl, hb1⟩
        have hX1 := hX.below hb1
        have hG1 := hG.below hb1
        obtain ⟨xa, xcap, wb, hrun, hIn, hb2⟩ := copy_new32 wa _ _ _ _ hX1 (by omega)
        have hbb := below_two hb1 hb2
        have hX2 := hX1.below hb2
        have hG2 := hG1.below hb2
        clear hX hG hT hX1 hG1 hb1 hb2
        go_upto_region 4 with (at_builtin; refine wpList_append_at (by rfl) _ _ _ (by rfl) _ _ (by rfl) (by rfl) hrun ?_)
        clear hrun
        obtain ⟨ga, gcap, wc, hrun, hCg, hb3⟩ := copy_new8 wb _ _ _ _ hG2 (by omega)
        have hbc := below_two hbb hb3
        have hX3 := hX2.below hb3
        have hG3 := hG2.below hb3
        have hIn3 := hIn.below hb3
        clear hX2 hG2 hIn hbb hb3
        go_wp2_with (at_builtin; refine wpList_append_at (by rfl) _ _ _ (by rfl) _ _ (by rfl) (by rfl) hrun ?_)
        clear hrun
        refine (norm_len _ _ len0 len1 gcap xcap c2 (by omega) (by omega) wc).mono ?_
        rintro e wd ⟨rfl, rfl⟩
        clear hG3 hCg
        go_wp2_with fail
        refine (ints_yes _ _ len1 xcap cap1 xs wc hIn3.1 hX3.1).mono ?_
        rintro e we ⟨rfl, d, rfl⟩
        have hb6 := below_drewN hbc d
        clear hX3 hIn3 hbc c2
        go_wp2
        go_ret
        exact ⟨rfl, hb6⟩

/-! ### THE ROW's STEP: WRITTEN OUT: LEAVE IT -/
set_option maxRecDepth 100000 in
theorem lifted (os : Os) (started : os.Started) (H : Type) (enc : TypeId × Value → H) :
    ReturnsInHanded {} Tryd.checked os 3 .any (fun w args => (Rows.normNormsSpec.pre enc Tryd.prog Tryd.f3 [] false w args ∧ laidMetH Tryd.prog laidList w) ∧ sizedMet enc Tryd.prog Tryd.f3 (OpenSpec.ofChange Rows.normNormsSpec) false w args) (Rows.normNormsSpec.post enc Tryd.prog Tryd.f3 false true false false) := by
  refine returnsInHanded_of_change_and (C := Tryd.checked) (X := fun w _ => laidMetH Tryd.prog laidList w) (fun _ _ _ hh h => h.of_heap hh) own started (by kernel_rfl) Tryd.func3
    (ChangeSpec.witness_shaped (enc := enc) (C := Tryd.checked) (os := os) (X := fun w _ => laidMetH Tryd.prog laidList w) false (World.doorLaid Tryd.prog 400 os) #[.slice none 0 0, .slice none 0 0] 8 rfl (World.shaped_of_RefB (by kernel_rfl) (by kernel_rfl)) (by kernel_rfl) (by kernel_rfl) (by kernel_rfl) (door_met os _)) ?_
  intro W base args ds gs before hval0 hW _ _ hL _
  have hval : ∀ (j : Nat) t v, Tryd.f3.params[j]? = some t → args[j]? = some v → Value.okWide Tryd.prog W .any base t v := hval0
  have hW' := hW
  obtain ⟨p, q, hA0, hV, rfl, hfz, hnd⟩ := hW
  have hA : DataW.TrodAll enc Tryd.prog W 0 (fun _ => true) true Tryd.f3.params.toList args.toList ds p := hA0
  rw [Tryd.params3] at hA hval
  obtain ⟨v0, vs0, d0, ds0, p0, q0, hargs, rfl, rfl, h0, r0⟩ := trodAll_cons hA
  obtain ⟨v1, vs1, d1, ds1, p1, q1, rfl, rfl, rfl, h1, r1⟩ := trodAll_cons r0
  obtain ⟨rfl, rfl, rfl⟩ := trodAll_nil r1
  obtain rfl : args = #[v0, v1] := by cases args; simp_all
  obtain ⟨rfl, rfl⟩ := trodVars_none hV
  obtain ⟨a0, len0, cap0, rfl⟩ := okWide_slice Tryd.underlying22 (hval 0 22 v0 rfl rfl)
  have k0 := h0
  have lt0 : ∀ x ∈ p0, x.block < W.heap.size := by obtain ⟨m, hm⟩ := k0; exact DataW.trod_lt m _ _ _ hm
  obtain ⟨z0, w0⟩ : ∃ zs, IsRow .i8 W a0 len0 cap0 zs := by
    obtain ⟨fuel, hf⟩ := h0
    rcases open_ints Tryd.underlying22 Tryd.underlying39 (by kernel_rfl) hf with ⟨hcs, _⟩ | ⟨x, l, c, zs, hcs, _, hl, hm, hz, _, hcell, hwz⟩
    · simp [Value.cells] at hcs
      obtain ⟨rfl, rfl, rfl⟩ := hcs
      exact ⟨[], .inl ⟨rfl, rfl, rfl, rfl⟩⟩
    · simp [Value.cells] at hcs
      obtain ⟨rfl, rfl, rfl⟩ := hcs
      exact ⟨zs, .inr ⟨_, rfl, hl, hm, by simpa using hz, hcell, hwz⟩⟩
  obtain ⟨a1, len1, cap1, rfl⟩ := okWide_slice Tryd.underlying23 (hval 1 23 v1 rfl rfl)
  have k1 := h1
  have lt1 : ∀ x ∈ p1, x.block < W.heap.size := by obtain ⟨m, hm⟩ := k1; exact DataW.trod_lt m _ _ _ hm
  obtain ⟨z1, w1⟩ : ∃ zs, IsRow .i32 W a1 len1 cap1 zs := by
    obtain ⟨fuel, hf⟩ := h1
    rcases open_ints Tryd.underlying23 Tryd.underlying21 (by kernel_rfl) hf with ⟨hcs, _⟩ | ⟨x, l, c, zs, hcs, _, hl, hm, hz, _, hcell, hwz⟩
    · simp [Value.cells] at hcs
      obtain ⟨rfl, rfl, rfl⟩ := hcs
      exact ⟨[], .inl ⟨rfl, rfl, rfl, rfl⟩⟩
    · simp [Value.cells] at hcs
      obtain ⟨rfl, rfl, rfl⟩ := hcs
      exact ⟨zs, .inr ⟨_, rfl, hl, hm, by simpa using hz, hcell, hwz⟩⟩
  clear hA0 hval0
  have hT := tab_of_laid hL
  refine (walk a0 len0 cap0 z0 a1 len1 cap1 z1 W w0 w1 hT).mono fun e W' ⟨he, bel⟩ => ?_
  subst he
  exact ⟨_, rfl, _, _, _, [], _, [], hW', trodAll_mk1 (shut_bool Tryd.underlying4 _), (trodAll_cons_mk (Below.trod laidOut (by kernel_rfl) (of_decide_eq_true (by kernel_rfl)) k0 bel lt0) (trodAll_cons_mk (Below.trod laidOut (by kernel_rfl) (of_decide_eq_true (by kernel_rfl)) k1 bel lt1) trodAll_mk0)), rfl, bel.frame _, fun h => by cases h⟩

theorem over : Rows.normNormsRow.holds Tryd.pinned (OpenSpec.ofChange Rows.normNormsSpec) :=
  OpenClaim.holds_of_wide 3 Tryd.f3 rfl rfl rfl rfl rfl rfl rfl ⟨rfl, rfl, rfl, rfl, rfl⟩ rfl rfl rfl rfl rfl (by kernel_rfl) Tryd.func3 (by kernel_rfl)
    (of_decide_eq_true (by kernel_rfl)) (by unfold Func.isWrapper; first | (rw [if_pos (by decide +kernel)]; kernel_rfl) | (rw [if_neg (by decide +kernel)]; exact ⟨rfl, rfl⟩))
    (fun os started H enc _ => lifted os started H enc)

/-- the row's statement -/
theorem said : Rows.NormNormsSaid := over

/-- THE STATEMENT: the tied card -/
theorem proved : Rows.NormNormsCardSaid :=
  Claim7.holds_tied_plain_at .later [] [.data] true (true, "d25234ddf6c27c6edf394e90a076e1636ca57c252689c4c3bbb1e2edf7642b21") false
    said (fun _ h => by cases h) (by kernel_rfl) (fun _ h => by cases h) normNorms_row_tie rfl ⟨rfl, rfl⟩ (by kernel_rfl) rfl
    (fun f fn hf hfn => by
      obtain rfl : f = 3 := Option.some.inj ((show Tryd.prog.funcNamed "peloton/pelotonlaw05.NormNorms" = some 3 by kernel_rfl).symm.trans hf) |>.symm
      obtain rfl : fn = Tryd.f3 := (Option.some.inj (Tryd.func3.symm.trans hfn)).symm
      exact ⟨by kernel_rfl, fun j t ht => by
        rw [Tryd.params3] at ht
        have hm : t ∈ [22, 23] := by simpa using Array.mem_of_getElem? ht
        have hall : ([22, 23].all fun u => !Tryd.prog.wantsStandIn u) = true := by kernel_rfl
        exact (show Tryd.prog.wantsStandIn t = false by simpa using List.all_eq_true.1 hall t hm)⟩)
    (by kernel_rfl)
#print axioms proved
end Go.Proofs.YthblniakghfchaaDoor.normNorms
