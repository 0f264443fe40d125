/-
  Proved: for every scale and every row NormShifts returns true (softmax weights depend on differences alone) and nothing that was in memory turns. Conditions: the table reads as the program's initialisers lay it (tied by the card).
-/
import Derived.Test.YthblniakghfchaaDoorRows
import Derived.WalkKit
import Derived.ProofKit
import Derived.OpenShut
import Derived.ShutString
import Derived.ChangeOld
import Derived.Below
import Derived.Test.YthblniakghfchaaDoorLaid
import Derived.Test.YthblniakghfchaaDoorTie
import Derived.Test.YthblniakghfchaaDoorCards
import Derived.SevenTiedAt
import Derived.Test.YthblniakghfchaaDoorAwake5
import Derived.Test.YthblniakghfchaaDoorSoftMath
import Derived.Test.YthblniakghfchaaDoorTwoRows
import Derived.Test.YthblniakghfchaaDoorRwRow
import Derived.Deep.CutRange
namespace Go.Proofs.YthblniakghfchaaDoor.normShifts
open Go.ChangeShapes Go.WideShapes Go.ChangeAt Go.RowKit
open Go.ChangeMaps (open_string shut_string)
set_option linter.unusedVariables false

theorem own : ownKnob Tryd.prog.godebug = none := by kernel_rfl
theorem laidOut : laidOutB Tryd.prog = true := by kernel_rfl

/-- WHAT THE WALK IS TOLD OF A SLICE OF INTEGERS THAT CAME IN: it is nil; or it leads to a row of 'cap' cells, the numbers 'zs' (the first 'len' are its elements, the rest its spare room), each fitting its kind. -/
def IsRow (k : IntKind) (w : World) (a : Option Addr) (len cap : Nat) (zs : List Int) : Prop :=
  (a = none ∧ len = 0 ∧ cap = 0 ∧ zs = []) ∨
  ∃ x, a = some x ∧ len ≤ cap ∧ cap ≤ maxLen ∧ zs.length = cap ∧ (∀ i, i < zs.length → w.cell? (x.add i) = some (.int k (zs.getD i 0))) ∧ ∀ n ∈ zs, (Lit.int k n).wf = true

/-! ### STEP 1: THE WALK: the Go text returns true, AND WRITES NOTHING THAT WAS THERE: 'Below w.heap.size w w'' (Derived/Below.lean: '.refl', '.alloc', '.drew', '.setCell' at a new block, '.trans'). Open each 'IsRow' by 'rcases' AHEAD of 'go_enter'; part every test ahead of the walk. -/
set_option maxHeartbeats 6400000 in
set_option maxRecDepth 100000 in
theorem walk (a0 : Int) (a1 : Option Addr) (len1 cap1 : Nat) (z1 : List Int) (a2 : Int) (w : World) (w0 : (Lit.int .i32 a0).wf = true) (w1 : IsRow .i16 w a1 len1 cap1 z1) (w2 : (Lit.int .i16 a2).wf = true) (hT : Tab w) :
    Calls Tryd.prog 8 #[.int .i32 a0, .slice a1 len1 cap1, .int .i16 a2] w fun e w' => e = .returned (.bool true) ∧ Below w.heap.size w w' := by
  obtain ⟨⟨xs, hX⟩, hcap1, hmax1⟩ := elems_of_row w1
  obtain ⟨b1, b2⟩ := wf32 w0
  obtain ⟨u1, u2⟩ := wf16 w2
  clear w0 w1 w2
  by_cases c0 : 200 < len1
  · have c0' : (200 : Int) < (len1 : Int) := by omega
    go_enter Tryd.func8, Tryd.ntmps8
    go_wp2_with fail
    refine (awake5 _ hT).mono ?_
    rintro e wa ⟨rfl, hb1⟩
    have hT1 := hT.below hb1
    clear hT
    go_wp2_with fail
    refine (awake5 _ hT1).mono ?_
    rintro e wb ⟨rfl, hb2⟩
    clear hT1
    go_wp2
    go_ret
    exact ⟨rfl, below_two hb1 hb2⟩
  · have c0' : ¬ (200 : Int) < (len1 : Int) := by omega
    obtain ⟨m, hm⟩ : ∃ m, 0 < len1 → IsTop xs m := by
      by_cases h0 : len1 = 0
      · exact ⟨0, fun h => by omega⟩
      · obtain ⟨m, hm⟩ := top_ex hX.1 (by omega)
        exact ⟨m, fun _ => hm⟩
    have HM := Lib.hid hm
    have HL := Lib.hid hX.1
    clear hm
    go_enter Tryd.func8, Tryd.ntmps8
    go_wp2_with fail
    refine (awake5 _ hT).mono ?_
    rintro e wa ⟨rfl, hb1⟩
    have hX1 := hX.below hb1
    have HT := Lib.hid (hT.below hb1)
    clear hX hT
    go_wp2
    go_loopw [7, 8, 9] (fun va vb i wr => ∃ (k : Nat), k ≤ len1 ∧ i = .int .i64 k ∧ Hid (Two wa.heap.size va vb k k (xs.take k) ((xs.take k).map (· + a2)) wr) ∧ Below wa.heap.size wa wr) (fun _ _ i _ => len1 - (intOf i).toNat)
    case atStart => exact ⟨0, by omega, rfl, Lib.hid (two_start wa), Below.refl _ _⟩
    case round =>
      obtain ⟨k, hk, rfl, htwo, hbel⟩ := hrel
      by_cases hlt : k < len1
      · obtain ⟨bx, ox, v, rfl, hc, hv, wv⟩ := (hX1.below hbel).at_ hlt
        obtain ⟨v1, v2⟩ := wf16 wv
        obtain ⟨va, w2, hrun, htw, hbw⟩ := htwo.out.next (by omega) v
        have hbel2 := hbw wa rfl hbel
        obtain ⟨vb, w3, hrun2, htw2, hbw2⟩ := htw.symm.next (by omega) (v + a2)
        have hbel3 := hbw2 wa rfl hbel2
        have hc2 := (hX1.below hbel2)
        obtain ⟨bx', ox', v', he, hc2, hv', _⟩ := hc2.at_ hlt
        cases he
        obtain rfl : v' = v := by rw [← hv'.out, hv.out]
        have hst := Lib.hid htw2.symm
        have hsn : Hid (xs.take k ++ [v'] = xs.take (k + 1) ∧ (xs.take k).map (· + a2) ++ [v' + a2] = (xs.take (k + 1)).map (· + a2)) := Lib.hid (by
          have hl := HL.out
          exact ⟨by rw [← take_snoc xs k (by omega), hv.out], by rw [← take_snoc_map (· + a2) xs k (by omega), hv.out]⟩)
        rw [hsn.out.1, hsn.out.2] at hst
        clear htwo hbel hbw hbw2 hbel2 htw htw2 hv hv' hsn
        go_upto_region 8 with (at_builtin; refine wpList_append_at (by rfl) _ _ _ (by rfl) _ _ (by rfl) (by rfl) hrun ?_)
        clear hrun
        go_wp2_with (at_builtin; refine wpList_append_at (by rfl) _ _ _ (by rfl) _ _ (by rfl) (by rfl) hrun2 ?_)
        clear hrun2
        go_roundw
        case rel => exact ⟨k + 1, by omega, by go_num, hst, hbel3⟩
        case measure => simp [intOf]; omega
      · obtain rfl : k = len1 := by omega
        have htw := htwo.out
        rw [List.take_of_length_le (by rw [HL.out]; omega)] at htw
        have hwx : ∀ c ∈ xs, (Lit.int .i32 c).wf = true := fun c hc => by have := wf16 (hX1.2.2.1 c hc); exact WalkArith.wf_i32 ⟨by omega, by omega⟩
        have hwy : ∀ c ∈ xs.map (· + a2), (Lit.int .i32 c).wf = true := fun c hc => by
          obtain ⟨x, hx, rfl⟩ := List.mem_map.1 hc
          have := wf16 (hX1.2.2.1 x hx)
          exact WalkArith.wf_i32 ⟨by show _ ≤ x + a2; omega, by show x + a2 ≤ _; omega⟩
        obtain ⟨ga, ca, hva, hEa⟩ := own_form htw.a (by omega) hwx
        obtain ⟨gb, cb, hvb, hEb⟩ := own_form htw.b (by omega) hwy
        subst hva hvb
        have hTr := HT.out.below hbel
        have hbb := below_two hb1 hbel
        clear htw htwo hwx hwy hX1 HT hb1 hbel
        go_wp2_with fail
        refine (softmax_any a0 3 m ga k ca xs wr hEa (by omega) b1 b2 HM.out hTr).mono ?_
        rintro e wb ⟨⟨p, pc, rfl, hP⟩, hb2⟩
        have hTb := hTr.below hb2
        have hEb2 := hEb.below hb2
        have hbc := below_two hbb hb2
        clear hEa hEb hTr hbb hb2
        go_wp2_with fail
        refine (softmax_any a0 3 (m + a2) gb k cb (xs.map (· + a2)) wb hEb2 (by omega) b1 b2 (fun h => top_up (HM.out h) a2) hTb).mono ?_
        rintro e wc ⟨⟨q, qc, rfl, hQ⟩, hb3⟩
        rw [soft_up] at hQ
        have hP2 := hP.below hb3
        have hbd := below_two hbc hb3
        clear hEb2 hTb hP hbc hb3
        go_wp2_with fail
        refine (ints_yes p q k pc qc _ wc hP2 hQ).mono ?_
        rintro e wd ⟨rfl, d, rfl⟩
        have hbe := below_drewN hbd d
        clear hP2 hQ hbd HM
        go_wp2
        go_ret
        exact ⟨rfl, hbe⟩

/-! ### THE ROW's STEP: WRITTEN OUT: LEAVE IT -/
set_option maxRecDepth 100000 in
theorem lifted (os : Os) (started : os.Started) (H : Type) (enc : TypeId × Value → H) :
    ReturnsInHanded {} Tryd.checked os 8 .any (fun w args => (Rows.normShiftsSpec.pre enc Tryd.prog Tryd.f8 [] false w args ∧ laidMetH Tryd.prog laidList w) ∧ sizedMet enc Tryd.prog Tryd.f8 (OpenSpec.ofChange Rows.normShiftsSpec) false w args) (Rows.normShiftsSpec.post enc Tryd.prog Tryd.f8 false true false false) := by
  refine returnsInHanded_of_change_and (C := Tryd.checked) (X := fun w _ => laidMetH Tryd.prog laidList w) (fun _ _ _ hh h => h.of_heap hh) own started (by kernel_rfl) Tryd.func8
    (ChangeSpec.witness_shaped (enc := enc) (C := Tryd.checked) (os := os) (X := fun w _ => laidMetH Tryd.prog laidList w) false (World.doorLaid Tryd.prog 400 os) #[.int .i32 0, .slice none 0 0, .int .i16 0] 8 rfl (World.shaped_of_RefB (by kernel_rfl) (by kernel_rfl)) (by kernel_rfl) (by kernel_rfl) (by kernel_rfl) (door_met os _)) ?_
  intro W base args ds gs before hval0 hW _ _ hL _
  have hval : ∀ (j : Nat) t v, Tryd.f8.params[j]? = some t → args[j]? = some v → Value.okWide Tryd.prog W .any base t v := hval0
  have hW' := hW
  obtain ⟨p, q, hA0, hV, rfl, hfz, hnd⟩ := hW
  have hA : DataW.TrodAll enc Tryd.prog W 0 (fun _ => true) true Tryd.f8.params.toList args.toList ds p := hA0
  rw [Tryd.params8] at hA hval
  obtain ⟨v0, vs0, d0, ds0, p0, q0, hargs, rfl, rfl, h0, r0⟩ := trodAll_cons hA
  obtain ⟨v1, vs1, d1, ds1, p1, q1, rfl, rfl, rfl, h1, r1⟩ := trodAll_cons r0
  obtain ⟨v2, vs2, d2, ds2, p2, q2, rfl, rfl, rfl, h2, r2⟩ := trodAll_cons r1
  obtain ⟨rfl, rfl, rfl⟩ := trodAll_nil r2
  obtain rfl : args = #[v0, v1, v2] := by cases args; simp_all
  obtain ⟨rfl, rfl⟩ := trodVars_none hV
  obtain ⟨a0, rfl, rfl, rfl, w0⟩ := open_int Tryd.underlying21 (hval 0 21 v0 rfl rfl) h0
  obtain ⟨a1, len1, cap1, rfl⟩ := okWide_slice Tryd.underlying48 (hval 1 48 v1 rfl rfl)
  have k1 := h1
  have lt1 : ∀ x ∈ p1, x.block < W.heap.size := by obtain ⟨m, hm⟩ := k1; exact DataW.trod_lt m _ _ _ hm
  obtain ⟨z1, w1⟩ : ∃ zs, IsRow .i16 W a1 len1 cap1 zs := by
    obtain ⟨fuel, hf⟩ := h1
    rcases open_ints Tryd.underlying48 Tryd.underlying49 (by kernel_rfl) hf with ⟨hcs, _⟩ | ⟨x, l, c, zs, hcs, _, hl, hm, hz, _, hcell, hwz⟩
    · simp [Value.cells] at hcs
      obtain ⟨rfl, rfl, rfl⟩ := hcs
      exact ⟨[], .inl ⟨rfl, rfl, rfl, rfl⟩⟩
    · simp [Value.cells] at hcs
      obtain ⟨rfl, rfl, rfl⟩ := hcs
      exact ⟨zs, .inr ⟨_, rfl, hl, hm, by simpa using hz, hcell, hwz⟩⟩
  obtain ⟨a2, rfl, rfl, rfl, w2⟩ := open_int Tryd.underlying49 (hval 2 49 v2 rfl rfl) h2
  clear hA0 hval0
  have hT := tab_of_laid hL
  refine (walk a0 a1 len1 cap1 z1 a2 W w0 w1 w2 hT).mono fun e W' ⟨he, bel⟩ => ?_
  subst he
  exact ⟨_, rfl, _, _, _, [], _, [], hW', trodAll_mk1 (shut_bool Tryd.underlying4 _), (trodAll_cons_mk (shut_int Tryd.underlying21 w0) (trodAll_cons_mk (Below.trod laidOut (by kernel_rfl) (of_decide_eq_true (by kernel_rfl)) k1 bel lt1) (trodAll_cons_mk (shut_int Tryd.underlying49 w2) trodAll_mk0))), rfl, bel.frame _, fun h => by cases h⟩

theorem over : Rows.normShiftsRow.holds Tryd.pinned (OpenSpec.ofChange Rows.normShiftsSpec) :=
  OpenClaim.holds_of_wide 8 Tryd.f8 rfl rfl rfl rfl rfl rfl rfl ⟨rfl, rfl, rfl, rfl, rfl⟩ rfl rfl rfl rfl rfl (by kernel_rfl) Tryd.func8 (by kernel_rfl)
    (of_decide_eq_true (by kernel_rfl)) (by unfold Func.isWrapper; first | (rw [if_pos (by decide +kernel)]; kernel_rfl) | (rw [if_neg (by decide +kernel)]; exact ⟨rfl, rfl⟩))
    (fun os started H enc _ => lifted os started H enc)

/-- the row's statement -/
theorem said : Rows.NormShiftsSaid := over

/-- THE STATEMENT: the tied card -/
theorem proved : Rows.NormShiftsCardSaid :=
  Claim7.holds_tied_plain_at .later [] [.data] true (true, "d25234ddf6c27c6edf394e90a076e1636ca57c252689c4c3bbb1e2edf7642b21") false
    said (fun _ h => by cases h) (by kernel_rfl) (fun _ h => by cases h) normShifts_row_tie rfl ⟨rfl, rfl⟩ (by kernel_rfl) rfl
    (fun f fn hf hfn => by
      obtain rfl : f = 8 := Option.some.inj ((show Tryd.prog.funcNamed "peloton/pelotonlaw05.NormShifts" = some 8 by kernel_rfl).symm.trans hf) |>.symm
      obtain rfl : fn = Tryd.f8 := (Option.some.inj (Tryd.func8.symm.trans hfn)).symm
      exact ⟨by kernel_rfl, fun j t ht => by
        rw [Tryd.params8] at ht
        have hm : t ∈ [21, 48, 49] := by simpa using Array.mem_of_getElem? ht
        have hall : ([21, 48, 49].all fun u => !Tryd.prog.wantsStandIn u) = true := by kernel_rfl
        exact (show Tryd.prog.wantsStandIn t = false by simpa using List.all_eq_true.1 hall t hm)⟩)
    (by kernel_rfl)
#print axioms proved
end Go.Proofs.YthblniakghfchaaDoor.normShifts
