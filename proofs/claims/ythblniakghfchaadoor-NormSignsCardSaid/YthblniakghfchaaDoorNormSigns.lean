/-
  Proved: for every row and gains NormSigns returns true (a row whose signs are turned comes out with its signs turned, where nothing meets the ends of a range) and nothing that was in memory turns. Conditions: the table reads as the program's initialisers lay it (tied by the card).
-/
import Derived.Test.YthblniakghfchaaDoorRows
import Derived.WalkKit
import Derived.ProofKit
import Derived.OpenShut
import Derived.ShutString
import Derived.ChangeOld
import Derived.Below
import Derived.Test.YthblniakghfchaaDoorLaid
import Derived.Test.YthblniakghfchaaDoorTie
import Derived.Test.YthblniakghfchaaDoorCards
import Derived.SevenTiedAt
import Derived.Test.YthblniakghfchaaDoorAwake5
import Derived.Test.YthblniakghfchaaDoorSignMath
import Derived.Deep.QuietTactic
import Derived.BigQuiet
import Derived.Test.YthblniakghfchaaDoorTwoRows
import Derived.Test.YthblniakghfchaaDoorRwRow
import Derived.Deep.CutRange
namespace Go.Proofs.YthblniakghfchaaDoor.normSigns
open Go.ChangeShapes Go.WideShapes Go.ChangeAt Go.RowKit
open Go.ChangeMaps (open_string shut_string)
set_option linter.unusedVariables false

theorem own : ownKnob Tryd.prog.godebug = none := by kernel_rfl
theorem laidOut : laidOutB Tryd.prog = true := by kernel_rfl

/-- WHAT THE WALK IS TOLD OF A SLICE OF INTEGERS THAT CAME IN: it is nil; or it leads to a row of 'cap' cells, the numbers 'zs' (the first 'len' are its elements, the rest its spare room), each fitting its kind. -/
def IsRow (k : IntKind) (w : World) (a : Option Addr) (len cap : Nat) (zs : List Int) : Prop :=
  (a = none ∧ len = 0 ∧ cap = 0 ∧ zs = []) ∨
  ∃ x, a = some x ∧ len ≤ cap ∧ cap ≤ maxLen ∧ zs.length = cap ∧ (∀ i, i < zs.length → w.cell? (x.add i) = some (.int k (zs.getD i 0))) ∧ ∀ n ∈ zs, (Lit.int k n).wf = true

/-! ### STEP 1: THE WALK: the Go text returns true, AND WRITES NOTHING THAT WAS THERE: 'Below w.heap.size w w'' (Derived/Below.lean: '.refl', '.alloc', '.drew', '.setCell' at a new block, '.trans'). Open each 'IsRow' by 'rcases' AHEAD of 'go_enter'; part every test ahead of the walk. -/
set_option maxHeartbeats 6400000 in
set_option maxRecDepth 100000 in
theorem walk (a0 : Option Addr) (len0 cap0 : Nat) (z0 : List Int) (a1 : Option Addr) (len1 cap1 : Nat) (z1 : List Int) (w : World) (w0 : IsRow .i8 w a0 len0 cap0 z0) (w1 : IsRow .i16 w a1 len1 cap1 z1) (hT : Tab w) :
    Calls Tryd.prog 9 #[.slice a0 len0 cap0, .slice a1 len1 cap1] w fun e w' => e = .returned (.bool true) ∧ Below w.heap.size w w' := by
  obtain ⟨⟨gs, hG⟩, hcap0, hmax0⟩ := elems_of_row w0
  obtain ⟨⟨xs, hX⟩, hcap1, hmax1⟩ := elems_of_row w1
  clear w0 w1
  by_cases c2 : len0 = len1
  · subst c2
    have c2' : ((len0 : Int) != (len0 : Int)) = false := by simp
    by_cases c0 : 200 < len0
    · have c0' : (200 : Int) < (len0 : Int) := by omega
      go_enter Tryd.func9, Tryd.ntmps9
      go_wp2_with fail
      refine (awake5 _ hT).mono ?_
      rintro e wa ⟨rfl, hb1⟩
      have hT1 := hT.below hb1
      clear hT
      go_wp2_with fail
      refine (awake5 _ hT1).mono ?_
      rintro e wb ⟨rfl, hb2⟩
      clear hT1
      go_wp2
      go_ret
      exact ⟨rfl, below_two hb1 hb2⟩
    · have c0' : ¬ (200 : Int) < (len0 : Int) := by omega
      obtain ⟨I, hI⟩ := inv_ex (msq xs) (msq_bd xs).1
      have HI := Lib.hid hI
      have HL := Lib.hid hX.1
      clear hI
      go_enter Tryd.func9, Tryd.ntmps9
      go_wp2_with fail
      refine (awake5 _ hT).mono ?_
      rintro e wa ⟨rfl, hb1⟩
      have hX1 := hX.below hb1
      have hG1 := hG.below hb1
      clear hX hG hT
      go_wp2
      go_loopw [5, 6, 7] (fun va vb i wr => ∃ (k : Nat), k ≤ len0 ∧ i = .int .i64 k ∧ Hid (Two wa.heap.size va vb k k (xs.take k) ((xs.take k).map ((-·))) wr) ∧ Below wa.heap.size wa wr) (fun _ _ i _ => len0 - (intOf i).toNat)
      case atStart => exact ⟨0, by omega, rfl, Lib.hid (two_start wa), Below.refl _ _⟩
      case round =>
        obtain ⟨k, hk, rfl, htwo, hbel⟩ := hrel
        by_cases hlt : k < len0
        · obtain ⟨bx, ox, v, rfl, hc, hv, wv⟩ := (hX1.below hbel).at_ hlt
          obtain ⟨v1, v2⟩ := wf16 wv
          obtain ⟨va, w2, hrun, htw, hbw⟩ := htwo.out.next (by omega) v
          have hbel2 := hbw wa rfl hbel
          obtain ⟨vb, w3, hrun2, htw2, hbw2⟩ := htw.symm.next (by omega) (-v)
          have hbel3 := hbw2 wa rfl hbel2
          have hc2 := (hX1.below hbel2)
          obtain ⟨bx', ox', v', he, hc2, hv', _⟩ := hc2.at_ hlt
          cases he
          obtain rfl : v' = v := by rw [← hv'.out, hv.out]
          have hst := Lib.hid htw2.symm
          have hsn : Hid (xs.take k ++ [v'] = xs.take (k + 1) ∧ (xs.take k).map ((-·)) ++ [-v'] = (xs.take (k + 1)).map ((-·))) := Lib.hid (by
            have hl := HL.out
            exact ⟨by rw [← take_snoc xs k (by omega), hv.out], by rw [← take_snoc_map ((-·)) xs k (by omega), hv.out]⟩)
          rw [hsn.out.1, hsn.out.2] at hst
          clear htwo hbel hbw hbw2 hbel2 htw htw2 hv hv' hsn
          go_upto_region 8 with (at_builtin; refine wpList_append_at (by rfl) _ _ _ (by rfl) _ _ (by rfl) (by rfl) hrun ?_)
          clear hrun
          go_wp2_with (at_builtin; refine wpList_append_at (by rfl) _ _ _ (by rfl) _ _ (by rfl) (by rfl) hrun2 ?_)
          clear hrun2
          go_roundw
          case rel => exact ⟨k + 1, by omega, by go_num, hst, hbel3⟩
          case measure => simp [intOf]; omega
        · obtain rfl : k = len0 := by omega
          have htw := htwo.out
          rw [List.take_of_length_le (by rw [HL.out]; omega)] at htw
          have hb16 : ∀ c ∈ xs, -32768 ≤ c ∧ c ≤ 32767 := fun c hc => wf16 (hX1.2.2.1 c hc)
          have hwx : ∀ c ∈ xs, (Lit.int .i32 c).wf = true := fun c hc => by have := hb16 c hc; exact WalkArith.wf_i32 ⟨by omega, by omega⟩
          have hwy : ∀ c ∈ xs.map (-·), (Lit.int .i32 c).wf = true := fun c hc => by
            obtain ⟨x, hx, rfl⟩ := List.mem_map.1 hc
            have := hb16 x hx
            exact WalkArith.wf_i32 ⟨by show _ ≤ -x; omega, by show -x ≤ _; omega⟩
          obtain ⟨ga, ca, hva, hEa⟩ := own_form htw.a (by omega) hwx
          obtain ⟨gb, cb, hvb, hEb⟩ := own_form htw.b (by omega) hwy
          subst hva hvb
          have HI2 : Hid (IsInv (msq (xs.map (-·))) I) := Lib.hid (by rw [msq_neg xs hb16]; exact HI.out)
          have HN : Hid (∀ i, i < k → -127 < (norms I gs xs k).getD i 0 → (norms I gs xs k).getD i 0 < 127 → (norms I gs (xs.map (-·)) k).getD i 0 = -(norms I gs xs k).getD i 0) := Lib.hid (fun i hi h1 h2 => by
            have hl := HL.out
            rw [norms_at I gs _ k hi] at h1 h2 ⊢
            rw [norms_at I gs _ k hi, neg_at xs (by omega)]
            have hb := hb16 (xs.getD i 0) (getD_mem (by omega))
            exact norm1_neg _ _ _ hb.1 hb.2 h1 h2)
          have hbb := below_two hb1 hbel
          have hGr := hG1.below hbel
          clear htw htwo hwx hwy hX1 hG1 hb1 hbel hb16
          go_wp2_with fail
          refine (norm_any _ _ k cap0 ca gs xs I wr hGr hEa (by omega) HI.out).mono ?_
          rintro e wb ⟨⟨p, pc, rfl, hP⟩, hb2⟩
          have hGb := hGr.below hb2
          have hEb2 := hEb.below hb2
          have hbc := below_two hbb hb2
          clear hEa hEb hGr hbb hb2
          go_wp2_with fail
          refine (norm_any _ _ k cap0 cb gs (xs.map (-·)) I wb hGb hEb2 (by omega) HI2.out).mono ?_
          rintro e wc ⟨⟨q, qc, rfl, hQ⟩, hb3⟩
          have hP2 := hP.below hb3
          have hbd := below_two hbc hb3
          generalize norms I gs xs k = ps at hP2 HN
          generalize norms I gs (xs.map (-·)) k = qs at hQ HN
          clear hGb hEb2 hP hbc hb3 HI HI2
          go_wp2
          go_loopw [12] (fun i wr => ∃ (j d : Nat), j ≤ k ∧ i = .int .i64 j ∧ wr = wc.drewN d) (fun i _ => k - (intOf i).toNat)
          case atStart => exact ⟨0, 0, by omega, rfl, rfl⟩
          case round =>
            obtain ⟨j, d, hj, rfl, rfl⟩ := hrel
            by_cases hlt : j < k
            · obtain ⟨bp, op, x, rfl, hc, hx, wx⟩ := hP2.at_ hlt
              obtain ⟨bq, oq, y, rfl, hc2, hy, wy⟩ := hQ.at_ hlt
              obtain ⟨x1, x2⟩ := wf8 wx
              have hn := HN.out j hlt
              rw [hx.out, hy.out] at hn
              clear hx hy wx wy hP2 hQ
              by_cases t1 : -127 < x
              · by_cases t2 : x < 127
                · obtain rfl : y = -x := hn t1 t2
                  have e0 : IntKind.i8.wrap (-x) = -x := IntWalk.i8_in _ (by omega)
                  have t3 : (-x != -x) = false := by simp
                  clear hn
                  go_wp2
                  go_quiet (fail)
                  clear e0 t3
                  go_wp2
                  go_roundw
                  case rel => exact ⟨j + 1, _, by omega, by go_num, rfl⟩
                  case measure => simp [intOf]; omega
                · have t2' : decide (x < 127) = false := by simp; omega
                  clear hn
                  go_wp2
                  go_quiet (fail)
                  go_wp2
                  go_roundw
                  case rel => exact ⟨j + 1, _, by omega, by go_num, rfl⟩
                  case measure => simp [intOf]; omega
              · have t1' : decide (-127 < x) = false := by simp; omega
                clear hn
                go_wp2
                go_quiet (fail)
                go_wp2
                go_roundw
                case rel => exact ⟨j + 1, _, by omega, by go_num, rfl⟩
                case measure => simp [intOf]; omega
            · obtain rfl : j = k := by omega
              clear hP2 hQ
              go_wp2
              go_ret
              exact ⟨rfl, below_drewN hbd _⟩
  · have c2' : ((len0 : Int) != (len1 : Int)) = true := by have := hG.2.1; have := hX.2.1; simp; omega
    go_enter Tryd.func9, Tryd.ntmps9
    go_wp2_with fail
    refine (awake5 _ hT).mono ?_
    rintro e wa ⟨rfl, hb1⟩
    have hT1 := hT.below hb1
    clear hT
    go_wp2_with fail
    refine (awake5 _ hT1).mono ?_
    rintro e wb ⟨rfl, hb2⟩
    clear hT1
    go_wp2
    go_ret
    exact ⟨rfl, below_two hb1 hb2⟩

/-! ### THE ROW's STEP: WRITTEN OUT: LEAVE IT -/
set_option maxRecDepth 100000 in
theorem lifted (os : Os) (started : os.Started) (H : Type) (enc : TypeId × Value → H) :
    ReturnsInHanded {} Tryd.checked os 9 .any (fun w args => (Rows.normSignsSpec.pre enc Tryd.prog Tryd.f9 [] false w args ∧ laidMetH Tryd.prog laidList w) ∧ sizedMet enc Tryd.prog Tryd.f9 (OpenSpec.ofChange Rows.normSignsSpec) false w args) (Rows.normSignsSpec.post enc Tryd.prog Tryd.f9 false true false false) := by
  refine returnsInHanded_of_change_and (C := Tryd.checked) (X := fun w _ => laidMetH Tryd.prog laidList w) (fun _ _ _ hh h => h.of_heap hh) own started (by kernel_rfl) Tryd.func9
    (ChangeSpec.witness_shaped (enc := enc) (C := Tryd.checked) (os := os) (X := fun w _ => laidMetH Tryd.prog laidList w) false (World.doorLaid Tryd.prog 400 os) #[.slice none 0 0, .slice none 0 0] 8 rfl (World.shaped_of_RefB (by kernel_rfl) (by kernel_rfl)) (by kernel_rfl) (by kernel_rfl) (by kernel_rfl) (door_met os _)) ?_
  intro W base args ds gs before hval0 hW _ _ hL _
  have hval : ∀ (j : Nat) t v, Tryd.f9.params[j]? = some t → args[j]? = some v → Value.okWide Tryd.prog W .any base t v := hval0
  have hW' := hW
  obtain ⟨p, q, hA0, hV, rfl, hfz, hnd⟩ := hW
  have hA : DataW.TrodAll enc Tryd.prog W 0 (fun _ => true) true Tryd.f9.params.toList args.toList ds p := hA0
  rw [Tryd.params9] at hA hval
  obtain ⟨v0, vs0, d0, ds0, p0, q0, hargs, rfl, rfl, h0, r0⟩ := trodAll_cons hA
  obtain ⟨v1, vs1, d1, ds1, p1, q1, rfl, rfl, rfl, h1, r1⟩ := trodAll_cons r0
  obtain ⟨rfl, rfl, rfl⟩ := trodAll_nil r1
  obtain rfl : args = #[v0, v1] := by cases args; simp_all
  obtain ⟨rfl, rfl⟩ := trodVars_none hV
  obtain ⟨a0, len0, cap0, rfl⟩ := okWide_slice Tryd.underlying22 (hval 0 22 v0 rfl rfl)
  have k0 := h0
  have lt0 : ∀ x ∈ p0, x.block < W.heap.size := by obtain ⟨m, hm⟩ := k0; exact DataW.trod_lt m _ _ _ hm
  obtain ⟨z0, w0⟩ : ∃ zs, IsRow .i8 W a0 len0 cap0 zs := by
    obtain ⟨fuel, hf⟩ := h0
    rcases open_ints Tryd.underlying22 Tryd.underlying39 (by kernel_rfl) hf with ⟨hcs, _⟩ | ⟨x, l, c, zs, hcs, _, hl, hm, hz, _, hcell, hwz⟩
    · simp [Value.cells] at hcs
      obtain ⟨rfl, rfl, rfl⟩ := hcs
      exact ⟨[], .inl ⟨rfl, rfl, rfl, rfl⟩⟩
    · simp [Value.cells] at hcs
      obtain ⟨rfl, rfl, rfl⟩ := hcs
      exact ⟨zs, .inr ⟨_, rfl, hl, hm, by simpa using hz, hcell, hwz⟩⟩
  obtain ⟨a1, len1, cap1, rfl⟩ := okWide_slice Tryd.underlying48 (hval 1 48 v1 rfl rfl)
  have k1 := h1
  have lt1 : ∀ x ∈ p1, x.block < W.heap.size := by obtain ⟨m, hm⟩ := k1; exact DataW.trod_lt m _ _ _ hm
  obtain ⟨z1, w1⟩ : ∃ zs, IsRow .i16 W a1 len1 cap1 zs := by
    obtain ⟨fuel, hf⟩ := h1
    rcases open_ints Tryd.underlying48 Tryd.underlying49 (by kernel_rfl) hf with ⟨hcs, _⟩ | ⟨x, l, c, zs, hcs, _, hl, hm, hz, _, hcell, hwz⟩
    · simp [Value.cells] at hcs
      obtain ⟨rfl, rfl, rfl⟩ := hcs
      exact ⟨[], .inl ⟨rfl, rfl, rfl, rfl⟩⟩
    · simp [Value.cells] at hcs
      obtain ⟨rfl, rfl, rfl⟩ := hcs
      exact ⟨zs, .inr ⟨_, rfl, hl, hm, by simpa using hz, hcell, hwz⟩⟩
  clear hA0 hval0
  have hT := tab_of_laid hL
  refine (walk a0 len0 cap0 z0 a1 len1 cap1 z1 W w0 w1 hT).mono fun e W' ⟨he, bel⟩ => ?_
  subst he
  exact ⟨_, rfl, _, _, _, [], _, [], hW', trodAll_mk1 (shut_bool Tryd.underlying4 _), (trodAll_cons_mk (Below.trod laidOut (by kernel_rfl) (of_decide_eq_true (by kernel_rfl)) k0 bel lt0) (trodAll_cons_mk (Below.trod laidOut (by kernel_rfl) (of_decide_eq_true (by kernel_rfl)) k1 bel lt1) trodAll_mk0)), rfl, bel.frame _, fun h => by cases h⟩

theorem over : Rows.normSignsRow.holds Tryd.pinned (OpenSpec.ofChange Rows.normSignsSpec) :=
  OpenClaim.holds_of_wide 9 Tryd.f9 rfl rfl rfl rfl rfl rfl rfl ⟨rfl, rfl, rfl, rfl, rfl⟩ rfl rfl rfl rfl rfl (by kernel_rfl) Tryd.func9 (by kernel_rfl)
    (of_decide_eq_true (by kernel_rfl)) (by unfold Func.isWrapper; first | (rw [if_pos (by decide +kernel)]; kernel_rfl) | (rw [if_neg (by decide +kernel)]; exact ⟨rfl, rfl⟩))
    (fun os started H enc _ => lifted os started H enc)

/-- the row's statement -/
theorem said : Rows.NormSignsSaid := over

/-- THE STATEMENT: the tied card -/
theorem proved : Rows.NormSignsCardSaid :=
  Claim7.holds_tied_plain_at .later [] [.data] true (true, "d25234ddf6c27c6edf394e90a076e1636ca57c252689c4c3bbb1e2edf7642b21") false
    said (fun _ h => by cases h) (by kernel_rfl) (fun _ h => by cases h) normSigns_row_tie rfl ⟨rfl, rfl⟩ (by kernel_rfl) rfl
    (fun f fn hf hfn => by
      obtain rfl : f = 9 := Option.some.inj ((show Tryd.prog.funcNamed "peloton/pelotonlaw05.NormSigns" = some 9 by kernel_rfl).symm.trans hf) |>.symm
      obtain rfl : fn = Tryd.f9 := (Option.some.inj (Tryd.func9.symm.trans hfn)).symm
      exact ⟨by kernel_rfl, fun j t ht => by
        rw [Tryd.params9] at ht
        have hm : t ∈ [22, 48] := by simpa using Array.mem_of_getElem? ht
        have hall : ([22, 48].all fun u => !Tryd.prog.wantsStandIn u) = true := by kernel_rfl
        exact (show Tryd.prog.wantsStandIn t = false by simpa using List.all_eq_true.1 hall t hm)⟩)
    (by kernel_rfl)
#print axioms proved
end Go.Proofs.YthblniakghfchaaDoor.normSigns
