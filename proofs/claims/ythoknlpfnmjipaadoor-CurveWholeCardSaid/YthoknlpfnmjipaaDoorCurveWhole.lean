/-
  Proved: for every total and every list of weights CurveWhole returns true (the shares together are never more than the total, and less by fewer than how many weights are above 0) and nothing that was in memory turns. Conditions: the table reads as the program's initialisers lay it (tied by the card).
-/
import Derived.Test.YthoknlpfnmjipaaDoorRows
import Derived.WalkKit
import Derived.ProofKit
import Derived.OpenShut
import Derived.ShutString
import Derived.ChangeOld
import Derived.Below
import Derived.Test.YthoknlpfnmjipaaDoorLaid
import Derived.Test.YthoknlpfnmjipaaDoorTie
import Derived.Test.YthoknlpfnmjipaaDoorCards
import Derived.SevenTiedAt
import Derived.Test.YthoknlpfnmjipaaDoorAwake2
import Derived.Test.YthoknlpfnmjipaaDoorWhole
import Derived.Deep.QuietTactic
import Derived.BigQuiet
namespace Go.Proofs.YthoknlpfnmjipaaDoor.curveWhole
open Go.ChangeShapes Go.WideShapes Go.ChangeAt Go.RowKit
open Go.ChangeMaps (open_string shut_string)
set_option linter.unusedVariables false

theorem own : ownKnob Tryd.prog.godebug = none := by kernel_rfl
theorem laidOut : laidOutB Tryd.prog = true := by kernel_rfl

/-- WHAT THE WALK IS TOLD OF A SLICE OF INTEGERS THAT CAME IN: it is nil; or it leads to a row of 'cap' cells, the numbers 'zs' (the first 'len' are its elements, the rest its spare room), each fitting its kind. -/
def IsRow (k : IntKind) (w : World) (a : Option Addr) (len cap : Nat) (zs : List Int) : Prop :=
  (a = none ∧ len = 0 ∧ cap = 0 ∧ zs = []) ∨
  ∃ x, a = some x ∧ len ≤ cap ∧ cap ≤ maxLen ∧ zs.length = cap ∧ (∀ i, i < zs.length → w.cell? (x.add i) = some (.int k (zs.getD i 0))) ∧ ∀ n ∈ zs, (Lit.int k n).wf = true

/-! ### STEP 1: THE WALK: the Go text returns true, AND WRITES NOTHING THAT WAS THERE: 'Below w.heap.size w w'' (Derived/Below.lean: '.refl', '.alloc', '.drew', '.setCell' at a new block, '.trans'). Open each 'IsRow' by 'rcases' AHEAD of 'go_enter'; part every test ahead of the walk. -/
set_option maxHeartbeats 6400000 in
set_option maxRecDepth 100000 in
theorem walk (a0 : Int) (a1 : Option Addr) (len1 cap1 : Nat) (z1 : List Int) (w : World) (w0 : (Lit.int .i32 a0).wf = true) (w1 : IsRow .i32 w a1 len1 cap1 z1) (hT : Tab w) :
    Calls Tryd.prog 7 #[.int .i32 a0, .slice a1 len1 cap1] w fun e w' => e = .returned (.bool true) ∧ Below w.heap.size w w' := by
  obtain ⟨⟨xs, hX⟩, hcap1, hmax1⟩ := elems_of_row w1
  obtain ⟨t1, t2⟩ := wf32 w0
  clear w0 w1
  by_cases c0 : 200 < len1
  · have c0' : (200 : Int) < (len1 : Int) := by omega
    go_enter Tryd.func7, Tryd.ntmps7
    go_wp2_with fail
    refine (awake _ hT).mono ?_
    rintro e wa ⟨rfl, hb1⟩
    have hT1 := hT.below hb1
    clear hT
    go_wp2_with fail
    refine (awake _ hT1).mono ?_
    rintro e wb ⟨rfl, hb2⟩
    clear hT1
    go_wp2
    go_ret
    exact ⟨rfl, below_two hb1 hb2⟩
  · have c0' : ¬ (200 : Int) < (len1 : Int) := by omega
    go_enter Tryd.func7, Tryd.ntmps7
    go_wp2_with fail
    refine (awake _ hT).mono ?_
    rintro e wa ⟨rfl, hb1⟩
    have hX1 := hX.below hb1
    clear hX hT
    go_wp2_with fail
    refine (shares a0 a1 len1 cap1 xs _ hX1 (by omega) t1 t2).mono ?_
    rintro e wb ⟨g, rfl, hE, hb2⟩
    have hX2 := hX1.below hb2
    have hbb := below_two hb1 hb2
    have hl := hX2.1
    have hx : ∀ x ∈ xs, x ≤ 2147483647 := fun x hm => (wf32 (hX2.2.2.1 x hm)).2
    have HX := Lib.hid hx
    have HL := Lib.hid hl
    clear hX1 hb1 hb2 hl hx
    go_wp2
    go_loopw [6, 7, 8] (fun s c i wr => ∃ (k d : Nat) (q m : Int), k ≤ len1 ∧ i = .int .i64 k ∧ s = .int .i64 q ∧ c = .int .i64 m ∧ Hid (q = ssum a0 (tot xs) (xs.take k)) ∧ Hid (m = cnt (xs.take k)) ∧ 0 ≤ q ∧ q ≤ k * 2147483647 ∧ 0 ≤ m ∧ m ≤ k ∧ wr = wb.drewN d) (fun _ _ i _ => len1 - (intOf i).toNat)
    case atStart => exact ⟨0, 0, 0, 0, by omega, rfl, rfl, rfl, Lib.hid (by simp [ssum]), Lib.hid (by simp [cnt]), by omega, by omega, by omega, by omega, rfl⟩
    case round =>
      obtain ⟨k, d, q, m, hk, rfl, rfl, rfl, hq, hm, q0, q1, m0, m1, rfl⟩ := hrel
      by_cases hlt : k < len1
      · obtain ⟨b, off, v, rfl, hc, hv, wv⟩ := hX2.at_ hlt
        obtain ⟨v1, v2⟩ := wf32 wv
        have hcell : ∀ j, j < len1 → wb.cell? ⟨g, j, none⟩ = some (.int .i32 (share a0 (tot xs) (xs.getD j 0))) := fun j hj => by
          obtain ⟨b', off', u, he, hc', hu, wu⟩ := hE.at_ hj
          simp only [Option.some.injEq, Addr.mk.injEq] at he
          obtain ⟨rfl, rfl, _⟩ := he
          rw [Nat.zero_add] at hc'
          rw [hc', ← hu.out]
          have hl := HL.out
          simp [List.getD, List.getElem?_map, List.getElem?_eq_getElem (show j < xs.length by omega)]
        have hs := hcell k hlt
        have hmem : v ∈ xs := by rw [← hv.out]; exact getD_mem (by rw [HL.out]; exact hlt)
        obtain ⟨s0, s1⟩ := share_bd2 (t := a0) HX.out hmem t2
        rw [hv.out] at hs
        have hq2 : Hid (q + share a0 (tot xs) v = ssum a0 (tot xs) (xs.take (k + 1))) := Lib.hid (by rw [ssum_step _ _ _ k (by rw [HL.out]; exact hlt), hq.out, hv.out])
        have hm2 : Hid (m + (if 0 < v then 1 else 0) = cnt (xs.take (k + 1))) := Lib.hid (by rw [cnt_step _ k (by rw [HL.out]; exact hlt), hm.out, hv.out])
        have hno := share_none (t := a0) (S := tot xs) (x := v)
        have hprev : ∀ j y, k = j + 1 → wb.cell? ⟨b, off + j, none⟩ = some (.int .i32 y) → wb.cell? ⟨g, j, none⟩ = some (.int .i32 (share a0 (tot xs) y)) := fun j y hj hc2 => by
          rw [hcell j (by omega)]
          obtain ⟨b', off', u, he, hc', hu, wu⟩ := hX2.at_ (show j < len1 by omega)
          simp only [Option.some.injEq, Addr.mk.injEq] at he
          obtain ⟨rfl, rfl, _⟩ := he
          rw [hc2] at hc'
          obtain rfl : y = u := by simpa using hc'
          rw [hu.out]
        have hgot : ∀ j, k = j + 1 → ∃ y, wb.cell? ⟨b, off + j, none⟩ = some (.int .i32 y) := fun j hj => by
          obtain ⟨b', off', u, he, hc', hu, wu⟩ := hX2.at_ (show j < len1 by omega)
          simp only [Option.some.injEq, Addr.mk.injEq] at he
          obtain ⟨rfl, rfl, _⟩ := he
          exact ⟨u, hc'⟩
        clear hv wv hX2 hE hq hm hmem hcell
        by_cases hp : 0 < v
        · rw [if_pos hp] at hm2
          have hp3 : decide (v ≤ 0) = false := by simp; omega
          clear hno
          obtain ⟨s, hse⟩ : ∃ s, share a0 (tot xs) v = s := ⟨_, rfl⟩
          rw [hse] at hs s0 s1 hq2
          have hs3 : decide (s < 0) = false := by simp; omega
          rcases Nat.eq_zero_or_pos k with hz | hz
          · subst hz
            rw [Nat.add_zero] at hc
            clear hprev hgot hse
            go_wp2
            go_quiet (fail)
            go_wp2
            go_roundw
            case rel => exact ⟨0 + 1, _, q + s, m + 1, by omega, by go_num, rfl, rfl, hq2, hm2, by omega, by push_cast; omega, by omega, by push_cast; omega, rfl⟩
            case measure => simp [intOf]; omega
          · obtain ⟨j, hkj⟩ : ∃ j, k = j + 1 := ⟨k - 1, by omega⟩
            obtain ⟨y, hy⟩ := hgot j hkj
            have hr := hprev j y hkj hy
            have hj1 : (k : Int) - 1 = (j : Int) := by omega
            have hj2 : j < len1 := by omega
            have hj3 : (0 : Int) < (k : Int) := by omega
            have HK := Lib.hid hkj
            clear hprev hgot hkj
            by_cases hvy : v = y
            · subst hvy
              rw [hse] at hr
              clear hse
              go_wp2
              go_quiet (fail)
              go_wp2
              go_roundw
              case rel => exact ⟨k + 1, _, q + s, m + 1, by omega, by go_num, rfl, rfl, hq2, hm2, by omega, by push_cast; omega, by omega, by push_cast; omega, rfl⟩
              case measure => simp [intOf]; omega
            · have hvy' : (v == y) = false := by simpa using hvy
              clear hse
              go_wp2
              go_quiet (fail)
              go_wp2
              go_roundw
              case rel => exact ⟨k + 1, _, q + s, m + 1, by omega, by go_num, rfl, rfl, hq2, hm2, by omega, by push_cast; omega, by omega, by push_cast; omega, rfl⟩
              case measure => simp [intOf]; omega
        · rw [if_neg hp, Int.add_zero] at hm2
          have hse := hno hp
          rw [hse] at hs s0 s1 hq2
          rw [Int.add_zero] at hq2
          clear hno
          rcases Nat.eq_zero_or_pos k with hz | hz
          · subst hz
            rw [Nat.add_zero] at hc
            clear hprev hgot hse
            go_wp2
            go_quiet (fail)
            go_wp2
            go_roundw
            case rel => exact ⟨0 + 1, _, q, m, by omega, by go_num, by go_num, rfl, hq2, hm2, by omega, by push_cast; omega, by omega, by push_cast; omega, rfl⟩
            case measure => simp [intOf]; omega
          · obtain ⟨j, hkj⟩ : ∃ j, k = j + 1 := ⟨k - 1, by omega⟩
            obtain ⟨y, hy⟩ := hgot j hkj
            have hr := hprev j y hkj hy
            have hj1 : (k : Int) - 1 = (j : Int) := by omega
            have hj2 : j < len1 := by omega
            have hj3 : (0 : Int) < (k : Int) := by omega
            have HK := Lib.hid hkj
            clear hprev hgot hkj
            by_cases hvy : v = y
            · subst hvy
              rw [hse] at hr
              clear hse
              go_wp2
              go_quiet (fail)
              go_wp2
              go_roundw
              case rel => exact ⟨k + 1, _, q, m, by omega, by go_num, by go_num, rfl, hq2, hm2, by omega, by push_cast; omega, by omega, by push_cast; omega, rfl⟩
              case measure => simp [intOf]; omega
            · have hvy' : (v == y) = false := by simpa using hvy
              clear hse
              go_wp2
              go_quiet (fail)
              go_wp2
              go_roundw
              case rel => exact ⟨k + 1, _, q, m, by omega, by go_num, by go_num, rfl, hq2, hm2, by omega, by push_cast; omega, by omega, by push_cast; omega, rfl⟩
              case measure => simp [intOf]; omega
      · obtain rfl : k = len1 := by omega
        have hq' : q = ssum a0 (tot xs) xs := by rw [hq.out, List.take_of_length_le (by rw [HL.out]; omega)]
        have hm' : m = cnt xs := by rw [hm.out, List.take_of_length_le (by rw [HL.out]; omega)]
        clear hX2 hE hq hm
        by_cases d0 : m = 0
        · obtain rfl : q = 0 := by rw [hq']; exact ssum_zero (.inl (cnt_none (by rw [← hm', d0]))) xs
          have d0' : (m == 0) = true := by simpa using d0
          clear hq' hm' d0
          go_wp2
          go_ret
          exact ⟨rfl, below_drewN hbb _⟩
        · have d0' : (m == 0) = false := by simpa using d0
          by_cases d1 : a0 ≤ 0
          · obtain rfl : q = 0 := by rw [hq']; exact ssum_zero (by omega) xs
            clear hq' hm'
            go_wp2
            go_ret
            exact ⟨rfl, below_drewN hbb _⟩
          · obtain ⟨f1, f2⟩ := whole (t := a0) HX.out (by omega) (by rw [← hm']; omega)
            rw [← hq'] at f1 f2
            rw [← hm'] at f2
            clear hq' hm'
            go_wp2
            go_ret
            exact ⟨rfl, below_drewN hbb _⟩

/-! ### THE ROW's STEP: WRITTEN OUT: LEAVE IT -/
set_option maxRecDepth 100000 in
theorem lifted (os : Os) (started : os.Started) (H : Type) (enc : TypeId × Value → H) :
    ReturnsInHanded {} Tryd.checked os 7 .any (fun w args => (Rows.curveWholeSpec.pre enc Tryd.prog Tryd.f7 [] false w args ∧ laidMetH Tryd.prog laidList w) ∧ sizedMet enc Tryd.prog Tryd.f7 (OpenSpec.ofChange Rows.curveWholeSpec) false w args) (Rows.curveWholeSpec.post enc Tryd.prog Tryd.f7 false true false false) := by
  refine returnsInHanded_of_change_and (C := Tryd.checked) (X := fun w _ => laidMetH Tryd.prog laidList w) (fun _ _ _ hh h => h.of_heap hh) own started (by kernel_rfl) Tryd.func7
    (ChangeSpec.witness_shaped (enc := enc) (C := Tryd.checked) (os := os) (X := fun w _ => laidMetH Tryd.prog laidList w) false (World.doorLaid Tryd.prog 400 os) #[.int .i32 0, .slice none 0 0] 8 rfl (World.shaped_of_RefB (by kernel_rfl) (by kernel_rfl)) (by kernel_rfl) (by kernel_rfl) (by kernel_rfl) (door_met os _)) ?_
  intro W base args ds gs before hval0 hW _ _ hL _
  have hval : ∀ (j : Nat) t v, Tryd.f7.params[j]? = some t → args[j]? = some v → Value.okWide Tryd.prog W .any base t v := hval0
  have hW' := hW
  obtain ⟨p, q, hA0, hV, rfl, hfz, hnd⟩ := hW
  have hA : DataW.TrodAll enc Tryd.prog W 0 (fun _ => true) true Tryd.f7.params.toList args.toList ds p := hA0
  rw [Tryd.params7] at hA hval
  obtain ⟨v0, vs0, d0, ds0, p0, q0, hargs, rfl, rfl, h0, r0⟩ := trodAll_cons hA
  obtain ⟨v1, vs1, d1, ds1, p1, q1, rfl, rfl, rfl, h1, r1⟩ := trodAll_cons r0
  obtain ⟨rfl, rfl, rfl⟩ := trodAll_nil r1
  obtain rfl : args = #[v0, v1] := by cases args; simp_all
  obtain ⟨rfl, rfl⟩ := trodVars_none hV
  obtain ⟨a0, rfl, rfl, rfl, w0⟩ := open_int Tryd.underlying21 (hval 0 21 v0 rfl rfl) h0
  obtain ⟨a1, len1, cap1, rfl⟩ := okWide_slice Tryd.underlying24 (hval 1 24 v1 rfl rfl)
  have k1 := h1
  have lt1 : ∀ x ∈ p1, x.block < W.heap.size := by obtain ⟨m, hm⟩ := k1; exact DataW.trod_lt m _ _ _ hm
  obtain ⟨z1, w1⟩ : ∃ zs, IsRow .i32 W a1 len1 cap1 zs := by
    obtain ⟨fuel, hf⟩ := h1
    rcases open_ints Tryd.underlying24 Tryd.underlying21 (by kernel_rfl) hf with ⟨hcs, _⟩ | ⟨x, l, c, zs, hcs, _, hl, hm, hz, _, hcell, hwz⟩
    · simp [Value.cells] at hcs
      obtain ⟨rfl, rfl, rfl⟩ := hcs
      exact ⟨[], .inl ⟨rfl, rfl, rfl, rfl⟩⟩
    · simp [Value.cells] at hcs
      obtain ⟨rfl, rfl, rfl⟩ := hcs
      exact ⟨zs, .inr ⟨_, rfl, hl, hm, by simpa using hz, hcell, hwz⟩⟩
  clear hA0 hval0
  have hT := tab_of_laid hL
  refine (walk a0 a1 len1 cap1 z1 W w0 w1 hT).mono fun e W' ⟨he, bel⟩ => ?_
  subst he
  exact ⟨_, rfl, _, _, _, [], _, [], hW', trodAll_mk1 (shut_bool Tryd.underlying4 _), (trodAll_cons_mk (shut_int Tryd.underlying21 w0) (trodAll_cons_mk (Below.trod laidOut (by kernel_rfl) (of_decide_eq_true (by kernel_rfl)) k1 bel lt1) trodAll_mk0)), rfl, bel.frame _, fun h => by cases h⟩

theorem over : Rows.curveWholeRow.holds Tryd.pinned (OpenSpec.ofChange Rows.curveWholeSpec) :=
  OpenClaim.holds_of_wide 7 Tryd.f7 rfl rfl rfl rfl rfl rfl rfl ⟨rfl, rfl, rfl, rfl, rfl⟩ rfl rfl rfl rfl rfl (by kernel_rfl) Tryd.func7 (by kernel_rfl)
    (of_decide_eq_true (by kernel_rfl)) (by unfold Func.isWrapper; first | (rw [if_pos (by decide +kernel)]; kernel_rfl) | (rw [if_neg (by decide +kernel)]; exact ⟨rfl, rfl⟩))
    (fun os started H enc _ => lifted os started H enc)

/-- the row's statement -/
theorem said : Rows.CurveWholeSaid := over

/-- THE STATEMENT: the tied card -/
theorem proved : Rows.CurveWholeCardSaid :=
  Claim7.holds_tied_plain_at .later [] [.data] true (true, "4bf39e601c0bef885d605a565528bdf0db9fce48cf7e75ebb9db6c5d31bef3df") false
    said (fun _ h => by cases h) (by kernel_rfl) (fun _ h => by cases h) curveWhole_row_tie rfl ⟨rfl, rfl⟩ (by kernel_rfl) rfl
    (fun f fn hf hfn => by
      obtain rfl : f = 7 := Option.some.inj ((show Tryd.prog.funcNamed "peloton/pelotonlaw02.CurveWhole" = some 7 by kernel_rfl).symm.trans hf) |>.symm
      obtain rfl : fn = Tryd.f7 := (Option.some.inj (Tryd.func7.symm.trans hfn)).symm
      exact ⟨by kernel_rfl, fun j t ht => by
        rw [Tryd.params7] at ht
        have hm : t ∈ [21, 24] := by simpa using Array.mem_of_getElem? ht
        have hall : ([21, 24].all fun u => !Tryd.prog.wantsStandIn u) = true := by kernel_rfl
        exact (show Tryd.prog.wantsStandIn t = false by simpa using List.all_eq_true.1 hall t hm)⟩)
    (by kernel_rfl)
#print axioms proved
end Go.Proofs.YthoknlpfnmjipaaDoor.curveWhole
