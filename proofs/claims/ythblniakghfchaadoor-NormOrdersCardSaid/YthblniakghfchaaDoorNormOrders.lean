/-
  Proved: for every scale and every row NormOrders returns true (softmax weights are never below 0, together never more than the whole and less by fewer than how many they are, and a greater number has no smaller weight) and nothing that was in memory turns. Conditions: the table reads as the program's initialisers lay it (tied by the card).
-/
import Derived.Test.YthblniakghfchaaDoorRows
import Derived.WalkKit
import Derived.ProofKit
import Derived.OpenShut
import Derived.ShutString
import Derived.ChangeOld
import Derived.Below
import Derived.Test.YthblniakghfchaaDoorLaid
import Derived.Test.YthblniakghfchaaDoorTie
import Derived.Test.YthblniakghfchaaDoorCards
import Derived.SevenTiedAt
import Derived.Test.YthblniakghfchaaDoorAwake5
import Derived.Test.YthblniakghfchaaDoorSoftMath
import Derived.Test.YthblniakghfchaaDoorRwRow
import Derived.Deep.QuietTactic
import Derived.BigQuiet
namespace Go.Proofs.YthblniakghfchaaDoor.normOrders
open Go.ChangeShapes Go.WideShapes Go.ChangeAt Go.RowKit
open Go.ChangeMaps (open_string shut_string)
set_option linter.unusedVariables false

theorem own : ownKnob Tryd.prog.godebug = none := by kernel_rfl
theorem laidOut : laidOutB Tryd.prog = true := by kernel_rfl

/-- WHAT THE WALK IS TOLD OF A SLICE OF INTEGERS THAT CAME IN: it is nil; or it leads to a row of 'cap' cells, the numbers 'zs' (the first 'len' are its elements, the rest its spare room), each fitting its kind. -/
def IsRow (k : IntKind) (w : World) (a : Option Addr) (len cap : Nat) (zs : List Int) : Prop :=
  (a = none ∧ len = 0 ∧ cap = 0 ∧ zs = []) ∨
  ∃ x, a = some x ∧ len ≤ cap ∧ cap ≤ maxLen ∧ zs.length = cap ∧ (∀ i, i < zs.length → w.cell? (x.add i) = some (.int k (zs.getD i 0))) ∧ ∀ n ∈ zs, (Lit.int k n).wf = true

/-! ### STEP 1: THE WALK: the Go text returns true, AND WRITES NOTHING THAT WAS THERE: 'Below w.heap.size w w'' (Derived/Below.lean: '.refl', '.alloc', '.drew', '.setCell' at a new block, '.trans'). Open each 'IsRow' by 'rcases' AHEAD of 'go_enter'; part every test ahead of the walk. -/
set_option maxHeartbeats 6400000 in
set_option maxRecDepth 100000 in
theorem walk (a0 : Int) (a1 : Int) (a2 : Option Addr) (len2 cap2 : Nat) (z2 : List Int) (w : World) (w0 : (Lit.int .i32 a0).wf = true) (w1 : (Lit.int .i64 a1).wf = true) (w2 : IsRow .i32 w a2 len2 cap2 z2) (hT : Tab w) :
    Calls Tryd.prog 6 #[.int .i32 a0, .int .i64 a1, .slice a2 len2 cap2] w fun e w' => e = .returned (.bool true) ∧ Below w.heap.size w w' := by
  obtain ⟨⟨xs, hX⟩, hcap2, hmax2⟩ := elems_of_row w2
  obtain ⟨b1, b2⟩ := wf32 w0
  clear w0 w2
  by_cases c0 : 200 < len2
  · have c0' : (200 : Int) < (len2 : Int) := by omega
    go_enter Tryd.func6, Tryd.ntmps6
    go_wp2_with fail
    refine (awake5 _ hT).mono ?_
    rintro e wa ⟨rfl, hb1⟩
    have hT1 := hT.below hb1
    clear hT
    go_wp2_with fail
    refine (awake5 _ hT1).mono ?_
    rintro e wb ⟨rfl, hb2⟩
    clear hT1
    go_wp2
    go_ret
    exact ⟨rfl, below_two hb1 hb2⟩
  · have c0' : ¬ (200 : Int) < (len2 : Int) := by omega
    by_cases c1 : a0 < 0
    · go_enter Tryd.func6, Tryd.ntmps6
      go_wp2_with fail
      refine (awake5 _ hT).mono ?_
      rintro e wa ⟨rfl, hb1⟩
      have hT1 := hT.below hb1
      clear hT
      go_wp2_with fail
      refine (awake5 _ hT1).mono ?_
      rintro e wb ⟨rfl, hb2⟩
      clear hT1
      go_wp2
      go_ret
      exact ⟨rfl, below_two hb1 hb2⟩
    · obtain ⟨m, hm⟩ : ∃ m, 0 < len2 → IsTop xs m := by
        by_cases h0 : len2 = 0
        · exact ⟨0, fun h => by omega⟩
        · obtain ⟨m, hm⟩ := top_ex hX.1 (by omega)
          exact ⟨m, fun _ => hm⟩
      have HM := Lib.hid hm
      have HL := Lib.hid hX.1
      clear hm
      go_enter Tryd.func6, Tryd.ntmps6
      go_wp2_with fail
      refine (awake5 _ hT).mono ?_
      rintro e wa ⟨rfl, hb1⟩
      have hX1 := hX.below hb1
      have hT1 := hT.below hb1
      clear hX hT
      go_wp2_with fail
      refine (softmax_any a0 a1 m a2 len2 cap2 xs wa hX1 (by omega) b1 b2 HM.out hT1).mono ?_
      rintro e wb ⟨⟨g, gc, rfl, hE⟩, hb2⟩
      have hX2 := hX1.below hb2
      have hbb := below_two hb1 hb2
      have HO : Hid (∀ i k, i < len2 → k < len2 → xs.getD k 0 ≤ xs.getD i 0 → (soft a0 a1 m xs).getD k 0 ≤ (soft a0 a1 m xs).getD i 0) := Lib.hid (fun i k hi hk h => soft_mono (by omega) (by rw [HL.out]; exact hi) (by rw [HL.out]; exact hk) h)
      have HB := Lib.hid (soft_bd a0 a1 m xs)
      have HS : Hid (0 < len2 → (soft a0 a1 m xs).sum ≤ 65536 ∧ 65536 - (len2 : Int) < (soft a0 a1 m xs).sum) := Lib.hid (fun h => by have := soft_sum (b := a0) (s := a1) (HM.out h); rwa [HL.out] at this)
      have HWL : Hid ((soft a0 a1 m xs).length = len2) := Lib.hid hE.1
      generalize soft a0 a1 m xs = ws at hE HO HB HS HWL
      have hnn : ((len2 : Int) != (len2 : Int)) = false := by simp
      clear hX1 hT1 hb1 hb2 HM
      go_wp2
      clear hnn
      go_loopw [8, 9] (fun s i wr => ∃ (k d : Nat) (q : Int), k ≤ len2 ∧ i = .int .i64 k ∧ s = .int .i64 q ∧ Hid (q = (ws.take k).sum) ∧ 0 ≤ q ∧ q ≤ k * 2147483647 ∧ wr = wb.drewN d) (fun _ i _ => len2 - (intOf i).toNat)
      case atStart => exact ⟨0, 0, 0, by omega, rfl, rfl, Lib.hid (by simp), by omega, by omega, rfl⟩
      case round =>
        obtain ⟨k, d, q, hk, rfl, rfl, hq, q0, q1, rfl⟩ := hrel
        by_cases hlt : k < len2
        · obtain ⟨bx, ox, v, rfl, hc, hv, wv⟩ := hX2.at_ hlt
          obtain ⟨bw, ow, p, rfl, hc2, hp, wp⟩ := hE.at_ hlt
          have hpm : p ∈ ws := by rw [← hp.out]; exact getD_mem (by rw [HWL.out]; exact hlt)
          obtain ⟨p0, p1⟩ := HB.out p hpm
          have hq2 : Hid (q + p = (ws.take (k + 1)).sum) := Lib.hid (by rw [sum_step ws k (by rw [HWL.out]; exact hlt), hq.out, hp.out])
          clear hpm wv wp hq
          go_wp2
          go_loopw [10] (fun i wr => ∃ (j e : Nat), j ≤ k ∧ i = .int .i64 j ∧ wr = wb.drewN e) (fun i _ => k - (intOf i).toNat)
          case atStart => exact ⟨0, d, by omega, rfl, rfl⟩
          case round =>
            obtain ⟨j, e, hj, rfl, rfl⟩ := hrel
            by_cases hlt2 : j < k
            · obtain ⟨bx', ox', u, he, hc3, hu, wu⟩ := hX2.at_ (i := j) (by omega)
              cases he
              obtain ⟨bw', ow', r, he, hc4, hr, wr'⟩ := hE.at_ (i := j) (by omega)
              cases he
              have o1 := HO.out k j hlt (by omega)
              have o2 := HO.out j k (by omega) hlt
              rw [hv.out, hu.out, hp.out, hr.out] at o1 o2
              have hj2 : j < len2 := by omega
              clear hv hu hp hr wu wr' hX2 hE hq2
              rcases Int.lt_trichotomy u v with h | h | h
              · have t1 : decide (v < u) = false := by simp; omega
                have t2 : decide (r > p) = false := by have := o1 (by omega); simp; omega
                have t3 : (u == v) = false := by simp; omega
                have t2' : decide (p < r) = false := by have := o1 (by omega); simp; omega
                clear o1 o2
                go_wp2
                go_quiet (fail)
                go_wp2
                go_roundw
                case rel => exact ⟨j + 1, _, by omega, by go_num, rfl⟩
                case measure => simp [intOf]; omega
              · subst h
                obtain rfl : r = p := by have := o1 (by omega); have := o2 (by omega); omega
                have t1 : decide (u < u) = false := by simp
                have t3 : (u == u) = true := by simp
                have t4 : (r != r) = false := by simp
                clear o1 o2
                go_wp2
                go_quiet (fail)
                go_wp2
                go_roundw
                case rel => exact ⟨j + 1, _, by omega, by go_num, rfl⟩
                case measure => simp [intOf]; omega
              · have t1 : decide (u < v) = false := by simp; omega
                have t2 : decide (r < p) = false := by have := o2 (by omega); simp; omega
                have t3 : (u == v) = false := by simp; omega
                clear o1 o2
                go_wp2
                go_quiet (fail)
                go_wp2
                go_roundw
                case rel => exact ⟨j + 1, _, by omega, by go_num, rfl⟩
                case measure => simp [intOf]; omega
            · obtain rfl : j = k := by omega
              clear hv hp hc hc2
              go_wp2
              go_roundw
              case rel => exact ⟨j + 1, e, q + p, by omega, by go_num, by go_num, hq2, by omega, by push_cast; omega, rfl⟩
              case measure => simp [intOf]; omega
        · obtain rfl : k = len2 := by omega
          have hqs : q = ws.sum := by rw [hq.out, List.take_of_length_le (by rw [HWL.out]; omega)]
          by_cases h0 : k = 0
          · subst h0
            obtain rfl : q = 0 := by rw [hqs, List.length_eq_zero_iff.1 HWL.out]; rfl
            clear hX2 hE hq hqs
            go_wp2
            go_ret
            exact ⟨rfl, below_drewN hbb _⟩
          · obtain ⟨s1, s2⟩ := HS.out (by omega)
            rw [← hqs] at s1 s2
            have hz : ((k : Int) == 0) = false := by simp; omega
            clear hX2 hE hq hqs
            go_wp2
            go_ret
            exact ⟨rfl, below_drewN hbb _⟩

/-! ### THE ROW's STEP: WRITTEN OUT: LEAVE IT -/
set_option maxRecDepth 100000 in
theorem lifted (os : Os) (started : os.Started) (H : Type) (enc : TypeId × Value → H) :
    ReturnsInHanded {} Tryd.checked os 6 .any (fun w args => (Rows.normOrdersSpec.pre enc Tryd.prog Tryd.f6 [] false w args ∧ laidMetH Tryd.prog laidList w) ∧ sizedMet enc Tryd.prog Tryd.f6 (OpenSpec.ofChange Rows.normOrdersSpec) false w args) (Rows.normOrdersSpec.post enc Tryd.prog Tryd.f6 false true false false) := by
  refine returnsInHanded_of_change_and (C := Tryd.checked) (X := fun w _ => laidMetH Tryd.prog laidList w) (fun _ _ _ hh h => h.of_heap hh) own started (by kernel_rfl) Tryd.func6
    (ChangeSpec.witness_shaped (enc := enc) (C := Tryd.checked) (os := os) (X := fun w _ => laidMetH Tryd.prog laidList w) false (World.doorLaid Tryd.prog 400 os) #[.int .i32 0, .int .i64 0, .slice none 0 0] 8 rfl (World.shaped_of_RefB (by kernel_rfl) (by kernel_rfl)) (by kernel_rfl) (by kernel_rfl) (by kernel_rfl) (door_met os _)) ?_
  intro W base args ds gs before hval0 hW _ _ hL _
  have hval : ∀ (j : Nat) t v, Tryd.f6.params[j]? = some t → args[j]? = some v → Value.okWide Tryd.prog W .any base t v := hval0
  have hW' := hW
  obtain ⟨p, q, hA0, hV, rfl, hfz, hnd⟩ := hW
  have hA : DataW.TrodAll enc Tryd.prog W 0 (fun _ => true) true Tryd.f6.params.toList args.toList ds p := hA0
  rw [Tryd.params6] at hA hval
  obtain ⟨v0, vs0, d0, ds0, p0, q0, hargs, rfl, rfl, h0, r0⟩ := trodAll_cons hA
  obtain ⟨v1, vs1, d1, ds1, p1, q1, rfl, rfl, rfl, h1, r1⟩ := trodAll_cons r0
  obtain ⟨v2, vs2, d2, ds2, p2, q2, rfl, rfl, rfl, h2, r2⟩ := trodAll_cons r1
  obtain ⟨rfl, rfl, rfl⟩ := trodAll_nil r2
  obtain rfl : args = #[v0, v1, v2] := by cases args; simp_all
  obtain ⟨rfl, rfl⟩ := trodVars_none hV
  obtain ⟨a0, rfl, rfl, rfl, w0⟩ := open_int Tryd.underlying21 (hval 0 21 v0 rfl rfl) h0
  obtain ⟨a1, rfl, rfl, rfl, w1⟩ := open_int Tryd.underlying3 (hval 1 3 v1 rfl rfl) h1
  obtain ⟨a2, len2, cap2, rfl⟩ := okWide_slice Tryd.underlying23 (hval 2 23 v2 rfl rfl)
  have k2 := h2
  have lt2 : ∀ x ∈ p2, x.block < W.heap.size := by obtain ⟨m, hm⟩ := k2; exact DataW.trod_lt m _ _ _ hm
  obtain ⟨z2, w2⟩ : ∃ zs, IsRow .i32 W a2 len2 cap2 zs := by
    obtain ⟨fuel, hf⟩ := h2
    rcases open_ints Tryd.underlying23 Tryd.underlying21 (by kernel_rfl) hf with ⟨hcs, _⟩ | ⟨x, l, c, zs, hcs, _, hl, hm, hz, _, hcell, hwz⟩
    · simp [Value.cells] at hcs
      obtain ⟨rfl, rfl, rfl⟩ := hcs
      exact ⟨[], .inl ⟨rfl, rfl, rfl, rfl⟩⟩
    · simp [Value.cells] at hcs
      obtain ⟨rfl, rfl, rfl⟩ := hcs
      exact ⟨zs, .inr ⟨_, rfl, hl, hm, by simpa using hz, hcell, hwz⟩⟩
  clear hA0 hval0
  have hT := tab_of_laid hL
  refine (walk a0 a1 a2 len2 cap2 z2 W w0 w1 w2 hT).mono fun e W' ⟨he, bel⟩ => ?_
  subst he
  exact ⟨_, rfl, _, _, _, [], _, [], hW', trodAll_mk1 (shut_bool Tryd.underlying4 _), (trodAll_cons_mk (shut_int Tryd.underlying21 w0) (trodAll_cons_mk (shut_int Tryd.underlying3 w1) (trodAll_cons_mk (Below.trod laidOut (by kernel_rfl) (of_decide_eq_true (by kernel_rfl)) k2 bel lt2) trodAll_mk0))), rfl, bel.frame _, fun h => by cases h⟩

theorem over : Rows.normOrdersRow.holds Tryd.pinned (OpenSpec.ofChange Rows.normOrdersSpec) :=
  OpenClaim.holds_of_wide 6 Tryd.f6 rfl rfl rfl rfl rfl rfl rfl ⟨rfl, rfl, rfl, rfl, rfl⟩ rfl rfl rfl rfl rfl (by kernel_rfl) Tryd.func6 (by kernel_rfl)
    (of_decide_eq_true (by kernel_rfl)) (by unfold Func.isWrapper; first | (rw [if_pos (by decide +kernel)]; kernel_rfl) | (rw [if_neg (by decide +kernel)]; exact ⟨rfl, rfl⟩))
    (fun os started H enc _ => lifted os started H enc)

/-- the row's statement -/
theorem said : Rows.NormOrdersSaid := over

/-- THE STATEMENT: the tied card -/
theorem proved : Rows.NormOrdersCardSaid :=
  Claim7.holds_tied_plain_at .later [] [.data] true (true, "d25234ddf6c27c6edf394e90a076e1636ca57c252689c4c3bbb1e2edf7642b21") false
    said (fun _ h => by cases h) (by kernel_rfl) (fun _ h => by cases h) normOrders_row_tie rfl ⟨rfl, rfl⟩ (by kernel_rfl) rfl
    (fun f fn hf hfn => by
      obtain rfl : f = 6 := Option.some.inj ((show Tryd.prog.funcNamed "peloton/pelotonlaw05.NormOrders" = some 6 by kernel_rfl).symm.trans hf) |>.symm
      obtain rfl : fn = Tryd.f6 := (Option.some.inj (Tryd.func6.symm.trans hfn)).symm
      exact ⟨by kernel_rfl, fun j t ht => by
        rw [Tryd.params6] at ht
        have hm : t ∈ [21, 3, 23] := by simpa using Array.mem_of_getElem? ht
        have hall : ([21, 3, 23].all fun u => !Tryd.prog.wantsStandIn u) = true := by kernel_rfl
        exact (show Tryd.prog.wantsStandIn t = false by simpa using List.all_eq_true.1 hall t hm)⟩)
    (by kernel_rfl)
#print axioms proved
end Go.Proofs.YthblniakghfchaaDoor.normOrders
