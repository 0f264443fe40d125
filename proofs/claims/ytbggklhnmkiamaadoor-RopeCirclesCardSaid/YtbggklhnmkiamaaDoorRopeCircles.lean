/-
  Proved: for every step and row RopeCircles returns true (sine and cosine lie near the circle, a turn more changes nothing, the other way is the other way, at place 0 nothing is turned) and nothing that was in memory turns. Conditions: the table reads as the program's initialisers lay it (tied by the card).
-/
import Derived.Test.YtbggklhnmkiamaaDoorRows
import Derived.WalkKit
import Derived.ProofKit
import Derived.OpenShut
import Derived.ShutString
import Derived.ChangeOld
import Derived.Below
import Derived.Test.YtbggklhnmkiamaaDoorLaid6
import Derived.Test.YtbggklhnmkiamaaDoorTie
import Derived.Test.YtbggklhnmkiamaaDoorCards
import Derived.SevenTiedAt
import Derived.Test.YtbggklhnmkiamaaDoorAwake6
import Derived.Test.YtbggklhnmkiamaaDoorCircle
import Derived.Test.YtbggklhnmkiamaaDoorTurnZero
import Derived.Test.YtbggklhnmkiamaaDoorRwRow
import Derived.Deep.CutRange
namespace Go.Proofs.YtbggklhnmkiamaaDoor.ropeCircles
open Go.ChangeShapes Go.WideShapes Go.ChangeAt Go.RowKit
open Go.ChangeMaps (open_string shut_string)
set_option linter.unusedVariables false

theorem own : ownKnob Tryd.prog.godebug = none := by kernel_rfl
theorem laidOut : laidOutB Tryd.prog = true := by kernel_rfl

/-- WHAT THE WALK IS TOLD OF A SLICE OF INTEGERS THAT CAME IN: it is nil; or it leads to a row of 'cap' cells, the numbers 'zs' (the first 'len' are its elements, the rest its spare room), each fitting its kind. -/
def IsRow (k : IntKind) (w : World) (a : Option Addr) (len cap : Nat) (zs : List Int) : Prop :=
  (a = none ∧ len = 0 ∧ cap = 0 ∧ zs = []) ∨
  ∃ x, a = some x ∧ len ≤ cap ∧ cap ≤ maxLen ∧ zs.length = cap ∧ (∀ i, i < zs.length → w.cell? (x.add i) = some (.int k (zs.getD i 0))) ∧ ∀ n ∈ zs, (Lit.int k n).wf = true

/-! ### STEP 1: THE WALK: the Go text returns true, AND WRITES NOTHING THAT WAS THERE: 'Below w.heap.size w w'' (Derived/Below.lean: '.refl', '.alloc', '.drew', '.setCell' at a new block, '.trans'). Open each 'IsRow' by 'rcases' AHEAD of 'go_enter'; part every test ahead of the walk. -/
set_option maxHeartbeats 3200000 in
set_option maxRecDepth 100000 in
theorem walk (a0 : Int) (a1 : Option Addr) (len1 cap1 : Nat) (z1 : List Int) (w : World) (w0 : (Lit.int .i64 a0).wf = true) (w1 : IsRow .i8 w a1 len1 cap1 z1) (hT : STab w) :
    Calls Tryd.prog 6 #[.int .i64 a0, .slice a1 len1 cap1] w fun e w' => e = .returned (.bool true) ∧ Below w.heap.size w w' := by
  obtain ⟨xs, hX⟩ := rw_of_row w1
  have n1 := hX.1.2.1
  simp only at n1
  clear w1
  by_cases c0 : 300 < len1
  · have c0' : (300 : Int) < (len1 : Int) := by omega
    clear hX
    go_enter Tryd.func6, Tryd.ntmps6
    go_wp2_with fail
    refine (awake6 _ hT).mono ?_
    rintro e wa ⟨rfl, hb1⟩
    have hT1 := hT.below hb1
    clear hT
    go_wp2_with fail
    refine (awake6 _ hT1).mono ?_
    rintro e wb ⟨rfl, hb2⟩
    clear hT1
    go_wp2
    go_ret
    exact ⟨rfl, below_two hb1 hb2⟩
  · have c0' : ¬ (300 : Int) < (len1 : Int) := by omega
    by_cases c1 : len1 % 2 = 1
    · have c1' : ((len1 : Int) % 2 != 0) = true := by simp; omega
      clear hX c1
      go_enter Tryd.func6, Tryd.ntmps6
      go_wp2_with fail
      refine (awake6 _ hT).mono ?_
      rintro e wa ⟨rfl, hb1⟩
      have hT1 := hT.below hb1
      clear hT
      go_wp2_with fail
      refine (awake6 _ hT1).mono ?_
      rintro e wb ⟨rfl, hb2⟩
      clear hT1
      go_wp2
      go_ret
      exact ⟨rfl, below_two hb1 hb2⟩
    · have c1' : ((len1 : Int) % 2 != 0) = false := by simp; omega
      have H1 : Hid (len1 % 2 = 0) := Lib.hid (by omega)
      clear c1
      have hr := rest_by a0 1000000 (by decide)
      obtain ⟨b, hb⟩ : ∃ b, a0.tmod 1000000 = b := ⟨_, rfl⟩
      rw [hb] at hr
      have hs := sin_any b (by omega) (by omega)
      have hc := cos_any b
      have hs2 := sin_lit (b + 65536) (sine b) (sine_congr (by omega)) (by omega) (by omega)
      have hs3 := sin_lit (-b) (-sine b) (sine_neg b) (by omega) (by omega)
      have hc2 := cos_lit (-b) (cosi b) (cosi_neg b)
      have hq := circle b
      have es := sine_bd b
      have ec := cosi_bd b
      generalize sine b = s at hs hs2 hs3 hq es
      generalize cosi b = c at hc hc2 hq ec
      have ss : 0 ≤ s * s ∧ s * s ≤ 268435456 := by
        have h : (s * s).natAbs ≤ 16384 * 16384 := by rw [Int.natAbs_mul]; exact Nat.mul_le_mul (by omega) (by omega)
        have h2 : 0 ≤ s * s := by rcases Int.le_total 0 s with h | h; exact Int.mul_nonneg h h; exact Int.mul_nonneg_of_nonpos_of_nonpos h h
        omega
      have cc : 0 ≤ c * c ∧ c * c ≤ 268435456 := by
        have h : (c * c).natAbs ≤ 16384 * 16384 := by rw [Int.natAbs_mul]; exact Nat.mul_le_mul (by omega) (by omega)
        have h2 : 0 ≤ c * c := by rcases Int.le_total 0 c with h | h; exact Int.mul_nonneg h h; exact Int.mul_nonneg_of_nonpos_of_nonpos h h
        omega
      go_enter Tryd.func6, Tryd.ntmps6
      go_wp2_with fail
      refine (awake6 _ hT).mono ?_
      rintro e wa ⟨rfl, hb1⟩
      have hT1 := hT.below hb1
      have hX1 := hX.below hb1
      clear hT hX
      go_wp2_with fail
      refine (hs _ hT1).mono ?_
      rintro e w' ⟨rfl, d1, rfl⟩
      go_wp2_with fail
      refine (hc _ (hT1.drewN _)).mono ?_
      rintro e w' ⟨rfl, d2, rfl⟩
      clear hs hc hb
      have hcd : s * s + c * c - 268435456 < 1048576 ∧ -1048576 < s * s + c * c - 268435456 := ⟨hq.2, hq.1⟩
      go_wp2_with fail
      generalize hwb : wa.drewN _ = wb
      have hbb : Below wa.heap.size wa wb := by rw [← hwb]; exact below_drewN (Below.refl _ _) _
      have hT2 := hT1.below hbb
      have hX2 := hX1.below hbb
      have hb2 := below_two hb1 hbb
      clear hwb hbb hT1 hX1 hb1
      refine (turn_yes 0 _ len1 cap1 xs wb hX2.1 (by omega) H1.out (by decide) (by decide) hT2).mono ?_
      rintro e wc ⟨⟨g, rfl, hY⟩, hb3⟩
      rw [turnL_zero xs len1 hX2.1.1 hX2.1.2.2.1] at hY
      have hT3 := hT2.below hb3
      have hX3 := hX2.below hb3
      have hb4 := below_two hb2 hb3
      clear hT2 hX2 hb2 hb3
      go_wp2_with fail
      refine (hs2 _ hT3).mono ?_
      rintro e w' ⟨rfl, d3, rfl⟩
      go_wp2_with fail
      refine (hs3 _ (hT3.drewN _)).mono ?_
      rintro e w' ⟨rfl, d4, rfl⟩
      go_wp2_with fail
      refine (hc2 _ (hT3.drewN _)).mono ?_
      rintro e w' ⟨rfl, d5, rfl⟩
      clear hs2 hs3 hc2
      go_wp2_with fail
      generalize hwd : wc.drewN _ = wd
      have hbd : Below wc.heap.size wc wd := by rw [← hwd]; exact below_drewN (Below.refl _ _) _
      have hX4 := hX3.below hbd
      have hY2 := hY.below hbd
      have hb5 := below_two hb4 hbd
      clear hwd hbd hT3 hX3 hY hb4
      refine (bytes_yes _ _ len1 len1 cap1 xs _ hY2 hX4.1).mono ?_
      rintro e w' ⟨rfl, d6, rfl⟩
      have hb6 := below_drewN hb5 d6
      clear hX4 hY2 hb5
      go_wp2
      go_ret
      exact ⟨rfl, hb6⟩

/-! ### THE ROW's STEP: WRITTEN OUT: LEAVE IT -/
set_option maxRecDepth 100000 in
theorem lifted (os : Os) (started : os.Started) (H : Type) (enc : TypeId × Value → H) :
    ReturnsInHanded {} Tryd.checked os 6 .any (fun w args => (Rows.ropeCirclesSpec.pre enc Tryd.prog Tryd.f6 [] false w args ∧ laidMetH Tryd.prog laidList6 w) ∧ sizedMet enc Tryd.prog Tryd.f6 (OpenSpec.ofChange Rows.ropeCirclesSpec) false w args) (Rows.ropeCirclesSpec.post enc Tryd.prog Tryd.f6 false true false false) := by
  refine returnsInHanded_of_change_and (C := Tryd.checked) (X := fun w _ => laidMetH Tryd.prog laidList6 w) (fun _ _ _ hh h => h.of_heap hh) own started (by kernel_rfl) Tryd.func6
    (ChangeSpec.witness_shaped (enc := enc) (C := Tryd.checked) (os := os) (X := fun w _ => laidMetH Tryd.prog laidList6 w) false (World.doorLaid Tryd.prog 400 os) #[.int .i64 0, .slice none 0 0] 8 rfl (World.shaped_of_RefB (by kernel_rfl) (by kernel_rfl)) (by kernel_rfl) (by kernel_rfl) (by kernel_rfl) (door_met6 os _)) ?_
  intro W base args ds gs before hval0 hW _ _ hL _
  have hval : ∀ (j : Nat) t v, Tryd.f6.params[j]? = some t → args[j]? = some v → Value.okWide Tryd.prog W .any base t v := hval0
  have hW' := hW
  obtain ⟨p, q, hA0, hV, rfl, hfz, hnd⟩ := hW
  have hA : DataW.TrodAll enc Tryd.prog W 0 (fun _ => true) true Tryd.f6.params.toList args.toList ds p := hA0
  rw [Tryd.params6] at hA hval
  obtain ⟨v0, vs0, d0, ds0, p0, q0, hargs, rfl, rfl, h0, r0⟩ := trodAll_cons hA
  obtain ⟨v1, vs1, d1, ds1, p1, q1, rfl, rfl, rfl, h1, r1⟩ := trodAll_cons r0
  obtain ⟨rfl, rfl, rfl⟩ := trodAll_nil r1
  obtain rfl : args = #[v0, v1] := by cases args; simp_all
  obtain ⟨rfl, rfl⟩ := trodVars_none hV
  obtain ⟨a0, rfl, rfl, rfl, w0⟩ := open_int Tryd.underlying2 (hval 0 2 v0 rfl rfl) h0
  obtain ⟨a1, len1, cap1, rfl⟩ := okWide_slice Tryd.underlying26 (hval 1 26 v1 rfl rfl)
  have k1 := h1
  have lt1 : ∀ x ∈ p1, x.block < W.heap.size := by obtain ⟨m, hm⟩ := k1; exact DataW.trod_lt m _ _ _ hm
  obtain ⟨z1, w1⟩ : ∃ zs, IsRow .i8 W a1 len1 cap1 zs := by
    obtain ⟨fuel, hf⟩ := h1
    rcases open_ints Tryd.underlying26 Tryd.underlying41 (by kernel_rfl) hf with ⟨hcs, _⟩ | ⟨x, l, c, zs, hcs, _, hl, hm, hz, _, hcell, hwz⟩
    · simp [Value.cells] at hcs
      obtain ⟨rfl, rfl, rfl⟩ := hcs
      exact ⟨[], .inl ⟨rfl, rfl, rfl, rfl⟩⟩
    · simp [Value.cells] at hcs
      obtain ⟨rfl, rfl, rfl⟩ := hcs
      exact ⟨zs, .inr ⟨_, rfl, hl, hm, by simpa using hz, hcell, hwz⟩⟩
  clear hA0 hval0
  have hT := stab_of_laid hL
  refine (walk a0 a1 len1 cap1 z1 W w0 w1 hT).mono fun e W' ⟨he, bel⟩ => ?_
  subst he
  exact ⟨_, rfl, _, _, _, [], _, [], hW', trodAll_mk1 (shut_bool Tryd.underlying4 _), (trodAll_cons_mk (shut_int Tryd.underlying2 w0) (trodAll_cons_mk (Below.trod laidOut (by kernel_rfl) (of_decide_eq_true (by kernel_rfl)) k1 bel lt1) trodAll_mk0)), rfl, bel.frame _, fun h => by cases h⟩

theorem over : Rows.ropeCirclesRow.holds Tryd.pinned (OpenSpec.ofChange Rows.ropeCirclesSpec) :=
  OpenClaim.holds_of_wide 6 Tryd.f6 rfl rfl rfl rfl rfl rfl rfl ⟨rfl, rfl, rfl, rfl, rfl⟩ rfl rfl rfl rfl rfl (by kernel_rfl) Tryd.func6 (by kernel_rfl)
    (of_decide_eq_true (by kernel_rfl)) (by unfold Func.isWrapper; first | (rw [if_pos (by decide +kernel)]; kernel_rfl) | (rw [if_neg (by decide +kernel)]; exact ⟨rfl, rfl⟩))
    (fun os started H enc _ => lifted os started H enc)

/-- the row's statement -/
theorem said : Rows.RopeCirclesSaid := over

/-- THE STATEMENT: the tied card -/
theorem proved : Rows.RopeCirclesCardSaid :=
  Claim7.holds_tied_plain_at .later [] [.data] true (true, "37de5bb9a3743b0e4af4fafce8e0a0ad854add1be9201d4b2f2084e34ad96049") false
    said (fun _ h => by cases h) (by kernel_rfl) (fun _ h => by cases h) ropeCircles_row_tie rfl ⟨rfl, rfl⟩ (by kernel_rfl) rfl
    (fun f fn hf hfn => by
      obtain rfl : f = 6 := Option.some.inj ((show Tryd.prog.funcNamed "peloton/pelotonlaw06.RopeCircles" = some 6 by kernel_rfl).symm.trans hf) |>.symm
      obtain rfl : fn = Tryd.f6 := (Option.some.inj (Tryd.func6.symm.trans hfn)).symm
      exact ⟨by kernel_rfl, fun j t ht => by
        rw [Tryd.params6] at ht
        have hm : t ∈ [2, 26] := by simpa using Array.mem_of_getElem? ht
        have hall : ([2, 26].all fun u => !Tryd.prog.wantsStandIn u) = true := by kernel_rfl
        exact (show Tryd.prog.wantsStandIn t = false by simpa using List.all_eq_true.1 hall t hm)⟩)
    (by kernel_rfl)
#print axioms proved
end Go.Proofs.YtbggklhnmkiamaaDoor.ropeCircles
