/-
  Proved: for any shape, prompt and number GenChecks returns true (what may be generated is as the document says; prompts of more than 300 tokens are let go) and nothing that was in memory turns. No condition beside the row's own on the two tables.
-/
import Derived.Test.YtdclfcfdadkmeaaDoorRows
import Derived.WalkKit
import Derived.ProofKit
import Derived.OpenShut
import Derived.ShutString
import Derived.ChangeOld
import Derived.Below
import Derived.Test.YtdclfcfdadkmeaaDoorJ01
import Derived.Test.YtdclfcfdadkmeaaDoorJ02
import Derived.Test.YtdclfcfdadkmeaaDoorTie
import Derived.Test.YtdclfcfdadkmeaaDoorCards
import Derived.SevenTiedAt
import Derived.Test.YtdclfcfdadkmeaaDoorJ24
import Derived.Deep.RegionHeld3
namespace Go.Proofs.YtdclfcfdadkmeaaDoor.genChecks
open Go.ChangeShapes Go.WideShapes Go.ChangeAt Go.RowKit
open Go.ChangeMaps (open_string shut_string)
set_option linter.unusedVariables false

theorem own : ownKnob Tryd.prog.godebug = none := by kernel_rfl
theorem laidOut : laidOutB Tryd.prog = true := by kernel_rfl

set_option maxHeartbeats 4000000 in
set_option maxRecDepth 100000 in
theorem walk (sl0 sw0 sh0 si0 sv0 sp0 : Int) (q1 : Rw) (a2 : Int) (w : World) (h0 : Six sl0 sw0 sh0 si0 sv0 sp0) (h1 : q1.In .i64 w) (h2 : (Lit.int .i64 a2).wf = true) (hT : Tabs9 w) :
    Calls Tryd.prog 4 #[.agg #[.int .i64 sl0, .int .i64 sw0, .int .i64 sh0, .int .i64 si0, .int .i64 sv0, .int .i64 sp0], .slice q1.a q1.n q1.cap, .int .i64 a2] w fun e w' => e = .returned (.bool true) ∧ Below w.heap.size w w' := by
  obtain ⟨w1, w2, w3, w4, w5, w6⟩ := h0
  have b5 := wf64 w5
  have b6 := wf64 w6
  have bm := wf64 h2
  have HQ := Lib.hid h1
  have HT := Lib.hid hT
  have cC := fun (hn : q1.n ≤ 300) W (hW : Below w.heap.size w W) => check_code sl0 sw0 sh0 si0 sv0 sp0 a2 q1.a q1.n q1.cap q1.v W b5 b6 bm (HQ.out.1.below hW) (by omega)
  have cD := fun (hn : q1.n ≤ 300) W (hW : Below w.heap.size w W) => check_doc sl0 sw0 sh0 si0 sv0 sp0 a2 q1.a q1.n q1.cap q1.v W b5 b6 bm (HQ.out.1.below hW) (by omega)
  unfold sh9 at cC cD
  have hq := h1.2.1
  have hq2 := h1.2.2.1
  have cAw := awake9 (w.alloc (.cells #[.int .i64 sl0, .int .i64 sw0, .int .i64 sh0, .int .i64 si0, .int .i64 sv0, .int .i64 sp0] 35)) (hT.bel ((Below.refl _ _).alloc (Nat.le_refl _) _))
  clear w1 w2 w3 w4 w5 w6 h1 hT h2
  by_cases hn : q1.n ≤ 300
  · have cC1 := cC hn
    have cD1 := cD hn
    clear cC cD
    go_enter Tryd.func4, Tryd.ntmps4
    go_wp2_with fail
    refine cAw.mono ?_
    rintro e wa ⟨rfl, hb1⟩
    have X1 := (box_new w _ _).bel hb1
    have B1 := below_two ((Below.refl w.heap.size w).alloc (Nat.le_refl _) _) hb1
    have HX := Lib.hid X1
    have HB := Lib.hid B1
    obtain ⟨z0, z1, z2, z3, z4, z5⟩ := X1.cells6
    clear hb1 X1 B1 cAw
    go_upto_region 3 with (fail)
    go_region_held3 (fun w' => w'.cell? ⟨w.heap.size, 0, none⟩ = some (.int .i64 sl0) ∧ w'.cell? ⟨w.heap.size, 1, none⟩ = some (.int .i64 sw0) ∧ w'.cell? ⟨w.heap.size, 2, none⟩ = some (.int .i64 sh0) ∧ w'.cell? ⟨w.heap.size, 3, none⟩ = some (.int .i64 si0) ∧ w'.cell? ⟨w.heap.size, 4, none⟩ = some (.int .i64 sv0) ∧ w'.cell? ⟨w.heap.size, 5, none⟩ = some (.int .i64 sp0))
      (first | go_keep | (go_split_ands; refine ⟨?_, ?_, ?_, ?_, ?_, ?_⟩ <;> assumption))
      (first
        | (go_at_call 19; (with_reducible refine (cC1 _ ?h9).mono ?_); (case h9 => exact HB.out.drew); rintro e w2 ⟨rfl, hb2⟩
           have HB2 := Lib.hid (below_two (HB.out.drew) hb2)
           have HX2 := Lib.hid (Box.bel (w := wa.drew) HX.out hb2)
           obtain ⟨y0, y1, y2, y3, y4, y5⟩ := HX2.out.cells6
           clear hb2)
        | (go_at_call 20; (with_reducible refine (cD1 _ ?h9).mono ?_); (case h9 => exact HB2.out); rintro e w3 ⟨rfl, hb3⟩
           have HB3 := Lib.hid (below_two HB2.out hb3)
           obtain ⟨x0, x1, x2, x3, x4, x5⟩ := (Box.bel HX2.out hb3).cells6
           clear hb3))
    go_wp2
    go_ret
    exact ⟨rfl, HB3.out⟩
  · have hn2 : 300 < q1.n := by omega
    clear cC cD
    go_enter Tryd.func4, Tryd.ntmps4
    go_wp2_with fail
    refine cAw.mono ?_
    rintro e wa ⟨rfl, hb1⟩
    have HB := Lib.hid (below_two ((Below.refl w.heap.size w).alloc (Nat.le_refl _) _) hb1)
    have cA2 := awake9 wa (HT.out.bel HB.out)
    clear hb1 cAw
    go_wp2_with fail
    refine cA2.mono ?_
    rintro e wb ⟨rfl, hb2⟩
    have HB2 := Lib.hid (below_two HB.out hb2)
    clear hb2 cA2
    go_wp2
    go_ret
    exact ⟨rfl, HB2.out⟩

set_option maxRecDepth 100000 in
theorem lifted (os : Os) (started : os.Started) (H : Type) (enc : TypeId × Value → H) :
    ReturnsInHanded {} Tryd.checked os 4 .any (fun w args => (Rows.genChecksSpec.pre enc Tryd.prog Tryd.f4 [] false w args ∧ laidMetH Tryd.prog laidList9 w) ∧ sizedMet enc Tryd.prog Tryd.f4 (OpenSpec.ofChange Rows.genChecksSpec) false w args) (Rows.genChecksSpec.post enc Tryd.prog Tryd.f4 false true false false) := by
  refine returnsInHanded_of_change_and (C := Tryd.checked) (X := fun w _ => laidMetH Tryd.prog laidList9 w) (fun _ _ _ hh h => h.of_heap hh) own started (by kernel_rfl) Tryd.func4
    (ChangeSpec.witness_shaped (enc := enc) (C := Tryd.checked) (os := os) (X := fun w _ => laidMetH Tryd.prog laidList9 w) false (World.doorLaid Tryd.prog 400 os) #[.agg #[.int .i64 0, .int .i64 0, .int .i64 0, .int .i64 0, .int .i64 0, .int .i64 0], .slice none 0 0, .int .i64 0] 8 rfl (World.shaped_of_RefB (by kernel_rfl) (by kernel_rfl)) (by kernel_rfl) (by kernel_rfl) (by kernel_rfl) (door_met9 os _)) ?_
  intro W base args ds gs before hval0 hW _ _ hL _
  have hval : ∀ (j : Nat) t v, Tryd.f4.params[j]? = some t → args[j]? = some v → Value.okWide Tryd.prog W .any base t v := hval0
  have hW' := hW
  obtain ⟨p, q, hA0, hV, rfl, hfz, hnd⟩ := hW
  have hA : DataW.TrodAll enc Tryd.prog W 0 (fun _ => true) true Tryd.f4.params.toList args.toList ds p := hA0
  rw [Tryd.params4] at hA hval
  obtain ⟨v0, vs0, d0, ds0, p0, q0, hargs, rfl, rfl, h0, r0⟩ := trodAll_cons hA
  obtain ⟨v1, vs1, d1, ds1, p1, q1, rfl, rfl, rfl, h1, r1⟩ := trodAll_cons r0
  obtain ⟨v2, vs2, d2, ds2, p2, q2, rfl, rfl, rfl, h2, r2⟩ := trodAll_cons r1
  obtain ⟨rfl, rfl, rfl⟩ := trodAll_nil r2
  obtain rfl : args = #[v0, v1, v2] := by cases args; simp_all
  obtain ⟨rfl, rfl⟩ := trodVars_none hV
  have k0 := h0
  have lt0 : ∀ x ∈ p0, x.block < W.heap.size := by obtain ⟨m, hm⟩ := k0; exact DataW.trod_lt m _ _ _ hm
  obtain ⟨xl0, xw0, xh0, xi0, xv0, xp0, rfl, w0⟩ := open_shape (hval 0 35 v0 rfl rfl) h0
  have k1 := h1
  have lt1 : ∀ x ∈ p1, x.block < W.heap.size := by obtain ⟨m, hm⟩ := k1; exact DataW.trod_lt m _ _ _ hm
  obtain ⟨q1, rfl, w1⟩ := open_rw Tryd.underlying27 Tryd.underlying3 (by kernel_rfl) (hval 1 27 v1 rfl rfl) h1
  obtain ⟨a2, rfl, rfl, rfl, w2⟩ := open_int Tryd.underlying3 (hval 2 3 v2 rfl rfl) h2
  clear hA0 hval0
  have hT := tabs_of_laid hL
  refine (walk xl0 xw0 xh0 xi0 xv0 xp0 q1 a2 W w0 w1 w2 hT).mono fun e W' ⟨he, bel⟩ => ?_
  subst he
  exact ⟨_, rfl, _, _, _, [], _, [], hW', trodAll_mk1 (shut_bool Tryd.underlying4 _), (trodAll_cons_mk (Below.trod laidOut (by kernel_rfl) (of_decide_eq_true (by kernel_rfl)) k0 bel lt0) (trodAll_cons_mk (Below.trod laidOut (by kernel_rfl) (of_decide_eq_true (by kernel_rfl)) k1 bel lt1) (trodAll_cons_mk (shut_int Tryd.underlying3 w2) trodAll_mk0))), rfl, bel.frame _, fun h => by cases h⟩

theorem over : Rows.genChecksRow.holds Tryd.pinned (OpenSpec.ofChange Rows.genChecksSpec) :=
  OpenClaim.holds_of_wide 4 Tryd.f4 rfl rfl rfl rfl rfl rfl rfl ⟨rfl, rfl, rfl, rfl, rfl⟩ rfl rfl rfl rfl rfl (by kernel_rfl) Tryd.func4 (by kernel_rfl)
    (of_decide_eq_true (by kernel_rfl)) (by unfold Func.isWrapper; first | (rw [if_pos (by decide +kernel)]; kernel_rfl) | (rw [if_neg (by decide +kernel)]; exact ⟨rfl, rfl⟩))
    (fun os started H enc _ => lifted os started H enc)

/-- the row's statement -/
theorem said : Rows.GenChecksSaid := over

/-- THE STATEMENT: the tied card -/
theorem proved : Rows.GenChecksCardSaid :=
  Claim7.holds_tied_plain_at .later [] [.data, .data] true (true, "af47729238bd4eb6deba0d8dacfa67202db43c79d262ee87be7b2fd57e2adb8c") true
    said (fun _ h => by cases h) (by kernel_rfl) (fun _ h => by cases h) genChecks_row_tie rfl ⟨rfl, rfl⟩ (by kernel_rfl) rfl
    (fun f fn hf hfn => by
      obtain rfl : f = 4 := Option.some.inj ((show Tryd.prog.funcNamed "peloton/pelotonlaw09.GenChecks" = some 4 by kernel_rfl).symm.trans hf) |>.symm
      obtain rfl : fn = Tryd.f4 := (Option.some.inj (Tryd.func4.symm.trans hfn)).symm
      exact ⟨by kernel_rfl, fun j t ht => by
        rw [Tryd.params4] at ht
        have hm : t ∈ [35, 27, 3] := by simpa using Array.mem_of_getElem? ht
        have hall : ([35, 27, 3].all fun u => !Tryd.prog.wantsStandIn u) = true := by kernel_rfl
        exact (show Tryd.prog.wantsStandIn t = false by simpa using List.all_eq_true.1 hall t hm)⟩)
    (by kernel_rfl)
#print axioms proved
end Go.Proofs.YtdclfcfdadkmeaaDoor.genChecks
