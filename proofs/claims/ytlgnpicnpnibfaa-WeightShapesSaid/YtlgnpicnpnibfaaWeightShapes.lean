/-
  Proved: for any six numbers WeightShapes returns true (the same shapes are right for the code and for the document, and Count is the sum of the document's rows, 0 where the shape isn't right) and nothing that was in memory turns. No condition.
-/
import Derived.Test.YtlgnpicnpnibfaaRows
import Derived.WalkKit
import Derived.ProofKit
import Derived.OpenShut
import Derived.ShutString
import Derived.ChangeOld
import Derived.Below
import Derived.Test.YtlgnpicnpnibfaaShapeRow
import Derived.Test.YtlgnpicnpnibfaaAwake7
import Derived.Test.YtlgnpicnpnibfaaDocRows
import Derived.Test.YtlgnpicnpnibfaaCount
namespace Go.Proofs.Ytlgnpicnpnibfaa.weightShapes
open Go.ChangeShapes Go.WideShapes Go.ChangeAt Go.RowKit
open Go.ChangeMaps (open_string shut_string)
set_option linter.unusedVariables false

theorem own : ownKnob Try.prog.godebug = none := by kernel_rfl
theorem laidOut : laidOutB Try.prog = true := by kernel_rfl

set_option maxHeartbeats 1600000 in
set_option maxRecDepth 100000 in
theorem walk (sl0 sw0 sh0 si0 sv0 sp0 : Int) (w : World) (h0 : Six sl0 sw0 sh0 si0 sv0 sp0) :
    Calls Try.prog 4 #[.agg #[.int .i64 sl0, .int .i64 sw0, .int .i64 sh0, .int .i64 si0, .int .i64 sv0, .int .i64 sp0]] w fun e w' => e = .returned (.bool true) ∧ Below w.heap.size w w' := by
  obtain ⟨w1, w2, w3, w4, w5, w6⟩ := h0
  have b1 := wf64 w1
  have b2 := wf64 w2
  have b3 := wf64 w3
  clear w1 w2 w3 w4 w5 w6
  by_cases ok : OkI sl0 sw0 sh0 si0 sv0 sp0
  · have r1 := fun W => dright_yes sl0 sw0 sh0 si0 sv0 sp0 W ok
    have r2 := fun W => right_yes sl0 sw0 sh0 si0 sv0 sp0 W ok
    obtain ⟨s, hok, rfl, rfl, rfl, rfl, rfl, rfl⟩ := Sz.of ok
    have r3 := fun W => count_yes s W hok
    have r4 := fun W => doc_rows s hok W
    have hl := hok.bd.1
    have CN := Lib.hid (cnt_le hok)
    have TT := Lib.hid (tot_rows s)
    unfold Sz.val at r3 r4
    clear ok b1 b2 b3
    go_enter Try.func4, Try.ntmps4
    go_wp2_with fail
    refine (awake7 _).mono ?_
    rintro e wa ⟨rfl, hb1⟩
    have X1 := (box_new w _ _).bel hb1
    have B1 := below_two ((Below.refl w.heap.size w).alloc (Nat.le_refl _) _) hb1
    obtain ⟨c0, c1, c2, c3, c4, c5⟩ := X1.cells6
    clear hb1
    go_wp2_with fail
    refine (r1 _).mono ?_
    rintro e wb ⟨rfl, hb2⟩
    have X2 := X1.bel hb2
    have B2 := below_two B1 hb2
    clear c0 c1 c2 c3 c4 c5 X1 B1 hb2
    obtain ⟨c0, c1, c2, c3, c4, c5⟩ := X2.cells6
    go_wp2_with fail
    refine (r4 _).mono ?_
    rintro e wc ⟨⟨ra, rcap, rfl, hR⟩, hb3⟩
    have X3 := X2.bel hb3
    have B3 := below_two B2 hb3
    clear c0 c1 c2 c3 c4 c5 X2 B2 hb3 r4 r1
    obtain ⟨hlen, b, rfl, hblt, hat⟩ := hR
    have HL := Lib.hid hlen
    have HA := Lib.hid hat
    have T0 : Hid (0 = tot ((rowsL s).take 0)) := Lib.hid rfl
    have TS := Lib.hid (fun k (hk : k < 8 * s.l + 3) => tot_step (rowsL s) k (by rw [hlen]; exact hk))
    have TL := Lib.hid (fun k => tot_take_le (rowsL s) k)
    clear hlen hat
    have X4 := Lib.hid X3
    clear X3
    go_wp2_with fail
    go_loop [4, 6] (fun t i => ∃ k t' : Nat, k ≤ 8 * s.l + 3 ∧ i = .int .i64 k ∧ t = .int .i64 t' ∧ Hid (t' = tot ((rowsL s).take k))) (fun _ i => 8 * s.l + 3 - (intOf i).toNat)
    case atStart => exact ⟨0, 0, by omega, rfl, rfl, T0⟩
    case round =>
      obtain ⟨k, t, hk, rfl, rfl, ht⟩ := hrel
      have t1 : t ≤ 2232448 := by have h1 := TL.out k; have h2 := CN.out; rw [TT.out, ← ht.out] at h1; omega
      by_cases hlt : k < 8 * s.l + 3
      · obtain ⟨c6, c7⟩ := HA.out k hlt
        have hst := TS.out k hlt
        have t2 : t + ((rowsL s).getD k default).2 ≤ 2232448 := by have h1 := TL.out (k + 1); have h2 := CN.out; rw [TT.out, hst, ← ht.out] at h1; omega
        have HT2 : Hid (t + ((rowsL s).getD k default).2 = tot ((rowsL s).take (k + 1))) := Lib.hid (by rw [hst, ht.out])
        generalize ((rowsL s).getD k default).2 = m at *
        clear hst c6
        have i1 : (k : Int) < 8 * (s.l : Int) + 3 := by omega
        have e1 : (k : Int) * 2 = ((k * 2 : Nat) : Int) := by omega
        go_wp2
        go_round
        case rel => exact ⟨k + 1, t + m, by omega, by go_num, by go_num, HT2⟩
        case measure => simp [intOf]; omega
      · obtain rfl : k = 8 * s.l + 3 := by omega
        have ET : t = cnt s := by rw [ht.out, List.take_of_length_le (by rw [HL.out]; omega), TT.out]
        subst ET
        obtain ⟨c0, c1, c2, c3, c4, c5⟩ := X4.out.cells6
        have i2 : ¬ (8 * (s.l : Int) + 3 < 8 * (s.l : Int) + 3) := by omega
        go_wp2_with fail
        refine (r2 _).mono ?_
        rintro e wd ⟨rfl, hb4⟩
        have X5 := X4.out.bel hb4
        have B4 := below_two B3 hb4
        clear c0 c1 c2 c3 c4 c5 B3 hb4
        obtain ⟨c0, c1, c2, c3, c4, c5⟩ := X5.cells6
        clear X5
        go_wp2_with fail
        refine (r3 _).mono ?_
        rintro e we ⟨rfl, hb5⟩
        have B5 := below_two B4 hb5
        clear c0 c1 c2 c3 c4 c5 B4 hb5
        go_wp2
        go_ret
        exact ⟨rfl, B5⟩
  · have r1 := fun W => dright_no sl0 sw0 sh0 si0 sv0 sp0 W ⟨b1, b2, b3⟩ ok
    have r2 := fun W => right_no sl0 sw0 sh0 si0 sv0 sp0 W ⟨b1, b2, b3⟩ ok
    have r3 := fun W => count_no sl0 sw0 sh0 si0 sv0 sp0 W ⟨b1, b2, b3⟩ ok
    clear ok b1 b2 b3
    go_enter Try.func4, Try.ntmps4
    go_wp2_with fail
    refine (awake7 _).mono ?_
    rintro e wa ⟨rfl, hb1⟩
    have X1 := (box_new w _ _).bel hb1
    have B1 := below_two ((Below.refl w.heap.size w).alloc (Nat.le_refl _) _) hb1
    obtain ⟨c0, c1, c2, c3, c4, c5⟩ := X1.cells6
    clear hb1
    go_wp2_with fail
    refine (r1 _).mono ?_
    rintro e wb ⟨rfl, hb2⟩
    have X2 := X1.bel hb2
    have B2 := below_two B1 hb2
    clear c0 c1 c2 c3 c4 c5 X1 B1 hb2
    obtain ⟨c0, c1, c2, c3, c4, c5⟩ := X2.cells6
    go_wp2_with fail
    refine (r2 _).mono ?_
    rintro e wd ⟨rfl, hb4⟩
    have X5 := X2.bel hb4
    have B4 := below_two B2 hb4
    clear c0 c1 c2 c3 c4 c5 B2 hb4
    obtain ⟨c0, c1, c2, c3, c4, c5⟩ := X5.cells6
    clear X5
    go_wp2_with fail
    refine (r3 _).mono ?_
    rintro e we ⟨rfl, hb5⟩
    have B5 := below_two B4 hb5
    clear c0 c1 c2 c3 c4 c5 B4 hb5
    go_wp2
    go_ret
    exact ⟨rfl, B5⟩

set_option maxRecDepth 100000 in
theorem lifted (os : Os) (started : os.Started) (H : Type) (enc : TypeId × Value → H) :
    ReturnsInHanded {} Try.checked os 4 .any (Rows.weightShapesSpec.pre6 enc Try.prog Try.f4 Rows.weightShapesRow.domain false) (Rows.weightShapesSpec.post enc Try.prog Try.f4 false true false false) := by
  refine returnsInHanded_of_change (C := Try.checked) own started (by kernel_rfl) Try.func4
    (ChangeSpec.witness6 (enc := enc) (C := Try.checked) false ⟨#[], #[.agg #[.int .i64 0, .int .i64 0, .int .i64 0, .int .i64 0, .int .i64 0, .int .i64 0]], []⟩ 8 (by kernel_rfl) (by kernel_rfl) (by kernel_rfl) (by kernel_rfl)) ?_
  intro W base args ds gs before hval0 hW hcnd _
  have hval : ∀ (j : Nat) t v, Try.f4.params[j]? = some t → args[j]? = some v → Value.okWide Try.prog W .any base t v := hval0
  have hW' := hW
  obtain ⟨p, q, hA0, hV, rfl, hfz, hnd⟩ := hW
  have hA : DataW.TrodAll enc Try.prog W 0 (fun _ => true) true Try.f4.params.toList args.toList ds p := hA0
  rw [Try.params4] at hA hval
  obtain ⟨v0, vs0, d0, ds0, p0, q0, hargs, rfl, rfl, h0, r0⟩ := trodAll_cons hA
  obtain ⟨rfl, rfl, rfl⟩ := trodAll_nil r0
  obtain rfl : args = #[v0] := by cases args; simp_all
  obtain ⟨rfl, rfl⟩ := trodVars_none hV
  have k0 := h0
  have lt0 : ∀ x ∈ p0, x.block < W.heap.size := by obtain ⟨m, hm⟩ := k0; exact DataW.trod_lt m _ _ _ hm
  obtain ⟨xl0, xw0, xh0, xi0, xv0, xp0, rfl, w0⟩ := open_shape (hval 0 30 v0 rfl rfl) h0
  clear hA0 hval0
  refine (walk xl0 xw0 xh0 xi0 xv0 xp0 W w0).mono fun e W' ⟨he, bel⟩ => ?_
  subst he
  exact ⟨_, rfl, _, _, _, [], _, [], hW', trodAll_mk1 (shut_bool Try.underlying4 _), (trodAll_cons_mk (Below.trod laidOut (by kernel_rfl) (of_decide_eq_true (by kernel_rfl)) k0 bel lt0) trodAll_mk0), rfl, bel.frame _, fun h => by cases h⟩

theorem over : Rows.weightShapesRow.holds Try.pinned (OpenSpec.ofChange Rows.weightShapesSpec) :=
  OpenClaim.holds_of_wide 4 Try.f4 rfl rfl rfl rfl rfl rfl rfl ⟨rfl, rfl, rfl, rfl, rfl⟩ rfl rfl rfl rfl rfl (by kernel_rfl) Try.func4 (by kernel_rfl)
    (of_decide_eq_true (by kernel_rfl)) (by unfold Func.isWrapper; first | (rw [if_pos (by decide +kernel)]; kernel_rfl) | (rw [if_neg (by decide +kernel)]; exact ⟨rfl, rfl⟩))
    (fun os started H enc _ => lifted os started H enc)

/-- ████ THE STATEMENT ████ -/
theorem proved : Rows.WeightShapesSaid := over
#print axioms proved
end Go.Proofs.Ytlgnpicnpnibfaa.weightShapes
