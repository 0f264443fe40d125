/-
  Proved: for any rows of bytes WeightSums returns true (the code's check sum of the rows is the document's of all their bytes, one row behind the other) and nothing that was in memory turns. No condition.
-/
import Derived.Test.YtlgnpicnpnibfaaRows
import Derived.WalkKit
import Derived.ProofKit
import Derived.OpenShut
import Derived.ShutString
import Derived.ChangeOld
import Derived.Below
import Derived.Test.YtlgnpicnpnibfaaRwRow
import Derived.Test.YtlgnpicnpnibfaaAwake7
namespace Go.Proofs.Ytlgnpicnpnibfaa.weightSums
open Go.ChangeShapes Go.WideShapes Go.ChangeAt Go.RowKit
open Go.ChangeMaps (open_string shut_string)
set_option linter.unusedVariables false

theorem own : ownKnob Try.prog.godebug = none := by kernel_rfl
theorem laidOut : laidOutB Try.prog = true := by kernel_rfl

set_option maxHeartbeats 1600000 in
set_option maxRecDepth 100000 in
theorem walk (a0 : Option Addr) (n0 cap0 : Nat) (qs0 : List Rw) (w : World) (h0 : Rws .u8 w a0 n0 qs0 ∧ n0 ≤ cap0 ∧ cap0 ≤ 9223372036854775807 ∧ Sl a0 cap0) :
    Calls Try.prog 3 #[.slice a0 n0 cap0] w fun e w' => e = .returned (.bool true) ∧ Below w.heap.size w w' := by
  obtain ⟨hqs, hcap, hcap2, hSl⟩ := h0
  have hn := hqs.2.1
  have hl := Lib.hid hqs.1
  have HQ := Lib.hid hqs
  clear hqs hSl
  by_cases h30 : 30 < n0
  · clear HQ hl
    go_enter Try.func3, Try.ntmps3
    go_wp2_with fail
    refine (awake7 _).mono ?_
    rintro e wa ⟨rfl, hb1⟩
    go_wp2_with fail
    refine (awake7 _).mono ?_
    rintro e wb ⟨rfl, hb2⟩
    have B := below_two hb1 hb2
    clear hb1 hb2
    go_wp2
    go_ret
    exact ⟨rfl, B⟩
  · go_enter Try.func3, Try.ntmps3
    go_wp2_with fail
    refine (awake7 _).mono ?_
    rintro e wa ⟨rfl, hb1⟩
    have hz := hb1.size
    have HB1 := Lib.hid hb1
    clear hb1
    go_wp2_with fail
    go_loopw [3, 4] (fun v i wr => ∃ (k m : Nat) (xs : List Int), k ≤ n0 ∧ i = .int .i64 k ∧ m ≤ 1000 * k ∧ Hid (xs = catR (qs0.take k)) ∧ Hid (wr.ownsRow wa.heap.size 5 1 v m (xs.map (.int .u8))) ∧ Hid (∀ x ∈ xs, (Lit.int .u8 x).wf = true) ∧ Hid (Below wa.heap.size wa wr)) (fun _ i _ => n0 - (intOf i).toNat)
    case atStart => exact ⟨0, 0, [], by omega, rfl, by omega, Lib.hid rfl, Lib.hid (own_nil _ _ _), Lib.hid (by simp), Lib.hid (Below.refl _ _)⟩
    case round =>
      obtain ⟨k, m, xs, hk, rfl, hm, hxs, hown, hw, hbel⟩ := hrel
      have hB := below_two HB1.out hbel.out
      have hQ := HQ.out.below hB
      have hsz := hbel.out.size
      by_cases hlt : k < n0
      · obtain ⟨b, off, q, rfl, hblt, hc, hq, hin⟩ := hQ.at_ hlt
        obtain ⟨qa, qn, qcap, ys⟩ := q
        have hE : Elems .u8 wr qa qn ys := hin.1
        have hqn := hE.2.1
        by_cases h1000 : 1000 < qn
        · have HB := Lib.hid hB
          clear hQ hE hin hq hB
          go_wp2
          go_ret
          exact ⟨rfl, HB.out⟩
        · obtain ⟨v2, w2, hrun, hown2, hg, _⟩ := run_append_elems (P := Try.prog) .u8 wr wa.heap.size 24 5 1 (by omega) Try.underlying24 info_u8 _ m xs hown.out qa qn qcap ys hE hin.2.2.2.1 (by omega) (by omega) hsz
          have HO := Lib.hid hown2
          have HC : Hid (xs ++ ys = catR (qs0.take (k + 1))) := Lib.hid (by rw [cat_step _ _ (by rw [hl.out]; omega), hq.out, hxs.out])
          have HW : Hid (∀ x ∈ xs ++ ys, (Lit.int .u8 x).wf = true) := Lib.hid (fun x hx => by
            rcases List.mem_append.1 hx with h | h
            · exact hw.out x h
            · exact hE.2.2.1 x h)
          have HB := Lib.hid (hbel.out.grown hg hsz (fun b hb => (hown.out.lt b hb).1))
          clear hQ hE hin hq hB hown2 hg
          go_wp2_with (at_builtin; refine wpList_append_at (by rfl) _ _ _ (by rfl) _ _ (by rfl) (by rfl) hrun ?_)
          clear hrun hc
          go_roundw
          case rel => exact ⟨k + 1, m + qn, xs ++ ys, by omega, by go_num, by omega, HC, HO, HW, HB⟩
          case measure => simp [intOf]; omega
      · obtain rfl : k = n0 := by omega
        obtain ⟨a, cap, rfl, hE, _⟩ := own_reads hown.out hw.out (by omega)
        have s1 := sum_any a0 k cap0 qs0 wr hQ
        have s2 := doc_sum a m cap xs wr hE
        have e : xs = catR qs0 := by rw [hxs.out, List.take_of_length_le (by rw [hl.out]; omega)]
        rw [e] at s2
        have HB := Lib.hid hB
        clear hQ hE hB e
        go_wp2_with fail
        refine s1.mono ?_
        rintro e w' ⟨rfl, rfl⟩
        go_wp2_with fail
        refine s2.mono ?_
        rintro e w' ⟨rfl, rfl⟩
        clear s1 s2
        go_wp2
        go_ret
        exact ⟨rfl, HB.out⟩

set_option maxRecDepth 100000 in
theorem lifted (os : Os) (started : os.Started) (H : Type) (enc : TypeId × Value → H) :
    ReturnsInHanded {} Try.checked os 3 .any (Rows.weightSumsSpec.pre6 enc Try.prog Try.f3 Rows.weightSumsRow.domain false) (Rows.weightSumsSpec.post enc Try.prog Try.f3 false true false false) := by
  refine returnsInHanded_of_change (C := Try.checked) own started (by kernel_rfl) Try.func3
    (ChangeSpec.witness6 (enc := enc) (C := Try.checked) false ⟨#[], #[.slice none 0 0], []⟩ 8 (by kernel_rfl) (by kernel_rfl) (by kernel_rfl) (by kernel_rfl)) ?_
  intro W base args ds gs before hval0 hW hcnd _
  have hval : ∀ (j : Nat) t v, Try.f3.params[j]? = some t → args[j]? = some v → Value.okWide Try.prog W .any base t v := hval0
  have hW' := hW
  obtain ⟨p, q, hA0, hV, rfl, hfz, hnd⟩ := hW
  have hA : DataW.TrodAll enc Try.prog W 0 (fun _ => true) true Try.f3.params.toList args.toList ds p := hA0
  rw [Try.params3] at hA hval
  obtain ⟨v0, vs0, d0, ds0, p0, q0, hargs, rfl, rfl, h0, r0⟩ := trodAll_cons hA
  obtain ⟨rfl, rfl, rfl⟩ := trodAll_nil r0
  obtain rfl : args = #[v0] := by cases args; simp_all
  obtain ⟨rfl, rfl⟩ := trodVars_none hV
  have k0 := h0
  have lt0 : ∀ x ∈ p0, x.block < W.heap.size := by obtain ⟨m, hm⟩ := k0; exact DataW.trod_lt m _ _ _ hm
  obtain ⟨a0, n0, cap0, qs0, rfl, w0⟩ := open_rws Try.underlying22 (by kernel_rfl) Try.underlying24 Try.underlying5 (by kernel_rfl) (hval 0 22 v0 rfl rfl) h0
  clear hA0 hval0
  refine (walk a0 n0 cap0 qs0 W w0).mono fun e W' ⟨he, bel⟩ => ?_
  subst he
  exact ⟨_, rfl, _, _, _, [], _, [], hW', trodAll_mk1 (shut_bool Try.underlying4 _), (trodAll_cons_mk (Below.trod laidOut (by kernel_rfl) (of_decide_eq_true (by kernel_rfl)) k0 bel lt0) trodAll_mk0), rfl, bel.frame _, fun h => by cases h⟩

theorem over : Rows.weightSumsRow.holds Try.pinned (OpenSpec.ofChange Rows.weightSumsSpec) :=
  OpenClaim.holds_of_wide 3 Try.f3 rfl rfl rfl rfl rfl rfl rfl ⟨rfl, rfl, rfl, rfl, rfl⟩ rfl rfl rfl rfl rfl (by kernel_rfl) Try.func3 (by kernel_rfl)
    (of_decide_eq_true (by kernel_rfl)) (by unfold Func.isWrapper; first | (rw [if_pos (by decide +kernel)]; kernel_rfl) | (rw [if_neg (by decide +kernel)]; exact ⟨rfl, rfl⟩))
    (fun os started H enc _ => lifted os started H enc)

/-- ████ THE STATEMENT ████ -/
theorem proved : Rows.WeightSumsSaid := over
#print axioms proved
end Go.Proofs.Ytlgnpicnpnibfaa.weightSums
