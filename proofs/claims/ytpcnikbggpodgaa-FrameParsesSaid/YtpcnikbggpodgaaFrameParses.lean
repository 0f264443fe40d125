/-
  Proved: for any bytes FrameParses returns true (Parse's error is the document's; without an error kind and body are the frame's, with one they are nought) and nothing that was in memory turns. No condition.
-/
import Derived.Test.YtpcnikbggpodgaaRows
import Derived.WalkKit
import Derived.ProofKit
import Derived.OpenShut
import Derived.ShutString
import Derived.ChangeOld
import Derived.Below
import Derived.Test.YtpcnikbggpodgaaLaw14
import Derived.Deep.CutRange
namespace Go.Proofs.Ytpcnikbggpodgaa.frameParses
open Go.ChangeShapes Go.WideShapes Go.ChangeAt Go.RowKit
open Go.ChangeMaps (open_string shut_string)
set_option linter.unusedVariables false

theorem own : ownKnob Try.prog.godebug = none := by kernel_rfl
theorem laidOut : laidOutB Try.prog = true := by kernel_rfl

/-- WHAT THE WALK IS TOLD OF A SLICE OF INTEGERS THAT CAME IN: it is nil; or it leads to a row of 'cap' cells, the numbers 'zs' (the first 'len' are its elements, the rest its spare room), each fitting its kind. -/
def IsRow (k : IntKind) (w : World) (a : Option Addr) (len cap : Nat) (zs : List Int) : Prop :=
  (a = none ∧ len = 0 ∧ cap = 0 ∧ zs = []) ∨
  ∃ x, a = some x ∧ len ≤ cap ∧ cap ≤ maxLen ∧ zs.length = cap ∧ (∀ i, i < zs.length → w.cell? (x.add i) = some (.int k (zs.getD i 0))) ∧ ∀ n ∈ zs, (Lit.int k n).wf = true

/-! ### STEP 1: THE WALK: the Go text returns true, AND WRITES NOTHING THAT WAS THERE: 'Below w.heap.size w w'' (Derived/Below.lean: '.refl', '.alloc', '.drew', '.setCell' at a new block, '.trans'). Open each 'IsRow' by 'rcases' AHEAD of 'go_enter'; part every test ahead of the walk. -/
set_option maxHeartbeats 3200000 in
theorem walk (a0 : Option Addr) (len0 cap0 : Nat) (z0 : List Int) (w : World) (w0 : IsRow .u8 w a0 len0 cap0 z0) :
    Calls Try.prog 4 #[.slice a0 len0 cap0] w fun e w' => e = .returned (.bool true) ∧ Below w.heap.size w w' := by
  obtain ⟨xs, hq⟩ := rw_of_row w0
  have HQ := Lib.hid hq
  have HL : Hid (xs.length = len0) := Lib.hid hq.1.1
  clear w0 hq
  by_cases h3000 : 3000 < len0
  · have h1 : (3000 : Int) < (len0 : Int) := by omega
    go_enter Try.func4, Try.ntmps4
    go_wp2_with fail
    refine (awake14 _).mono ?_
    rintro e w2 ⟨rfl, hb1⟩
    go_wp2_with fail
    refine (awake14 _).mono ?_
    rintro e w3 ⟨rfl, hb2⟩
    have HB := Lib.hid (below_two hb1 hb2)
    clear hb1 hb2
    go_wp2_with fail
    go_ret
    exact ⟨rfl, HB.out⟩
  · have h1 : ¬ (3000 : Int) < (len0 : Int) := by omega
    go_enter Try.func4, Try.ntmps4
    go_wp2_with fail
    refine (awake14 _).mono ?_
    rintro e w2 ⟨rfl, hb2⟩
    obtain ⟨g, w3, hr3, hg3, hgv, hgn, hb3⟩ := copy14 w2 ⟨a0, len0, cap0, xs⟩ (HQ.out.below hb2) (by show len0 ≤ _; omega)
    simp only at hr3 hgv hgn
    obtain ⟨ga, gn, gcap, gv⟩ := g
    simp only at hgv hgn hr3 hg3
    obtain rfl : gv = xs := hgv
    obtain rfl : gn = len0 := hgn
    have HB3 := Lib.hid (below_two hb2 hb3)
    have P1 := parse14 _ w3 hg3 (by show gn ≤ _; omega)
    simp only at P1
    clear hb2 hb3 hg3
    go_wp2_with (at_builtin; refine wpList_append_at (by rfl) _ _ _ (by rfl) _ _ (by rfl) (by rfl) hr3 ?_)
    refine P1.mono ?_
    rintro e w4 ⟨k, c, rfl, hc, hok, hno, hb4⟩
    have HB4 := Lib.hid (below_two HB3.out hb4)
    have P2 := dfault14 ⟨a0, gn, cap0, gv⟩ w4 (HQ.out.below HB4.out) (by show gn ≤ _; omega)
    simp only at P2
    unfold FaultE at P2
    have HOK := Lib.hid hok
    have HNO := Lib.hid hno
    have HFZ : Hid (flt gv = 0 → 12 ≤ gn) := Lib.hid (fun h => by
      have h1 := flt_ok h
      have := csz_le h1.1
      have := HL.out
      omega)
    generalize flt gv = f at P2 HOK HNO HFZ ⊢
    have HC := Lib.hid hc
    clear P1 hr3 hc hok hno hb4
    go_wp2_with fail
    refine P2.mono ?_
    rintro e w5 ⟨rfl, hb5⟩
    have HB5 := Lib.hid (below_two HB4.out hb5)
    have hC5 := HC.out.below hb5
    clear P2 hb5
    by_cases hf : f = 0
    · obtain ⟨rfl, hv⟩ := HOK.out hf
      have h12 := HFZ.out hf
      subst hf
      obtain ⟨ca, cn, ccap, cv⟩ := c
      simp only at hv
      have hQ5 := HQ.out.below HB5.out
      obtain ⟨b, off, x3, rfl, c3, hx3, _⟩ := hQ5.1.at_ (show 3 < gn by omega)
      rw [hx3.out]
      obtain ⟨m, hm⟩ : ∃ m, gn = m + 4 := ⟨gn - 4, by omega⟩
      obtain ⟨u, hu⟩ : ∃ u, m - 8 = u := ⟨_, rfl⟩
      have hE5 : Elems .u8 w5 (some ⟨b, off, none⟩) gn gv := hQ5.1
      have hE := (hE5.drop 8 (by omega)).take u (by omega)
      have e8 : (gv.drop 8).take u = cv := by rw [hv, show gv.length - 12 = u by rw [HL.out]; omega]
      rw [e8] at hE
      have HE := Lib.hid hE
      have HC5 := Lib.hid hC5.1
      obtain ⟨s1, hs1⟩ : ∃ s, strOfNums cv = s := ⟨_, rfl⟩
      have HCV : Hid (∀ (W : World) (a : Option Addr) (m cap : Nat), Elems .u8 W a m cv → Sem.run Try.prog (convert 22 9 (.slice a m cap)) W = .ok (.string s1) W) := Lib.hid (fun W a m cap hE => by rw [← hs1]; exact conv_u8 hE)
      have q0 := HCV.out w5 ca cn ccap HC5.out
      have q1 : Sem.run Try.prog (convert 22 9 (.slice ca cn ccap)) w5.drew = .ok (.string s1) w5.drew := HCV.out w5.drew ca cn ccap HC5.out
      have q2 := HCV.out w5 (some ⟨b, off + 8, none⟩) u (cap0 - 8) HE.out
      have q3 : Sem.run Try.prog (convert 22 9 (.slice (some ⟨b, off + 8, none⟩) u (cap0 - 8))) w5.drew = .ok (.string s1) w5.drew := HCV.out w5.drew (some ⟨b, off + 8, none⟩) u (cap0 - 8) HE.out
      have hcap : gn ≤ cap0 := hQ5.2.1
      have t1 : (gn : Int) - 4 = (m : Int) := by omega
      have t2 : (m : Int) - 8 = (u : Int) := by omega
      have t3 : m - 8 = u := hu
      have t4 : (8 : Int) ≤ (m : Int) := by omega
      have t5 : 8 ≤ m := by omega
      have t6 : (m : Int) ≤ (gn : Int) := by omega
      have t7 : (m : Int) ≤ (cap0 : Int) := by omega
      have t8 : m ≤ cap0 := by omega
      have t9 : ¬ cap0 = 8 := by omega
      have t10 : ¬ 8 = cap0 := by omega
      have t11 : 3 < gn := by omega
      have t12 : (3 : Int) < (gn : Int) := by omega
      have t13 : (0 : Int) ≤ (m : Int) := by omega
      have t14 : ¬ (m : Int) < 8 := by omega
      have t16 : ¬ m < 8 := by omega
      have t18 : IntKind.i64.wrap (m : Int) = (m : Int) := IntWalk.i64_in _ (by omega)
      have t19 : IntKind.i64.wrap ((gn : Int) - 4) = (m : Int) := by rw [t1]; exact t18
      have t20 : (x3 == x3) = true := by simp
      clear hQ5 hE5 hE hC5 hx3 hm hu hv e8 h12 HOK HNO HFZ hs1
      go_upto_region 9 with fail
      go_region_held3 (fun V => V.cell? ⟨b, off + 3, none⟩ = some (.int .u8 x3) ∧ Sem.run Try.prog (convert 22 9 (.slice ca cn ccap)) V = .ok (.string s1) V ∧ Sem.run Try.prog (convert 22 9 (.slice (some ⟨b, off + 8, none⟩) u (cap0 - 8))) V = .ok (.string s1) V)
        (first | go_keep | (go_split_ands; refine ⟨?_, ?_, ?_⟩ <;> assumption))
        (fail)
      all_goals
        go_wp2
        go_ret
        exact ⟨rfl, by first | exact HB5.out | exact HB5.out.drew | exact below_drewN HB5.out _⟩
    · obtain ⟨rfl, hn⟩ := HNO.out hf
      obtain ⟨ca, cn, ccap, cv⟩ := c
      simp only at hn
      subst hn
      have hf1 : ((f : Int) != 0) = true := by simp; omega
      clear hC5 HOK HNO HFZ HC
      go_wp2_with fail
      go_ret
      exact ⟨rfl, HB5.out⟩

/-! ### THE ROW's STEP: WRITTEN OUT: LEAVE IT -/
set_option maxRecDepth 100000 in
theorem lifted (os : Os) (started : os.Started) (H : Type) (enc : TypeId × Value → H) :
    ReturnsInHanded {} Try.checked os 4 .any (Rows.frameParsesSpec.pre6 enc Try.prog Try.f4 Rows.frameParsesRow.domain false) (Rows.frameParsesSpec.post enc Try.prog Try.f4 false true false false) := by
  refine returnsInHanded_of_change (C := Try.checked) own started (by kernel_rfl) Try.func4
    (ChangeSpec.witness6 (enc := enc) (C := Try.checked) false ⟨#[], #[.slice none 0 0], []⟩ 8 (by kernel_rfl) (by kernel_rfl) (by kernel_rfl) (by kernel_rfl)) ?_
  intro W base args ds gs before hval0 hW hcnd _
  have hval : ∀ (j : Nat) t v, Try.f4.params[j]? = some t → args[j]? = some v → Value.okWide Try.prog W .any base t v := hval0
  have hW' := hW
  obtain ⟨p, q, hA0, hV, rfl, hfz, hnd⟩ := hW
  have hA : DataW.TrodAll enc Try.prog W 0 (fun _ => true) true Try.f4.params.toList args.toList ds p := hA0
  rw [Try.params4] at hA hval
  obtain ⟨v0, vs0, d0, ds0, p0, q0, hargs, rfl, rfl, h0, r0⟩ := trodAll_cons hA
  obtain ⟨rfl, rfl, rfl⟩ := trodAll_nil r0
  obtain rfl : args = #[v0] := by cases args; simp_all
  obtain ⟨rfl, rfl⟩ := trodVars_none hV
  obtain ⟨a0, len0, cap0, rfl⟩ := okWide_slice Try.underlying22 (hval 0 22 v0 rfl rfl)
  have k0 := h0
  have lt0 : ∀ x ∈ p0, x.block < W.heap.size := by obtain ⟨m, hm⟩ := k0; exact DataW.trod_lt m _ _ _ hm
  obtain ⟨z0, w0⟩ : ∃ zs, IsRow .u8 W a0 len0 cap0 zs := by
    obtain ⟨fuel, hf⟩ := h0
    rcases open_ints Try.underlying22 Try.underlying5 (by kernel_rfl) hf with ⟨hcs, _⟩ | ⟨x, l, c, zs, hcs, _, hl, hm, hz, _, hcell, hwz⟩
    · simp [Value.cells] at hcs
      obtain ⟨rfl, rfl, rfl⟩ := hcs
      exact ⟨[], .inl ⟨rfl, rfl, rfl, rfl⟩⟩
    · simp [Value.cells] at hcs
      obtain ⟨rfl, rfl, rfl⟩ := hcs
      exact ⟨zs, .inr ⟨_, rfl, hl, hm, by simpa using hz, hcell, hwz⟩⟩
  clear hA0 hval0
  refine (walk a0 len0 cap0 z0 W w0).mono fun e W' ⟨he, bel⟩ => ?_
  subst he
  exact ⟨_, rfl, _, _, _, [], _, [], hW', trodAll_mk1 (shut_bool Try.underlying4 _), (trodAll_cons_mk (Below.trod laidOut (by kernel_rfl) (of_decide_eq_true (by kernel_rfl)) k0 bel lt0) trodAll_mk0), rfl, bel.frame _, fun h => by cases h⟩

theorem over : Rows.frameParsesRow.holds Try.pinned (OpenSpec.ofChange Rows.frameParsesSpec) :=
  OpenClaim.holds_of_wide 4 Try.f4 rfl rfl rfl rfl rfl rfl rfl ⟨rfl, rfl, rfl, rfl, rfl⟩ rfl rfl rfl rfl rfl (by kernel_rfl) Try.func4 (by kernel_rfl)
    (of_decide_eq_true (by kernel_rfl)) (by unfold Func.isWrapper; first | (rw [if_pos (by decide +kernel)]; kernel_rfl) | (rw [if_neg (by decide +kernel)]; exact ⟨rfl, rfl⟩))
    (fun os started H enc _ => lifted os started H enc)

/-- ████ THE STATEMENT ████ -/
theorem proved : Rows.FrameParsesSaid := over
#print axioms proved
end Go.Proofs.Ytpcnikbggpodgaa.frameParses
