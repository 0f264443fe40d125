/-
  Proved: for any kinds and bodies FrameApart returns true (unlike kinds or bodies have unlike frames, no frame is how another one begins) and nothing that was in memory turns. No condition.
-/
import Derived.Test.YtpcnikbggpodgaaRows
import Derived.WalkKit
import Derived.ProofKit
import Derived.OpenShut
import Derived.ShutString
import Derived.ChangeOld
import Derived.Below
import Derived.Test.YtpcnikbggpodgaaTwoRow14
import Derived.Test.YtpcnikbggpodgaaTwoRow14
import Derived.Test.YtpcnikbggpodgaaLaw14
import Derived.Deep.CutRange
namespace Go.Proofs.Ytpcnikbggpodgaa.frameApart
open Go.ChangeShapes Go.WideShapes Go.ChangeAt Go.RowKit
open Go.ChangeMaps (open_string shut_string)
set_option linter.unusedVariables false

theorem own : ownKnob Try.prog.godebug = none := by kernel_rfl
theorem laidOut : laidOutB Try.prog = true := by kernel_rfl

set_option maxHeartbeats 3200000 in
theorem walk (a0 : Int) (a1 : Int) (x2 : Bd14) (w : World) (h0 : (Lit.int .u8 a0).wf = true) (h1 : (Lit.int .u8 a1).wf = true) (h2 : Bd14.In w x2) :
    Calls Try.prog 7 #[.int .u8 a0, .int .u8 a1, .agg #[.slice x2.p.a x2.p.n x2.p.cap, .slice x2.q.a x2.q.n x2.q.cap]] w fun e w' => e = .returned (.bool true) ∧ Below w.heap.size w w' := by
  obtain ⟨⟨a, n, cap, xs⟩, ⟨a', n', cap', ys⟩⟩ := x2
  obtain ⟨hp, hq⟩ := h2
  simp only at hp hq
  have HP := Lib.hid hp
  have HQ := Lib.hid hq
  have HL : Hid (xs.length = n) := Lib.hid hp.1.1
  have HW : Hid (∀ x ∈ xs, (Lit.int .u8 x).wf = true) := Lib.hid hp.1.2.2.1
  have HL' : Hid (ys.length = n') := Lib.hid hq.1.1
  have HW' : Hid (∀ x ∈ ys, (Lit.int .u8 x).wf = true) := Lib.hid hq.1.2.2.1
  have HK := Lib.hid h0
  have HK' := Lib.hid h1
  simp only
  clear h0 h1 hp hq
  have hbx := box_new w 41 #[.slice a n cap, .slice a' n' cap']
  have HBX := Lib.hid hbx
  have HB0 : Hid (Below w.heap.size w (w.alloc (.cells #[.slice a n cap, .slice a' n' cap'] 41))) := Lib.hid ((Below.refl _ _).alloc (Nat.le_refl _) _)
  by_cases h1000 : 1000 < n ∨ 1000 < n'
  · clear hbx
    by_cases hA : 1000 < n
    · have h1 : (1000 : Int) < (n : Int) := by omega
      clear h1000
      go_enter Try.func7, Try.ntmps7
      go_wp2_with fail
      refine (awake14 _).mono ?_
      rintro e w2 ⟨rfl, hb1⟩
      have hX := HBX.out.bel hb1
      have c0 : w2.cell? ⟨w.heap.size, 0, none⟩ = some (.slice a n cap) := hX.cell 0
      have c1 : w2.cell? ⟨w.heap.size, 1, none⟩ = some (.slice a' n' cap') := hX.cell 1
      have HB1 := Lib.hid (below_two HB0.out hb1)
      clear hX hb1
      go_wp2_with fail
      refine (awake14 _).mono ?_
      rintro e w3 ⟨rfl, hb2⟩
      have HB := Lib.hid (below_two HB1.out hb2)
      clear hb2
      go_wp2_with fail
      go_ret
      exact ⟨rfl, HB.out⟩
    · have h1 : ¬ (1000 : Int) < (n : Int) := by omega
      have h2 : (1000 : Int) < (n' : Int) := by omega
      clear h1000
      go_enter Try.func7, Try.ntmps7
      go_wp2_with fail
      refine (awake14 _).mono ?_
      rintro e w2 ⟨rfl, hb1⟩
      have hX := HBX.out.bel hb1
      have c0 : w2.cell? ⟨w.heap.size, 0, none⟩ = some (.slice a n cap) := hX.cell 0
      have c1 : w2.cell? ⟨w.heap.size, 1, none⟩ = some (.slice a' n' cap') := hX.cell 1
      have HB1 := Lib.hid (below_two HB0.out hb1)
      clear hX hb1
      go_wp2_with fail
      refine (awake14 _).mono ?_
      rintro e w3 ⟨rfl, hb2⟩
      have HB := Lib.hid (below_two HB1.out hb2)
      clear hb2
      go_wp2_with fail
      go_ret
      exact ⟨rfl, HB.out⟩
  · have h1 : ¬ (1000 : Int) < (n : Int) := by omega
    have h2 : ¬ (1000 : Int) < (n' : Int) := by omega
    have h3 : n ≤ 1000 := by omega
    have h4 : n' ≤ 1000 := by omega
    clear hbx h1000
    go_enter Try.func7, Try.ntmps7
    go_wp2_with fail
    refine (awake14 _).mono ?_
    rintro e w2 ⟨rfl, hb1⟩
    have hX := HBX.out.bel hb1
    have HX2 := Lib.hid hX
    have c0 : w2.cell? ⟨w.heap.size, 0, none⟩ = some (.slice a n cap) := hX.cell 0
    have c1 : w2.cell? ⟨w.heap.size, 1, none⟩ = some (.slice a' n' cap') := hX.cell 1
    have HB1 := Lib.hid (below_two HB0.out hb1)
    have P1 := pack14 a0 HK.out ⟨a, n, cap, xs⟩ w2 (HP.out.below HB1.out) (by show n ≤ _; omega)
    simp only at P1
    clear hX hb1
    go_wp2_with fail
    refine P1.mono ?_
    rintro e w3 ⟨⟨v3, rfl, ho3⟩, hb3⟩
    have HB3 := Lib.hid (below_two HB1.out hb3)
    obtain ⟨fa, fcap, rfl, hF, _, _⟩ := frm_row HK.out HW.out (by rw [HL.out]; omega) HL.out.symm ho3
    have hX := HX2.out.bel hb3
    have HX3 := Lib.hid hX
    have d0 : w3.cell? ⟨w.heap.size, 0, none⟩ = some (.slice a n cap) := hX.cell 0
    have d1 : w3.cell? ⟨w.heap.size, 1, none⟩ = some (.slice a' n' cap') := hX.cell 1
    have HF3 := Lib.hid hF
    have P2 := pack14 a1 HK'.out ⟨a', n', cap', ys⟩ w3 (HQ.out.below HB3.out) (by show n' ≤ _; omega)
    simp only at P2
    clear c0 c1 hX hb3 ho3 hF P1
    go_wp2_with fail
    refine P2.mono ?_
    rintro e w4 ⟨⟨v4, rfl, ho4⟩, hb4⟩
    have HB4 := Lib.hid (below_two HB3.out hb4)
    obtain ⟨fb, fcap', rfl, hG, _, _⟩ := frm_row HK'.out HW'.out (by rw [HL'.out]; omega) HL'.out.symm ho4
    have hF := HF3.out.below hb4
    have hX := HX3.out.bel hb4
    have c0 : w4.cell? ⟨w.heap.size, 0, none⟩ = some (.slice a n cap) := hX.cell 0
    have c1 : w4.cell? ⟨w.heap.size, 1, none⟩ = some (.slice a' n' cap') := hX.cell 1
    have hP4 := (HP.out.below HB4.out).1
    have hQ4 := (HQ.out.below HB4.out).1
    -- lengths, as letters
    obtain ⟨N, hN⟩ : ∃ N, min (n + 12) (n' + 12) = N := ⟨_, rfl⟩
    have hA1 : Elems .u8 w4 (some ⟨fa, 0, none⟩) (n + 12) (frm a0 xs) := hF.1
    have hB1 : Elems .u8 w4 (some ⟨fb, 0, none⟩) (n' + 12) (frm a1 ys) := hG.1
    have hA2 := hA1.take N (by omega)
    have hB2 := hB1.take N (by omega)
    have hca : n + 12 ≤ fcap := hF.2.1
    have hcb : n' + 12 ≤ fcap' := hG.2.1
    have k1 := conv_u8 (cap := cap) hP4
    have k2 := conv_u8 (cap := cap') hQ4
    have k3 := conv_u8 (cap := fcap) hA1
    have k4 := conv_u8 (cap := fcap') hB1
    have k5 := conv_u8 (cap := fcap) hA2
    have k6 := conv_u8 (cap := fcap') hB2
    have e1 := str14_eq HW.out HW'.out
    have e3 := str14_eq (frm_wf HK.out HW.out (by rw [HL.out]; omega)) (frm_wf HK'.out HW'.out (by rw [HL'.out]; omega))
    have e5 := str14_eq hA2.2.2.1 hB2.2.2.1
    have hap : (frm a0 xs).take N = (frm a1 ys).take N → a0 = a1 ∧ xs = ys := fun h => frm_apart (by rw [HL.out]; omega) (by rw [HL'.out]; omega) (by rw [HL.out, HL'.out, hN]; exact h)
    generalize strOfNums xs = s1 at k1 e1
    generalize strOfNums ys = s2 at k2 e1
    obtain ⟨s3, h3⟩ : ∃ s, strOfNums (frm a0 xs) = s := ⟨_, rfl⟩
    obtain ⟨s4, h4⟩ : ∃ s, strOfNums (frm a1 ys) = s := ⟨_, rfl⟩
    obtain ⟨s5, h5⟩ : ∃ s, strOfNums ((frm a0 xs).take N) = s := ⟨_, rfl⟩
    obtain ⟨s6, h6⟩ : ∃ s, strOfNums ((frm a1 ys).take N) = s := ⟨_, rfl⟩
    rw [h3] at k3 e3
    rw [h4] at k4 e3
    rw [h5] at k5 e5
    rw [h6] at k6 e5
    have j3 : Sem.run Try.prog (convert 22 9 (.slice (some ⟨fa, 0, none⟩) (n + 12) fcap)) w4.drew = .ok (.string s3) w4.drew := by rw [← h3]; exact conv_u8 (hA1.drewN 1)
    have j4 : Sem.run Try.prog (convert 22 9 (.slice (some ⟨fb, 0, none⟩) (n' + 12) fcap')) w4.drew = .ok (.string s4) w4.drew := by rw [← h4]; exact conv_u8 (hB1.drewN 1)
    have j5 : Sem.run Try.prog (convert 22 9 (.slice (some ⟨fa, 0, none⟩) N fcap)) w4.drew = .ok (.string s5) w4.drew := by rw [← h5]; exact conv_u8 (hA2.drewN 1)
    have j6 : Sem.run Try.prog (convert 22 9 (.slice (some ⟨fb, 0, none⟩) N fcap')) w4.drew = .ok (.string s6) w4.drew := by rw [← h6]; exact conv_u8 (hB2.drewN 1)
    have u1 : N ≤ fcap := by omega
    have u2 : N ≤ fcap' := by omega
    have u3 : (N : Int) ≤ (fcap : Int) := by omega
    have u4 : (N : Int) ≤ (fcap' : Int) := by omega
    have u5 : (0 : Int) ≤ (N : Int) := by omega
    have u6 : min ((n : Int) + 12) ((n' : Int) + 12) = (N : Int) := by omega
    have u7 : (if (n' : Int) + 12 < (n : Int) + 12 then (n' : Int) + 12 else (n : Int) + 12) = (N : Int) := by split <;> omega
    have u8 : (if (n' : Int) < (n : Int) then (n' : Int) + 12 else (n : Int) + 12) = (N : Int) := by split <;> omega
    have u10 : IntKind.i64.wrap ((n : Int) + 12) = (n : Int) + 12 := IntWalk.i64_in _ (by omega)
    clear P2 hb4 ho4 hF hG hX hP4 hQ4 hA1 hB1 hA2 hB2 h5 h6 d0 d1 hca hcb
    by_cases hk : a0 = a1
    · subst hk
      obtain ⟨bb, hbb⟩ : ∃ bb, decide (xs = ys) = bb := ⟨_, rfl⟩
      have g3 : decide (frm a0 xs = frm a0 ys) = bb := by
        rw [← hbb]
        by_cases h : xs = ys
        · rw [decide_eq_true h, decide_eq_true (by rw [h])]
        · rw [decide_eq_false h, decide_eq_false (fun e => h (hap (by rw [e])).2)]
      have g5 : decide ((frm a0 xs).take N = (frm a0 ys).take N) = bb := by
        rw [← hbb]
        by_cases h : xs = ys
        · rw [decide_eq_true h, decide_eq_true (by rw [h])]
        · rw [decide_eq_false h, decide_eq_false (fun e => h (hap e).2)]
      rw [hbb] at e1
      rw [g3] at e3
      rw [g5] at e5
      have u9 : (bb == bb) = true := by simp
      clear g3 g5 hap hN hbb h3 h4
      go_upto_region 9 with fail
      go_region_held3 (fun V => V.cell? ⟨w.heap.size, 0, none⟩ = some (.slice a n cap) ∧ Sem.run Try.prog (convert 22 9 (.slice (some ⟨fa, 0, none⟩) (n + 12) fcap)) V = .ok (.string s3) V ∧ Sem.run Try.prog (convert 22 9 (.slice (some ⟨fb, 0, none⟩) (n' + 12) fcap')) V = .ok (.string s4) V ∧ Sem.run Try.prog (convert 22 9 (.slice (some ⟨fa, 0, none⟩) N fcap)) V = .ok (.string s5) V ∧ Sem.run Try.prog (convert 22 9 (.slice (some ⟨fb, 0, none⟩) N fcap')) V = .ok (.string s6) V)
        (first | go_keep | (go_split_ands; refine ⟨?_, ?_, ?_, ?_, ?_⟩ <;> assumption))
        (fail)
      all_goals
        go_wp2
        go_ret
        exact ⟨rfl, by first | exact HB4.out | exact HB4.out.drew | exact below_drewN HB4.out _⟩
    · have g3 : decide (frm a0 xs = frm a1 ys) = false := decide_eq_false (fun e => hk (hap (by rw [e])).1)
      have g5 : decide ((frm a0 xs).take N = (frm a1 ys).take N) = false := decide_eq_false (fun e => hk (hap e).1)
      rw [g3] at e3
      rw [g5] at e5
      have e0 : (a0 == a1) = false := by simp [hk]
      clear g3 g5 hap hN h3 h4 hk e1 k1 k2
      go_upto_region 9 with fail
      go_region_held3 (fun V => V.cell? ⟨w.heap.size, 0, none⟩ = some (.slice a n cap) ∧ Sem.run Try.prog (convert 22 9 (.slice (some ⟨fa, 0, none⟩) (n + 12) fcap)) V = .ok (.string s3) V ∧ Sem.run Try.prog (convert 22 9 (.slice (some ⟨fb, 0, none⟩) (n' + 12) fcap')) V = .ok (.string s4) V ∧ Sem.run Try.prog (convert 22 9 (.slice (some ⟨fa, 0, none⟩) N fcap)) V = .ok (.string s5) V ∧ Sem.run Try.prog (convert 22 9 (.slice (some ⟨fb, 0, none⟩) N fcap')) V = .ok (.string s6) V)
        (first | go_keep | (go_split_ands; refine ⟨?_, ?_, ?_, ?_, ?_⟩ <;> assumption))
        (fail)
      all_goals
        go_wp2
        go_ret
        exact ⟨rfl, by first | exact HB4.out | exact HB4.out.drew | exact below_drewN HB4.out _⟩

set_option maxRecDepth 100000 in
theorem lifted (os : Os) (started : os.Started) (H : Type) (enc : TypeId × Value → H) :
    ReturnsInHanded {} Try.checked os 7 .any (Rows.frameApartSpec.pre6 enc Try.prog Try.f7 Rows.frameApartRow.domain false) (Rows.frameApartSpec.post enc Try.prog Try.f7 false true false false) := by
  refine returnsInHanded_of_change (C := Try.checked) own started (by kernel_rfl) Try.func7
    (ChangeSpec.witness6 (enc := enc) (C := Try.checked) false ⟨#[], #[.int .u8 0, .int .u8 0, .agg #[.slice none 0 0, .slice none 0 0]], []⟩ 8 (by kernel_rfl) (by kernel_rfl) (by kernel_rfl) (by kernel_rfl)) ?_
  intro W base args ds gs before hval0 hW hcnd _
  have hval : ∀ (j : Nat) t v, Try.f7.params[j]? = some t → args[j]? = some v → Value.okWide Try.prog W .any base t v := hval0
  have hW' := hW
  obtain ⟨p, q, hA0, hV, rfl, hfz, hnd⟩ := hW
  have hA : DataW.TrodAll enc Try.prog W 0 (fun _ => true) true Try.f7.params.toList args.toList ds p := hA0
  rw [Try.params7] at hA hval
  obtain ⟨v0, vs0, d0, ds0, p0, q0, hargs, rfl, rfl, h0, r0⟩ := trodAll_cons hA
  obtain ⟨v1, vs1, d1, ds1, p1, q1, rfl, rfl, rfl, h1, r1⟩ := trodAll_cons r0
  obtain ⟨v2, vs2, d2, ds2, p2, q2, rfl, rfl, rfl, h2, r2⟩ := trodAll_cons r1
  obtain ⟨rfl, rfl, rfl⟩ := trodAll_nil r2
  obtain rfl : args = #[v0, v1, v2] := by cases args; simp_all
  obtain ⟨rfl, rfl⟩ := trodVars_none hV
  obtain ⟨a0, rfl, rfl, rfl, w0⟩ := open_int Try.underlying5 (hval 0 5 v0 rfl rfl) h0
  obtain ⟨a1, rfl, rfl, rfl, w1⟩ := open_int Try.underlying5 (hval 1 5 v1 rfl rfl) h1
  have k2 := h2
  have lt2 : ∀ x ∈ p2, x.block < W.heap.size := by obtain ⟨m, hm⟩ := k2; exact DataW.trod_lt m _ _ _ hm
  obtain ⟨x2, rfl, w2⟩ := open_Bd14 (hval 2 41 v2 rfl rfl) h2
  clear hA0 hval0
  refine (walk a0 a1 x2 W w0 w1 w2).mono fun e W' ⟨he, bel⟩ => ?_
  subst he
  exact ⟨_, rfl, _, _, _, [], _, [], hW', trodAll_mk1 (shut_bool Try.underlying4 _), (trodAll_cons_mk (shut_int Try.underlying5 w0) (trodAll_cons_mk (shut_int Try.underlying5 w1) (trodAll_cons_mk (Below.trod laidOut (by kernel_rfl) (of_decide_eq_true (by kernel_rfl)) k2 bel lt2) trodAll_mk0))), rfl, bel.frame _, fun h => by cases h⟩

theorem over : Rows.frameApartRow.holds Try.pinned (OpenSpec.ofChange Rows.frameApartSpec) :=
  OpenClaim.holds_of_wide 7 Try.f7 rfl rfl rfl rfl rfl rfl rfl ⟨rfl, rfl, rfl, rfl, rfl⟩ rfl rfl rfl rfl rfl (by kernel_rfl) Try.func7 (by kernel_rfl)
    (of_decide_eq_true (by kernel_rfl)) (by unfold Func.isWrapper; first | (rw [if_pos (by decide +kernel)]; kernel_rfl) | (rw [if_neg (by decide +kernel)]; exact ⟨rfl, rfl⟩))
    (fun os started H enc _ => lifted os started H enc)

/-- ████ THE STATEMENT ████ -/
theorem proved : Rows.FrameApartSaid := over
#print axioms proved
end Go.Proofs.Ytpcnikbggpodgaa.frameApart
