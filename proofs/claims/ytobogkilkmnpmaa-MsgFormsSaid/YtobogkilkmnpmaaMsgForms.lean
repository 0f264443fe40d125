/-
  Proved: for every message and all whole numbers MsgForms returns true (of a right message's numbers, turned one by one, just those are right that the document's table says) and nothing that was in memory turns. No condition.
-/
import Derived.Test.YtobogkilkmnpmaaRows
import Derived.WalkKit
import Derived.ProofKit
import Derived.OpenShut
import Derived.ShutString
import Derived.ChangeOld
import Derived.Below
import Derived.Test.YtobogkilkmnpmaaMsRow15
import Derived.Test.YtobogkilkmnpmaaMsRow15
import Derived.Test.YtobogkilkmnpmaaLaw15
import Derived.Deep.CutRange
namespace Go.Proofs.Ytobogkilkmnpmaa.msgForms
open Go.ChangeShapes Go.WideShapes Go.ChangeAt Go.RowKit
open Go.ChangeMaps (open_string shut_string)
set_option linter.unusedVariables false

theorem own : ownKnob Try.prog.godebug = none := by kernel_rfl
theorem laidOut : laidOutB Try.prog = true := by kernel_rfl

set_option maxHeartbeats 12800000 in
set_option maxRecDepth 100000 in
theorem walk (x0 : Ms15) (a1 : Int) (a2 : Int) (w : World) (h0 : Ms15.In w x0) (h1 : (Lit.int .i64 a1).wf = true) (h2 : (Lit.int .i64 a2).wf = true) :
    Calls Try.prog 6 #[.agg #[.int .i64 x0.kind, .int .i64 x0.n0, .int .i64 x0.n1, .int .i64 x0.n2, .int .i64 x0.n3, .int .i64 x0.n4, .int .i64 x0.n5, .int .i64 x0.n6, .slice x0.li.a x0.li.n x0.li.cap], .int .i64 a1, .int .i64 a2] w fun e w' => e = .returned (.bool true) ∧ Below w.heap.size w w' := by
  have X := ms_box x0 w
  have hB1 := (Below.refl w.heap.size w).alloc (Nat.le_refl _) (.cells #[.int .i64 x0.kind, .int .i64 x0.n0, .int .i64 x0.n1, .int .i64 x0.n2, .int .i64 x0.n3, .int .i64 x0.n4, .int .i64 x0.n5, .int .i64 x0.n6, .slice x0.li.a x0.li.n x0.li.cap] 24)
  have HI := Lib.hid h0
  have HN2 := Lib.hid h2
  obtain ⟨ab, hab⟩ : ∃ ab, w.heap.size = ab := ⟨_, rfl⟩
  have hll : x0.li.n ≤ 9223372036854775807 := h0.li.1.2.1
  obtain ⟨r, K, r1, r2, r3, r4, r5, r6⟩ := rest14 a1 7 (by omega)
  have w1b := wf64 h1
  clear h0 h2
  by_cases h5 : 1000 < x0.li.n
  · have h5' : (1000 : Int) < (x0.li.n : Int) := by omega
    clear r1 r2 r3 r4 r5 r6 h1 w1b
    go_enter Try.func6, Try.ntmps6
    go_upto_region 1 with fail
    generalize (w.alloc (.cells #[.int .i64 x0.kind, .int .i64 x0.n0, .int .i64 x0.n1, .int .i64 x0.n2, .int .i64 x0.n3, .int .i64 x0.n4, .int .i64 x0.n5, .int .i64 x0.n6, .slice x0.li.a x0.li.n x0.li.cap] 24)) = w1 at X hB1 ⊢
    rw [hab] at X
    have HX := Lib.hid X
    have HB1 := Lib.hid hB1
    have HAB := Lib.hid hab
    clear X hB1
    go_wp2_with fail
    clear hab
    refine (awake15 _).mono ?_
    rintro e w2 ⟨rfl, hb2⟩
    have a8 : w2.cell? ⟨ab, 8, none⟩ = some (.slice x0.li.a x0.li.n x0.li.cap) := (HX.out.bel hb2).cell 8
    have HB2 := Lib.hid (below_two HB1.out hb2)
    clear hb2
    go_wp2_with fail
    refine (awake15 _).mono ?_
    rintro e w3 ⟨rfl, hb3⟩
    have HB3 := Lib.hid (below_two HB2.out hb3)
    clear hb3
    go_wp2_with fail
    go_ret
    exact ⟨rfl, HB3.out⟩
  · have h5' : ¬ (1000 : Int) < (x0.li.n : Int) := by omega
    have HN5 : Hid (x0.li.n ≤ 65536) := Lib.hid (by omega)
    have HR := Lib.hid (And.intro r1 (And.intro r2 (And.intro r3 (And.intro r4 (And.intro r5 r6)))))
    have HW1 := Lib.hid w1b
    clear h5 r1 r2 r3 r4 r5 r6 w1b h1
    go_enter Try.func6, Try.ntmps6
    go_upto_region 1 with fail
    generalize (w.alloc (.cells #[.int .i64 x0.kind, .int .i64 x0.n0, .int .i64 x0.n1, .int .i64 x0.n2, .int .i64 x0.n3, .int .i64 x0.n4, .int .i64 x0.n5, .int .i64 x0.n6, .slice x0.li.a x0.li.n x0.li.cap] 24)) = w1 at X hB1 ⊢
    rw [hab] at X
    have HX := Lib.hid X
    have HB1 := Lib.hid hB1
    have HAB := Lib.hid hab
    clear X hB1
    go_wp2_with fail
    clear hab
    refine (awake15 _).mono ?_
    rintro e w2 ⟨rfl, hb2⟩
    have X2 := HX.out.bel hb2
    have a0 : w2.cell? ⟨ab, 0, none⟩ = some (.int .i64 x0.kind) := X2.cell 0
    have a1 : w2.cell? ⟨ab, 1, none⟩ = some (.int .i64 x0.n0) := X2.cell 1
    have a2 : w2.cell? ⟨ab, 2, none⟩ = some (.int .i64 x0.n1) := X2.cell 2
    have a3 : w2.cell? ⟨ab, 3, none⟩ = some (.int .i64 x0.n2) := X2.cell 3
    have a4 : w2.cell? ⟨ab, 4, none⟩ = some (.int .i64 x0.n3) := X2.cell 4
    have a5 : w2.cell? ⟨ab, 5, none⟩ = some (.int .i64 x0.n4) := X2.cell 5
    have a6 : w2.cell? ⟨ab, 6, none⟩ = some (.int .i64 x0.n5) := X2.cell 6
    have a7 : w2.cell? ⟨ab, 7, none⟩ = some (.int .i64 x0.n6) := X2.cell 7
    have a8 : w2.cell? ⟨ab, 8, none⟩ = some (.slice x0.li.a x0.li.n x0.li.cap) := X2.cell 8
    have HX2 := Lib.hid X2
    have HB2 := Lib.hid (below_two HB1.out hb2)
    have R1 := dright15 x0 w2 (HI.out.below HB2.out)
    clear hb2 X2
    cases hr : rightM x0 with
    | false =>
      rw [hr] at R1
      clear hr
      go_wp2_with fail
      refine R1.mono ?_
      rintro e w3 ⟨rfl, hb3⟩
      have HB3 := Lib.hid (below_two HB2.out hb3)
      clear R1 hb3 a0 a1 a2 a3 a4 a5 a6 a7 a8
      go_wp2_with fail
      refine (awake15 _).mono ?_
      rintro e w4 ⟨rfl, hb4⟩
      have HB4 := Lib.hid (below_two HB3.out hb4)
      clear hb4
      go_wp2_with fail
      go_ret
      exact ⟨rfl, HB4.out⟩
    | true =>
      rw [hr] at R1
      have HRX := Lib.hid hr
      clear hr
      go_wp2_with fail
      refine R1.mono ?_
      rintro e w3 ⟨rfl, hb3⟩
      clear a0 a1 a2 a3 a4 a5 a6 a7 a8
      have X3 := HX2.out.bel hb3
      have b0 : w3.cell? ⟨ab, 0, none⟩ = some (.int .i64 x0.kind) := X3.cell 0
      have b1 : w3.cell? ⟨ab, 1, none⟩ = some (.int .i64 x0.n0) := X3.cell 1
      have b2 : w3.cell? ⟨ab, 2, none⟩ = some (.int .i64 x0.n1) := X3.cell 2
      have b3 : w3.cell? ⟨ab, 3, none⟩ = some (.int .i64 x0.n2) := X3.cell 3
      have b4 : w3.cell? ⟨ab, 4, none⟩ = some (.int .i64 x0.n3) := X3.cell 4
      have b5 : w3.cell? ⟨ab, 5, none⟩ = some (.int .i64 x0.n4) := X3.cell 5
      have b6 : w3.cell? ⟨ab, 6, none⟩ = some (.int .i64 x0.n5) := X3.cell 6
      have b7 : w3.cell? ⟨ab, 7, none⟩ = some (.int .i64 x0.n6) := X3.cell 7
      have b8 : w3.cell? ⟨ab, 8, none⟩ = some (.slice x0.li.a x0.li.n x0.li.cap) := X3.cell 8
      have HX3 := Lib.hid X3
      have HB3 := Lib.hid (below_two HB2.out hb3)
      have C1 := mclone15 x0 w3 (HI.out.below HB3.out) HN5.out
      obtain ⟨r1, r2, r3, r4, r5, r6⟩ := HR.out
      have wb := HW1.out
      have g1 : IntKind.i64.wrap r = r := IntWalk.i64_in _ (by omega)
      have g2 : IntKind.i64.wrap (r + 7) = r + 7 := IntWalk.i64_in _ (by omega)
      have g3 : IntKind.i64.wrap (K : Int) = (K : Int) := IntWalk.i64_in _ (by omega)
      have r1' : a1.tmod 7 = r := r1
      have r4' : (r + 7).tmod 7 = (K : Int) := r4
      have r5' : (r + 7) % 7 = (K : Int) := r5
      have HK7 := Lib.hid r6
      clear R1 hb3 X3 r1 r4 r5 r6 r2 r3 wb
      go_wp2_with fail
      refine C1.mono ?_
      rintro e w4 ⟨hce, hb4⟩
      obtain ⟨y, rfl, hcp⟩ := clone_copy (HI.out.below (below_two HB3.out hb4)) hce
      have HX4 := Lib.hid (HX3.out.bel hb4)
      have HB4 := Lib.hid (below_two HB3.out hb4)
      have HCP := Lib.hid hcp
      obtain ⟨cb, hcb⟩ : ∃ cb, w4.heap.size = cb := ⟨_, rfl⟩
      clear C1 hb4 hce hcp b0 b1 b2 b3 b4 b5 b6 b7 b8 r1' r4' r5' g1 g2 g3
      go_upto_region 6 with fail
      have Y5 : Box (w4.alloc (.cells #[.int .i64 y.kind, .int .i64 y.n0, .int .i64 y.n1, .int .i64 y.n2, .int .i64 y.n3, .int .i64 y.n4, .int .i64 y.n5, .int .i64 y.n6, .slice y.li.a y.li.n y.li.cap] 24)) w4.heap.size 24 #[.int .i64 y.kind, .int .i64 y.n0, .int .i64 y.n1, .int .i64 y.n2, .int .i64 y.n3, .int .i64 y.n4, .int .i64 y.n5, .int .i64 y.n6, .slice y.li.a y.li.n y.li.cap] := box_new _ _ _
      have hb5 : Below w4.heap.size w4 (w4.alloc (.cells #[.int .i64 y.kind, .int .i64 y.n0, .int .i64 y.n1, .int .i64 y.n2, .int .i64 y.n3, .int .i64 y.n4, .int .i64 y.n5, .int .i64 y.n6, .slice y.li.a y.li.n y.li.cap] 24)) := (Below.refl _ w4).alloc (Nat.le_refl _) _
      have hnec : ∀ a, y.li.a = some a → 0 < y.li.n → a.block ≠ cb := fun a ha h0 => by have := (HCP.out.ok.li.1).blk a ha h0; rw [hcb] at this; omega
      have hac : ab < cb := by rw [← hcb]; exact HX4.out.lt
      rw [hcb] at Y5
      have X5 := HX4.out.bel hb5
      have hY5 := HCP.out.ok.below hb5
      have HB5 := Lib.hid (below_two HB4.out hb5)
      have hwc : w.heap.size ≤ cb := by rw [← hcb]; exact HB4.out.size
      generalize (w4.alloc (.cells #[.int .i64 y.kind, .int .i64 y.n0, .int .i64 y.n1, .int .i64 y.n2, .int .i64 y.n3, .int .i64 y.n4, .int .i64 y.n5, .int .i64 y.n6, .slice y.li.a y.li.n y.li.cap] 24)) = w5 at Y5 X5 HB5 hY5 ⊢
      clear hb5 hcb
      have FRM := fun W => form15 x0.kind W
      have HFW := fl_wf x0.kind
      have HFH := Lib.hid (fl_has x0.kind)
      obtain ⟨l, hl⟩ : ∃ l, fl x0.kind = l := ⟨_, rfl⟩
      rw [hl] at FRM HFW HFH
      have LN := run_lenL l
      have IX := Lib.hid (run_indexL l HFW.1)
      obtain ⟨nl, hnl⟩ : ∃ nl, l.length = nl := ⟨_, rfl⟩
      have HNL := Lib.hid hnl
      have hn7 : nl ≤ 7 := by rw [← hnl]; exact HFW.2
      rw [hnl] at LN
      generalize strL l = S at FRM LN IX
      have HFR := Lib.hid FRM
      have HLN := Lib.hid LN
      have hlK := HFH.out K HK7.out
      have IXA := Lib.hid (run_indexL [101, 114, 112, 108, 115, 116, 107] (by decide) K HK7.out)
      have HIA : Hid (∀ W, Sem.run Try.prog (Instr.index 9 (.string { data := #[101, 114, 112, 108, 115, 116, 107] }) (.int .i64 (K : Int))) W = .ok (.int .u8 (lt15 K : Int)) W) := Lib.hid (fun W => IXA.out W)
      obtain ⟨c, hc⟩ : ∃ c, lt15 K = c := ⟨_, rfl⟩
      rw [hc] at hlK HIA
      have HLK := Lib.hid hlK
      have hry : rightM y = true := HCP.out.right.trans HRX.out
      have HRY := Lib.hid hry
      have h7 : K = 0 ∨ K = 1 ∨ K = 2 ∨ K = 3 ∨ K = 4 ∨ K = 5 ∨ K = 6 := by have := HK7.out; omega
      have HNE : Hid (∀ a, y.li.a = some a → 0 < y.li.n → a.block ≠ cb) := Lib.hid hnec
      clear hl HFW hnl FRM LN hc hlK hry hnec
      rcases h7 with hK | hK | hK | hK | hK | hK | hK
      · have HKk := Lib.hid hK
        have e0 : ((K : Int) == 0) = true := by rw [hK]; rfl
        have cM : w5.cell? ⟨cb, 1, none⟩ = some (.int .i64 y.n0) := Y5.cell 1
        have fM : w5.frozen? ⟨cb, 1, none⟩ = false := Y5.frozen 1
        have Z6 : Box (w5.setCell ⟨cb, 1, none⟩ (.int .i64 a2)) cb 24 (setM15 y 0 a2).cells.toArray := Y5.set 1 (.int .i64 a2)
        have hgs := grownBy_setCell w5 cb 1 (.int .i64 a2)
        have X6 := X5.kept hgs (by simp; omega)
        have hb6 := HB5.out.grown hgs HB5.out.size (fun b e => by cases e; exact hwc)
        have hzi := rw_other15_ms (setM15_in hY5 0 HN2.out) (fun a ha h0 => by rw [setM15_li] at ha h0; exact HNE.out a ha h0) hgs
        have hzr : rightM (setM15 y 0 a2) = okn (fm x0.kind) a2 K := by rw [setM15_right HRY.out 0 (by omega) a2, HCP.out.kind, hK]
        clear hK
        go_upto_region 22 with fail
        obtain ⟨z, hz⟩ : ∃ z, setM15 y 0 a2 = z := ⟨_, rfl⟩
        rw [hz] at Z6 hzi hzr
        generalize w5.setCell ⟨cb, 1, none⟩ (.int .i64 a2) = w6 at Z6 X6 hb6 hzi ⊢
        clear hz hgs cM fM Y5 X5 hY5 hac e0
        have HX6 := Lib.hid X6
        have HZ6 := Lib.hid Z6
        have HB6 := Lib.hid hb6
        have HZI := Lib.hid hzi
        have HZR := Lib.hid hzr
        have k0 : w6.cell? ⟨ab, 0, none⟩ = some (.int .i64 x0.kind) := X6.cell 0
        have FRM := HFR.out w6
        clear X6 Z6 hb6 hzi hzr
        go_wp2_with fail
        refine FRM.mono ?_
        rintro e w6 ⟨rfl, rfl⟩
        clear FRM k0
        go_wp2_with fail
        go_loopw [10, 12] (fun v' i' wr => ∃ (i d : Nat), i ≤ nl ∧ i' = .int .i64 i ∧ v' = .bool ((l.take i).contains c) ∧ wr = w6.drewN d) (fun _ i' _ => nl - (intOf i').toNat)
        case atStart => exact ⟨0, 0, by omega, rfl, by simp, rfl⟩
        case round =>
          obtain ⟨i, d, hi, rfl, rfl, rfl⟩ := hrel
          have ln := HLN.out 3 (w6.drewN d)
          by_cases hlt : i < nl
          · have hil : i < l.length := by rw [HNL.out]; exact hlt
            have hst := take_has l c i hil
            have hlt2 : (i : Int) < (nl : Int) := by omega
            cases hb : (l.take i).contains c with
            | true =>
              have HST : Hid ((l.take (i + 1)).contains c = true) := Lib.hid (by rw [hst, hb]; rfl)
              clear hst hb
              go_wp2_with fail
              go_quiet (fail)
              go_wp2
              go_roundw
              case rel => exact ⟨i + 1, _, by omega, by go_num, by rw [HST.out], rfl⟩
              case measure => simp [intOf]; omega
            | false =>
              have ix := IX.out i hil
              have ixa := HIA.out
              have HST : Hid ((l.take (i + 1)).contains c = (l.getD i 0 == c)) := Lib.hid (by rw [hst, hb]; rfl)
              generalize l.getD i 0 = z1 at ix HST
              have hcc : ((z1 : Int) == (c : Int)) = (z1 == c) := by
                rw [Bool.eq_iff_iff, beq_iff_eq, beq_iff_eq]; omega
              clear hst hb
              go_wp2_with fail
              go_quiet (fail)
              go_wp2
              go_roundw
              case rel => exact ⟨i + 1, _, by omega, by go_num, by rw [HST.out], rfl⟩
              case measure => simp [intOf]; omega
          · obtain rfl : i = nl := by omega
            have hfin : (l.take i).contains c = (fm x0.kind).testBit K := by rw [List.take_of_length_le (by rw [HNL.out]; exact Nat.le_refl _)]; exact HLK.out
            rw [hfin]
            clear hfin
            obtain ⟨tb, htb⟩ : ∃ tb, (fm x0.kind).testBit K = tb := ⟨_, rfl⟩
            obtain ⟨want, hw⟩ : ∃ b, okn (fm x0.kind) a2 K = b := ⟨_, rfl⟩
            have HTB := Lib.hid htb
            have HWT := Lib.hid hw
            have hzr2 := HZR.out
            rw [hw] at hzr2
            rw [htb]
            have Z7 := Lib.hid (HZ6.out.drewN d)
            have HB7 := Lib.hid (below_drewN HB6.out d)
            have hz7 := HZI.out.below (below_drewN (Below.refl w6.heap.size w6) d)
            generalize w6.drewN d = w7 at Z7 HB7 hz7 ⊢
            have HZR2 := Lib.hid hzr2
            have HZ7 := Lib.hid hz7
            clear htb hw hzr2 hz7 ln
            have ln := HLN.out 3 w7
            go_upto_region 27 with fail
            go_cut [13] from 84 to 96 (fun v wx => v = .bool want ∧ wx = w7)
            case first =>
              have hwt := HWT.out
              unfold okn at hwt
              rw [HTB.out] at hwt
              by_cases n0 : a2 = 0
              · have hz : Hid (true = want) := Lib.hid (by rw [← hwt, decide_eq_true ⟨by omega, by omega, Or.inl n0⟩])
                have b0 : (a2 == 0) = true := by simpa using n0
                clear hwt n0
                go_wp2_with fail
                go_meet
                case rel => exact ⟨by rw [hz.out], rfl⟩
              · have b0 : (a2 == 0) = false := by simpa using n0
                cases tb with
                | false =>
                  have hno : ¬ (0 ≤ a2 ∧ a2 < 1099511627776 ∧ (a2 = 0 ∨ false = true)) := fun h => by have h3 := h.2.2; simp at h3; exact n0 h3
                  have hz : Hid (false = want) := Lib.hid (by rw [← hwt]; exact (decide_eq_false hno).symm)
                  clear hno
                  clear hwt n0
                  go_wp2_with fail
                  go_meet
                  case rel => exact ⟨by rw [hz.out], rfl⟩
                | true =>
                  by_cases n1 : 0 < a2
                  · by_cases n2 : a2 < 1099511627776
                    · have hz : Hid (true = want) := Lib.hid (by rw [← hwt, decide_eq_true ⟨by omega, n2, Or.inr rfl⟩])
                      clear hwt n0
                      go_wp2_with fail
                      go_meet
                      case rel => exact ⟨by rw [hz.out], rfl⟩
                    · have hno : ¬ (0 ≤ a2 ∧ a2 < 1099511627776 ∧ (a2 = 0 ∨ true = true)) := fun h => n2 h.2.1
                      have hz : Hid (false = want) := Lib.hid (by rw [← hwt]; exact (decide_eq_false hno).symm)
                      clear hno
                      clear hwt n0
                      go_wp2_with fail
                      go_meet
                      case rel => exact ⟨by rw [hz.out], rfl⟩
                  · have hno : ¬ (0 ≤ a2 ∧ a2 < 1099511627776 ∧ (a2 = 0 ∨ true = true)) := fun h => by have h1 := h.1; omega
                    have hz : Hid (false = want) := Lib.hid (by rw [← hwt]; exact (decide_eq_false hno).symm)
                    clear hno
                    clear hwt n0
                    go_wp2_with fail
                    go_meet
                    case rel => exact ⟨by rw [hz.out], rfl⟩
            obtain ⟨rfl, rfl⟩ := hcut
            generalize wc = w7 at *
            have q0 : w7.cell? ⟨cb, 0, none⟩ = some (.int .i64 z.kind) := Z7.out.cell 0
            have q1 : w7.cell? ⟨cb, 1, none⟩ = some (.int .i64 z.n0) := Z7.out.cell 1
            have q2 : w7.cell? ⟨cb, 2, none⟩ = some (.int .i64 z.n1) := Z7.out.cell 2
            have q3 : w7.cell? ⟨cb, 3, none⟩ = some (.int .i64 z.n2) := Z7.out.cell 3
            have q4 : w7.cell? ⟨cb, 4, none⟩ = some (.int .i64 z.n3) := Z7.out.cell 4
            have q5 : w7.cell? ⟨cb, 5, none⟩ = some (.int .i64 z.n4) := Z7.out.cell 5
            have q6 : w7.cell? ⟨cb, 6, none⟩ = some (.int .i64 z.n5) := Z7.out.cell 6
            have q7 : w7.cell? ⟨cb, 7, none⟩ = some (.int .i64 z.n6) := Z7.out.cell 7
            have q8 : w7.cell? ⟨cb, 8, none⟩ = some (.slice z.li.a z.li.n z.li.cap) := Z7.out.cell 8
            have B1 := bytes15_any z w7 HZ7.out
            rw [HZR2.out] at B1
            go_wp2_with fail
            refine B1.mono ?_
            rintro e w8 ⟨⟨⟨qa, qn, qc, qv⟩, E, rfl, hE⟩, hb8⟩
            clear B1 q0 q1 q2 q3 q4 q5 q6 q7 q8
            have Z8 := Lib.hid (Z7.out.bel hb8)
            have HB8 := Lib.hid (below_two HB7.out hb8)
            have RI := row_one15 (T := 24) (w := w8) z (HZ7.out.below hb8) rfl
            have Q1 := rights15 _ _ RI
            simp only [List.all_cons, List.all_nil, Bool.and_true] at Q1
            rw [HZR2.out] at Q1
            have q0 : w8.cell? ⟨cb, 0, none⟩ = some (.int .i64 z.kind) := Z8.out.cell 0
            have q1 : w8.cell? ⟨cb, 1, none⟩ = some (.int .i64 z.n0) := Z8.out.cell 1
            have q2 : w8.cell? ⟨cb, 2, none⟩ = some (.int .i64 z.n1) := Z8.out.cell 2
            have q3 : w8.cell? ⟨cb, 3, none⟩ = some (.int .i64 z.n2) := Z8.out.cell 3
            have q4 : w8.cell? ⟨cb, 4, none⟩ = some (.int .i64 z.n3) := Z8.out.cell 4
            have q5 : w8.cell? ⟨cb, 5, none⟩ = some (.int .i64 z.n4) := Z8.out.cell 5
            have q6 : w8.cell? ⟨cb, 6, none⟩ = some (.int .i64 z.n5) := Z8.out.cell 6
            have q7 : w8.cell? ⟨cb, 7, none⟩ = some (.int .i64 z.n6) := Z8.out.cell 7
            have q8 : w8.cell? ⟨cb, 8, none⟩ = some (.slice z.li.a z.li.n z.li.cap) := Z8.out.cell 8
            have HBa := Lib.hid (HB8.out.alloc HB8.out.size (.cells #[.int .i64 z.kind, .int .i64 z.n0, .int .i64 z.n1, .int .i64 z.n2, .int .i64 z.n3, .int .i64 z.n4, .int .i64 z.n5, .int .i64 z.n6, .slice z.li.a z.li.n z.li.cap] 24))
            clear RI hb8
            go_wp2_with fail
            refine Q1.mono ?_
            rintro e w9 ⟨rfl, hb9⟩
            clear q0 q1 q2 q3 q4 q5 q6 q7 q8
            have HB9 := Lib.hid (below_two HBa.out hb9)
            clear Q1 hb9
            go_wp2_with fail
            go_ret
            exact ⟨ret_bool (by simp), HB9.out⟩
      · have HKk := Lib.hid hK
        have e0 : ((K : Int) == 0) = false := by simp; omega
        have e1 : ((K : Int) == 1) = true := by rw [hK]; rfl
        have cM : w5.cell? ⟨cb, 2, none⟩ = some (.int .i64 y.n1) := Y5.cell 2
        have fM : w5.frozen? ⟨cb, 2, none⟩ = false := Y5.frozen 2
        have Z6 : Box (w5.setCell ⟨cb, 2, none⟩ (.int .i64 a2)) cb 24 (setM15 y 1 a2).cells.toArray := Y5.set 2 (.int .i64 a2)
        have hgs := grownBy_setCell w5 cb 2 (.int .i64 a2)
        have X6 := X5.kept hgs (by simp; omega)
        have hb6 := HB5.out.grown hgs HB5.out.size (fun b e => by cases e; exact hwc)
        have hzi := rw_other15_ms (setM15_in hY5 1 HN2.out) (fun a ha h0 => by rw [setM15_li] at ha h0; exact HNE.out a ha h0) hgs
        have hzr : rightM (setM15 y 1 a2) = okn (fm x0.kind) a2 K := by rw [setM15_right HRY.out 1 (by omega) a2, HCP.out.kind, hK]
        clear hK
        go_upto_region 22 with fail
        obtain ⟨z, hz⟩ : ∃ z, setM15 y 1 a2 = z := ⟨_, rfl⟩
        rw [hz] at Z6 hzi hzr
        generalize w5.setCell ⟨cb, 2, none⟩ (.int .i64 a2) = w6 at Z6 X6 hb6 hzi ⊢
        clear hz hgs cM fM Y5 X5 hY5 hac e0 e1
        have HX6 := Lib.hid X6
        have HZ6 := Lib.hid Z6
        have HB6 := Lib.hid hb6
        have HZI := Lib.hid hzi
        have HZR := Lib.hid hzr
        have k0 : w6.cell? ⟨ab, 0, none⟩ = some (.int .i64 x0.kind) := X6.cell 0
        have FRM := HFR.out w6
        clear X6 Z6 hb6 hzi hzr
        go_wp2_with fail
        refine FRM.mono ?_
        rintro e w6 ⟨rfl, rfl⟩
        clear FRM k0
        go_wp2_with fail
        go_loopw [10, 12] (fun v' i' wr => ∃ (i d : Nat), i ≤ nl ∧ i' = .int .i64 i ∧ v' = .bool ((l.take i).contains c) ∧ wr = w6.drewN d) (fun _ i' _ => nl - (intOf i').toNat)
        case atStart => exact ⟨0, 0, by omega, rfl, by simp, rfl⟩
        case round =>
          obtain ⟨i, d, hi, rfl, rfl, rfl⟩ := hrel
          have ln := HLN.out 3 (w6.drewN d)
          by_cases hlt : i < nl
          · have hil : i < l.length := by rw [HNL.out]; exact hlt
            have hst := take_has l c i hil
            have hlt2 : (i : Int) < (nl : Int) := by omega
            cases hb : (l.take i).contains c with
            | true =>
              have HST : Hid ((l.take (i + 1)).contains c = true) := Lib.hid (by rw [hst, hb]; rfl)
              clear hst hb
              go_wp2_with fail
              go_quiet (fail)
              go_wp2
              go_roundw
              case rel => exact ⟨i + 1, _, by omega, by go_num, by rw [HST.out], rfl⟩
              case measure => simp [intOf]; omega
            | false =>
              have ix := IX.out i hil
              have ixa := HIA.out
              have HST : Hid ((l.take (i + 1)).contains c = (l.getD i 0 == c)) := Lib.hid (by rw [hst, hb]; rfl)
              generalize l.getD i 0 = z1 at ix HST
              have hcc : ((z1 : Int) == (c : Int)) = (z1 == c) := by
                rw [Bool.eq_iff_iff, beq_iff_eq, beq_iff_eq]; omega
              clear hst hb
              go_wp2_with fail
              go_quiet (fail)
              go_wp2
              go_roundw
              case rel => exact ⟨i + 1, _, by omega, by go_num, by rw [HST.out], rfl⟩
              case measure => simp [intOf]; omega
          · obtain rfl : i = nl := by omega
            have hfin : (l.take i).contains c = (fm x0.kind).testBit K := by rw [List.take_of_length_le (by rw [HNL.out]; exact Nat.le_refl _)]; exact HLK.out
            rw [hfin]
            clear hfin
            obtain ⟨tb, htb⟩ : ∃ tb, (fm x0.kind).testBit K = tb := ⟨_, rfl⟩
            obtain ⟨want, hw⟩ : ∃ b, okn (fm x0.kind) a2 K = b := ⟨_, rfl⟩
            have HTB := Lib.hid htb
            have HWT := Lib.hid hw
            have hzr2 := HZR.out
            rw [hw] at hzr2
            rw [htb]
            have Z7 := Lib.hid (HZ6.out.drewN d)
            have HB7 := Lib.hid (below_drewN HB6.out d)
            have hz7 := HZI.out.below (below_drewN (Below.refl w6.heap.size w6) d)
            generalize w6.drewN d = w7 at Z7 HB7 hz7 ⊢
            have HZR2 := Lib.hid hzr2
            have HZ7 := Lib.hid hz7
            clear htb hw hzr2 hz7 ln
            have ln := HLN.out 3 w7
            go_upto_region 27 with fail
            go_cut [13] from 84 to 96 (fun v wx => v = .bool want ∧ wx = w7)
            case first =>
              have hwt := HWT.out
              unfold okn at hwt
              rw [HTB.out] at hwt
              by_cases n0 : a2 = 0
              · have hz : Hid (true = want) := Lib.hid (by rw [← hwt, decide_eq_true ⟨by omega, by omega, Or.inl n0⟩])
                have b0 : (a2 == 0) = true := by simpa using n0
                clear hwt n0
                go_wp2_with fail
                go_meet
                case rel => exact ⟨by rw [hz.out], rfl⟩
              · have b0 : (a2 == 0) = false := by simpa using n0
                cases tb with
                | false =>
                  have hno : ¬ (0 ≤ a2 ∧ a2 < 1099511627776 ∧ (a2 = 0 ∨ false = true)) := fun h => by have h3 := h.2.2; simp at h3; exact n0 h3
                  have hz : Hid (false = want) := Lib.hid (by rw [← hwt]; exact (decide_eq_false hno).symm)
                  clear hno
                  clear hwt n0
                  go_wp2_with fail
                  go_meet
                  case rel => exact ⟨by rw [hz.out], rfl⟩
                | true =>
                  by_cases n1 : 0 < a2
                  · by_cases n2 : a2 < 1099511627776
                    · have hz : Hid (true = want) := Lib.hid (by rw [← hwt, decide_eq_true ⟨by omega, n2, Or.inr rfl⟩])
                      clear hwt n0
                      go_wp2_with fail
                      go_meet
                      case rel => exact ⟨by rw [hz.out], rfl⟩
                    · have hno : ¬ (0 ≤ a2 ∧ a2 < 1099511627776 ∧ (a2 = 0 ∨ true = true)) := fun h => n2 h.2.1
                      have hz : Hid (false = want) := Lib.hid (by rw [← hwt]; exact (decide_eq_false hno).symm)
                      clear hno
                      clear hwt n0
                      go_wp2_with fail
                      go_meet
                      case rel => exact ⟨by rw [hz.out], rfl⟩
                  · have hno : ¬ (0 ≤ a2 ∧ a2 < 1099511627776 ∧ (a2 = 0 ∨ true = true)) := fun h => by have h1 := h.1; omega
                    have hz : Hid (false = want) := Lib.hid (by rw [← hwt]; exact (decide_eq_false hno).symm)
                    clear hno
                    clear hwt n0
                    go_wp2_with fail
                    go_meet
                    case rel => exact ⟨by rw [hz.out], rfl⟩
            obtain ⟨rfl, rfl⟩ := hcut
            generalize wc = w7 at *
            have q0 : w7.cell? ⟨cb, 0, none⟩ = some (.int .i64 z.kind) := Z7.out.cell 0
            have q1 : w7.cell? ⟨cb, 1, none⟩ = some (.int .i64 z.n0) := Z7.out.cell 1
            have q2 : w7.cell? ⟨cb, 2, none⟩ = some (.int .i64 z.n1) := Z7.out.cell 2
            have q3 : w7.cell? ⟨cb, 3, none⟩ = some (.int .i64 z.n2) := Z7.out.cell 3
            have q4 : w7.cell? ⟨cb, 4, none⟩ = some (.int .i64 z.n3) := Z7.out.cell 4
            have q5 : w7.cell? ⟨cb, 5, none⟩ = some (.int .i64 z.n4) := Z7.out.cell 5
            have q6 : w7.cell? ⟨cb, 6, none⟩ = some (.int .i64 z.n5) := Z7.out.cell 6
            have q7 : w7.cell? ⟨cb, 7, none⟩ = some (.int .i64 z.n6) := Z7.out.cell 7
            have q8 : w7.cell? ⟨cb, 8, none⟩ = some (.slice z.li.a z.li.n z.li.cap) := Z7.out.cell 8
            have B1 := bytes15_any z w7 HZ7.out
            rw [HZR2.out] at B1
            go_wp2_with fail
            refine B1.mono ?_
            rintro e w8 ⟨⟨⟨qa, qn, qc, qv⟩, E, rfl, hE⟩, hb8⟩
            clear B1 q0 q1 q2 q3 q4 q5 q6 q7 q8
            have Z8 := Lib.hid (Z7.out.bel hb8)
            have HB8 := Lib.hid (below_two HB7.out hb8)
            have RI := row_one15 (T := 24) (w := w8) z (HZ7.out.below hb8) rfl
            have Q1 := rights15 _ _ RI
            simp only [List.all_cons, List.all_nil, Bool.and_true] at Q1
            rw [HZR2.out] at Q1
            have q0 : w8.cell? ⟨cb, 0, none⟩ = some (.int .i64 z.kind) := Z8.out.cell 0
            have q1 : w8.cell? ⟨cb, 1, none⟩ = some (.int .i64 z.n0) := Z8.out.cell 1
            have q2 : w8.cell? ⟨cb, 2, none⟩ = some (.int .i64 z.n1) := Z8.out.cell 2
            have q3 : w8.cell? ⟨cb, 3, none⟩ = some (.int .i64 z.n2) := Z8.out.cell 3
            have q4 : w8.cell? ⟨cb, 4, none⟩ = some (.int .i64 z.n3) := Z8.out.cell 4
            have q5 : w8.cell? ⟨cb, 5, none⟩ = some (.int .i64 z.n4) := Z8.out.cell 5
            have q6 : w8.cell? ⟨cb, 6, none⟩ = some (.int .i64 z.n5) := Z8.out.cell 6
            have q7 : w8.cell? ⟨cb, 7, none⟩ = some (.int .i64 z.n6) := Z8.out.cell 7
            have q8 : w8.cell? ⟨cb, 8, none⟩ = some (.slice z.li.a z.li.n z.li.cap) := Z8.out.cell 8
            have HBa := Lib.hid (HB8.out.alloc HB8.out.size (.cells #[.int .i64 z.kind, .int .i64 z.n0, .int .i64 z.n1, .int .i64 z.n2, .int .i64 z.n3, .int .i64 z.n4, .int .i64 z.n5, .int .i64 z.n6, .slice z.li.a z.li.n z.li.cap] 24))
            clear RI hb8
            go_wp2_with fail
            refine Q1.mono ?_
            rintro e w9 ⟨rfl, hb9⟩
            clear q0 q1 q2 q3 q4 q5 q6 q7 q8
            have HB9 := Lib.hid (below_two HBa.out hb9)
            clear Q1 hb9
            go_wp2_with fail
            go_ret
            exact ⟨ret_bool (by simp), HB9.out⟩
      · have HKk := Lib.hid hK
        have e0 : ((K : Int) == 0) = false := by simp; omega
        have e1 : ((K : Int) == 1) = false := by simp; omega
        have e2 : ((K : Int) == 2) = true := by rw [hK]; rfl
        have cM : w5.cell? ⟨cb, 3, none⟩ = some (.int .i64 y.n2) := Y5.cell 3
        have fM : w5.frozen? ⟨cb, 3, none⟩ = false := Y5.frozen 3
        have Z6 : Box (w5.setCell ⟨cb, 3, none⟩ (.int .i64 a2)) cb 24 (setM15 y 2 a2).cells.toArray := Y5.set 3 (.int .i64 a2)
        have hgs := grownBy_setCell w5 cb 3 (.int .i64 a2)
        have X6 := X5.kept hgs (by simp; omega)
        have hb6 := HB5.out.grown hgs HB5.out.size (fun b e => by cases e; exact hwc)
        have hzi := rw_other15_ms (setM15_in hY5 2 HN2.out) (fun a ha h0 => by rw [setM15_li] at ha h0; exact HNE.out a ha h0) hgs
        have hzr : rightM (setM15 y 2 a2) = okn (fm x0.kind) a2 K := by rw [setM15_right HRY.out 2 (by omega) a2, HCP.out.kind, hK]
        clear hK
        go_upto_region 22 with fail
        obtain ⟨z, hz⟩ : ∃ z, setM15 y 2 a2 = z := ⟨_, rfl⟩
        rw [hz] at Z6 hzi hzr
        generalize w5.setCell ⟨cb, 3, none⟩ (.int .i64 a2) = w6 at Z6 X6 hb6 hzi ⊢
        clear hz hgs cM fM Y5 X5 hY5 hac e0 e1 e2
        have HX6 := Lib.hid X6
        have HZ6 := Lib.hid Z6
        have HB6 := Lib.hid hb6
        have HZI := Lib.hid hzi
        have HZR := Lib.hid hzr
        have k0 : w6.cell? ⟨ab, 0, none⟩ = some (.int .i64 x0.kind) := X6.cell 0
        have FRM := HFR.out w6
        clear X6 Z6 hb6 hzi hzr
        go_wp2_with fail
        refine FRM.mono ?_
        rintro e w6 ⟨rfl, rfl⟩
        clear FRM k0
        go_wp2_with fail
        go_loopw [10, 12] (fun v' i' wr => ∃ (i d : Nat), i ≤ nl ∧ i' = .int .i64 i ∧ v' = .bool ((l.take i).contains c) ∧ wr = w6.drewN d) (fun _ i' _ => nl - (intOf i').toNat)
        case atStart => exact ⟨0, 0, by omega, rfl, by simp, rfl⟩
        case round =>
          obtain ⟨i, d, hi, rfl, rfl, rfl⟩ := hrel
          have ln := HLN.out 3 (w6.drewN d)
          by_cases hlt : i < nl
          · have hil : i < l.length := by rw [HNL.out]; exact hlt
            have hst := take_has l c i hil
            have hlt2 : (i : Int) < (nl : Int) := by omega
            cases hb : (l.take i).contains c with
            | true =>
              have HST : Hid ((l.take (i + 1)).contains c = true) := Lib.hid (by rw [hst, hb]; rfl)
              clear hst hb
              go_wp2_with fail
              go_quiet (fail)
              go_wp2
              go_roundw
              case rel => exact ⟨i + 1, _, by omega, by go_num, by rw [HST.out], rfl⟩
              case measure => simp [intOf]; omega
            | false =>
              have ix := IX.out i hil
              have ixa := HIA.out
              have HST : Hid ((l.take (i + 1)).contains c = (l.getD i 0 == c)) := Lib.hid (by rw [hst, hb]; rfl)
              generalize l.getD i 0 = z1 at ix HST
              have hcc : ((z1 : Int) == (c : Int)) = (z1 == c) := by
                rw [Bool.eq_iff_iff, beq_iff_eq, beq_iff_eq]; omega
              clear hst hb
              go_wp2_with fail
              go_quiet (fail)
              go_wp2
              go_roundw
              case rel => exact ⟨i + 1, _, by omega, by go_num, by rw [HST.out], rfl⟩
              case measure => simp [intOf]; omega
          · obtain rfl : i = nl := by omega
            have hfin : (l.take i).contains c = (fm x0.kind).testBit K := by rw [List.take_of_length_le (by rw [HNL.out]; exact Nat.le_refl _)]; exact HLK.out
            rw [hfin]
            clear hfin
            obtain ⟨tb, htb⟩ : ∃ tb, (fm x0.kind).testBit K = tb := ⟨_, rfl⟩
            obtain ⟨want, hw⟩ : ∃ b, okn (fm x0.kind) a2 K = b := ⟨_, rfl⟩
            have HTB := Lib.hid htb
            have HWT := Lib.hid hw
            have hzr2 := HZR.out
            rw [hw] at hzr2
            rw [htb]
            have Z7 := Lib.hid (HZ6.out.drewN d)
            have HB7 := Lib.hid (below_drewN HB6.out d)
            have hz7 := HZI.out.below (below_drewN (Below.refl w6.heap.size w6) d)
            generalize w6.drewN d = w7 at Z7 HB7 hz7 ⊢
            have HZR2 := Lib.hid hzr2
            have HZ7 := Lib.hid hz7
            clear htb hw hzr2 hz7 ln
            have ln := HLN.out 3 w7
            go_upto_region 27 with fail
            go_cut [13] from 84 to 96 (fun v wx => v = .bool want ∧ wx = w7)
            case first =>
              have hwt := HWT.out
              unfold okn at hwt
              rw [HTB.out] at hwt
              by_cases n0 : a2 = 0
              · have hz : Hid (true = want) := Lib.hid (by rw [← hwt, decide_eq_true ⟨by omega, by omega, Or.inl n0⟩])
                have b0 : (a2 == 0) = true := by simpa using n0
                clear hwt n0
                go_wp2_with fail
                go_meet
                case rel => exact ⟨by rw [hz.out], rfl⟩
              · have b0 : (a2 == 0) = false := by simpa using n0
                cases tb with
                | false =>
                  have hno : ¬ (0 ≤ a2 ∧ a2 < 1099511627776 ∧ (a2 = 0 ∨ false = true)) := fun h => by have h3 := h.2.2; simp at h3; exact n0 h3
                  have hz : Hid (false = want) := Lib.hid (by rw [← hwt]; exact (decide_eq_false hno).symm)
                  clear hno
                  clear hwt n0
                  go_wp2_with fail
                  go_meet
                  case rel => exact ⟨by rw [hz.out], rfl⟩
                | true =>
                  by_cases n1 : 0 < a2
                  · by_cases n2 : a2 < 1099511627776
                    · have hz : Hid (true = want) := Lib.hid (by rw [← hwt, decide_eq_true ⟨by omega, n2, Or.inr rfl⟩])
                      clear hwt n0
                      go_wp2_with fail
                      go_meet
                      case rel => exact ⟨by rw [hz.out], rfl⟩
                    · have hno : ¬ (0 ≤ a2 ∧ a2 < 1099511627776 ∧ (a2 = 0 ∨ true = true)) := fun h => n2 h.2.1
                      have hz : Hid (false = want) := Lib.hid (by rw [← hwt]; exact (decide_eq_false hno).symm)
                      clear hno
                      clear hwt n0
                      go_wp2_with fail
                      go_meet
                      case rel => exact ⟨by rw [hz.out], rfl⟩
                  · have hno : ¬ (0 ≤ a2 ∧ a2 < 1099511627776 ∧ (a2 = 0 ∨ true = true)) := fun h => by have h1 := h.1; omega
                    have hz : Hid (false = want) := Lib.hid (by rw [← hwt]; exact (decide_eq_false hno).symm)
                    clear hno
                    clear hwt n0
                    go_wp2_with fail
                    go_meet
                    case rel => exact ⟨by rw [hz.out], rfl⟩
            obtain ⟨rfl, rfl⟩ := hcut
            generalize wc = w7 at *
            have q0 : w7.cell? ⟨cb, 0, none⟩ = some (.int .i64 z.kind) := Z7.out.cell 0
            have q1 : w7.cell? ⟨cb, 1, none⟩ = some (.int .i64 z.n0) := Z7.out.cell 1
            have q2 : w7.cell? ⟨cb, 2, none⟩ = some (.int .i64 z.n1) := Z7.out.cell 2
            have q3 : w7.cell? ⟨cb, 3, none⟩ = some (.int .i64 z.n2) := Z7.out.cell 3
            have q4 : w7.cell? ⟨cb, 4, none⟩ = some (.int .i64 z.n3) := Z7.out.cell 4
            have q5 : w7.cell? ⟨cb, 5, none⟩ = some (.int .i64 z.n4) := Z7.out.cell 5
            have q6 : w7.cell? ⟨cb, 6, none⟩ = some (.int .i64 z.n5) := Z7.out.cell 6
            have q7 : w7.cell? ⟨cb, 7, none⟩ = some (.int .i64 z.n6) := Z7.out.cell 7
            have q8 : w7.cell? ⟨cb, 8, none⟩ = some (.slice z.li.a z.li.n z.li.cap) := Z7.out.cell 8
            have B1 := bytes15_any z w7 HZ7.out
            rw [HZR2.out] at B1
            go_wp2_with fail
            refine B1.mono ?_
            rintro e w8 ⟨⟨⟨qa, qn, qc, qv⟩, E, rfl, hE⟩, hb8⟩
            clear B1 q0 q1 q2 q3 q4 q5 q6 q7 q8
            have Z8 := Lib.hid (Z7.out.bel hb8)
            have HB8 := Lib.hid (below_two HB7.out hb8)
            have RI := row_one15 (T := 24) (w := w8) z (HZ7.out.below hb8) rfl
            have Q1 := rights15 _ _ RI
            simp only [List.all_cons, List.all_nil, Bool.and_true] at Q1
            rw [HZR2.out] at Q1
            have q0 : w8.cell? ⟨cb, 0, none⟩ = some (.int .i64 z.kind) := Z8.out.cell 0
            have q1 : w8.cell? ⟨cb, 1, none⟩ = some (.int .i64 z.n0) := Z8.out.cell 1
            have q2 : w8.cell? ⟨cb, 2, none⟩ = some (.int .i64 z.n1) := Z8.out.cell 2
            have q3 : w8.cell? ⟨cb, 3, none⟩ = some (.int .i64 z.n2) := Z8.out.cell 3
            have q4 : w8.cell? ⟨cb, 4, none⟩ = some (.int .i64 z.n3) := Z8.out.cell 4
            have q5 : w8.cell? ⟨cb, 5, none⟩ = some (.int .i64 z.n4) := Z8.out.cell 5
            have q6 : w8.cell? ⟨cb, 6, none⟩ = some (.int .i64 z.n5) := Z8.out.cell 6
            have q7 : w8.cell? ⟨cb, 7, none⟩ = some (.int .i64 z.n6) := Z8.out.cell 7
            have q8 : w8.cell? ⟨cb, 8, none⟩ = some (.slice z.li.a z.li.n z.li.cap) := Z8.out.cell 8
            have HBa := Lib.hid (HB8.out.alloc HB8.out.size (.cells #[.int .i64 z.kind, .int .i64 z.n0, .int .i64 z.n1, .int .i64 z.n2, .int .i64 z.n3, .int .i64 z.n4, .int .i64 z.n5, .int .i64 z.n6, .slice z.li.a z.li.n z.li.cap] 24))
            clear RI hb8
            go_wp2_with fail
            refine Q1.mono ?_
            rintro e w9 ⟨rfl, hb9⟩
            clear q0 q1 q2 q3 q4 q5 q6 q7 q8
            have HB9 := Lib.hid (below_two HBa.out hb9)
            clear Q1 hb9
            go_wp2_with fail
            go_ret
            exact ⟨ret_bool (by simp), HB9.out⟩
      · have HKk := Lib.hid hK
        have e0 : ((K : Int) == 0) = false := by simp; omega
        have e1 : ((K : Int) == 1) = false := by simp; omega
        have e2 : ((K : Int) == 2) = false := by simp; omega
        have e3 : ((K : Int) == 3) = true := by rw [hK]; rfl
        have cM : w5.cell? ⟨cb, 4, none⟩ = some (.int .i64 y.n3) := Y5.cell 4
        have fM : w5.frozen? ⟨cb, 4, none⟩ = false := Y5.frozen 4
        have Z6 : Box (w5.setCell ⟨cb, 4, none⟩ (.int .i64 a2)) cb 24 (setM15 y 3 a2).cells.toArray := Y5.set 4 (.int .i64 a2)
        have hgs := grownBy_setCell w5 cb 4 (.int .i64 a2)
        have X6 := X5.kept hgs (by simp; omega)
        have hb6 := HB5.out.grown hgs HB5.out.size (fun b e => by cases e; exact hwc)
        have hzi := rw_other15_ms (setM15_in hY5 3 HN2.out) (fun a ha h0 => by rw [setM15_li] at ha h0; exact HNE.out a ha h0) hgs
        have hzr : rightM (setM15 y 3 a2) = okn (fm x0.kind) a2 K := by rw [setM15_right HRY.out 3 (by omega) a2, HCP.out.kind, hK]
        clear hK
        go_upto_region 22 with fail
        obtain ⟨z, hz⟩ : ∃ z, setM15 y 3 a2 = z := ⟨_, rfl⟩
        rw [hz] at Z6 hzi hzr
        generalize w5.setCell ⟨cb, 4, none⟩ (.int .i64 a2) = w6 at Z6 X6 hb6 hzi ⊢
        clear hz hgs cM fM Y5 X5 hY5 hac e0 e1 e2 e3
        have HX6 := Lib.hid X6
        have HZ6 := Lib.hid Z6
        have HB6 := Lib.hid hb6
        have HZI := Lib.hid hzi
        have HZR := Lib.hid hzr
        have k0 : w6.cell? ⟨ab, 0, none⟩ = some (.int .i64 x0.kind) := X6.cell 0
        have FRM := HFR.out w6
        clear X6 Z6 hb6 hzi hzr
        go_wp2_with fail
        refine FRM.mono ?_
        rintro e w6 ⟨rfl, rfl⟩
        clear FRM k0
        go_wp2_with fail
        go_loopw [10, 12] (fun v' i' wr => ∃ (i d : Nat), i ≤ nl ∧ i' = .int .i64 i ∧ v' = .bool ((l.take i).contains c) ∧ wr = w6.drewN d) (fun _ i' _ => nl - (intOf i').toNat)
        case atStart => exact ⟨0, 0, by omega, rfl, by simp, rfl⟩
        case round =>
          obtain ⟨i, d, hi, rfl, rfl, rfl⟩ := hrel
          have ln := HLN.out 3 (w6.drewN d)
          by_cases hlt : i < nl
          · have hil : i < l.length := by rw [HNL.out]; exact hlt
            have hst := take_has l c i hil
            have hlt2 : (i : Int) < (nl : Int) := by omega
            cases hb : (l.take i).contains c with
            | true =>
              have HST : Hid ((l.take (i + 1)).contains c = true) := Lib.hid (by rw [hst, hb]; rfl)
              clear hst hb
              go_wp2_with fail
              go_quiet (fail)
              go_wp2
              go_roundw
              case rel => exact ⟨i + 1, _, by omega, by go_num, by rw [HST.out], rfl⟩
              case measure => simp [intOf]; omega
            | false =>
              have ix := IX.out i hil
              have ixa := HIA.out
              have HST : Hid ((l.take (i + 1)).contains c = (l.getD i 0 == c)) := Lib.hid (by rw [hst, hb]; rfl)
              generalize l.getD i 0 = z1 at ix HST
              have hcc : ((z1 : Int) == (c : Int)) = (z1 == c) := by
                rw [Bool.eq_iff_iff, beq_iff_eq, beq_iff_eq]; omega
              clear hst hb
              go_wp2_with fail
              go_quiet (fail)
              go_wp2
              go_roundw
              case rel => exact ⟨i + 1, _, by omega, by go_num, by rw [HST.out], rfl⟩
              case measure => simp [intOf]; omega
          · obtain rfl : i = nl := by omega
            have hfin : (l.take i).contains c = (fm x0.kind).testBit K := by rw [List.take_of_length_le (by rw [HNL.out]; exact Nat.le_refl _)]; exact HLK.out
            rw [hfin]
            clear hfin
            obtain ⟨tb, htb⟩ : ∃ tb, (fm x0.kind).testBit K = tb := ⟨_, rfl⟩
            obtain ⟨want, hw⟩ : ∃ b, okn (fm x0.kind) a2 K = b := ⟨_, rfl⟩
            have HTB := Lib.hid htb
            have HWT := Lib.hid hw
            have hzr2 := HZR.out
            rw [hw] at hzr2
            rw [htb]
            have Z7 := Lib.hid (HZ6.out.drewN d)
            have HB7 := Lib.hid (below_drewN HB6.out d)
            have hz7 := HZI.out.below (below_drewN (Below.refl w6.heap.size w6) d)
            generalize w6.drewN d = w7 at Z7 HB7 hz7 ⊢
            have HZR2 := Lib.hid hzr2
            have HZ7 := Lib.hid hz7
            clear htb hw hzr2 hz7 ln
            have ln := HLN.out 3 w7
            go_upto_region 27 with fail
            go_cut [13] from 84 to 96 (fun v wx => v = .bool want ∧ wx = w7)
            case first =>
              have hwt := HWT.out
              unfold okn at hwt
              rw [HTB.out] at hwt
              by_cases n0 : a2 = 0
              · have hz : Hid (true = want) := Lib.hid (by rw [← hwt, decide_eq_true ⟨by omega, by omega, Or.inl n0⟩])
                have b0 : (a2 == 0) = true := by simpa using n0
                clear hwt n0
                go_wp2_with fail
                go_meet
                case rel => exact ⟨by rw [hz.out], rfl⟩
              · have b0 : (a2 == 0) = false := by simpa using n0
                cases tb with
                | false =>
                  have hno : ¬ (0 ≤ a2 ∧ a2 < 1099511627776 ∧ (a2 = 0 ∨ false = true)) := fun h => by have h3 := h.2.2; simp at h3; exact n0 h3
                  have hz : Hid (false = want) := Lib.hid (by rw [← hwt]; exact (decide_eq_false hno).symm)
                  clear hno
                  clear hwt n0
                  go_wp2_with fail
                  go_meet
                  case rel => exact ⟨by rw [hz.out], rfl⟩
                | true =>
                  by_cases n1 : 0 < a2
                  · by_cases n2 : a2 < 1099511627776
                    · have hz : Hid (true = want) := Lib.hid (by rw [← hwt, decide_eq_true ⟨by omega, n2, Or.inr rfl⟩])
                      clear hwt n0
                      go_wp2_with fail
                      go_meet
                      case rel => exact ⟨by rw [hz.out], rfl⟩
                    · have hno : ¬ (0 ≤ a2 ∧ a2 < 1099511627776 ∧ (a2 = 0 ∨ true = true)) := fun h => n2 h.2.1
                      have hz : Hid (false = want) := Lib.hid (by rw [← hwt]; exact (decide_eq_false hno).symm)
                      clear hno
                      clear hwt n0
                      go_wp2_with fail
                      go_meet
                      case rel => exact ⟨by rw [hz.out], rfl⟩
                  · have hno : ¬ (0 ≤ a2 ∧ a2 < 1099511627776 ∧ (a2 = 0 ∨ true = true)) := fun h => by have h1 := h.1; omega
                    have hz : Hid (false = want) := Lib.hid (by rw [← hwt]; exact (decide_eq_false hno).symm)
                    clear hno
                    clear hwt n0
                    go_wp2_with fail
                    go_meet
                    case rel => exact ⟨by rw [hz.out], rfl⟩
            obtain ⟨rfl, rfl⟩ := hcut
            generalize wc = w7 at *
            have q0 : w7.cell? ⟨cb, 0, none⟩ = some (.int .i64 z.kind) := Z7.out.cell 0
            have q1 : w7.cell? ⟨cb, 1, none⟩ = some (.int .i64 z.n0) := Z7.out.cell 1
            have q2 : w7.cell? ⟨cb, 2, none⟩ = some (.int .i64 z.n1) := Z7.out.cell 2
            have q3 : w7.cell? ⟨cb, 3, none⟩ = some (.int .i64 z.n2) := Z7.out.cell 3
            have q4 : w7.cell? ⟨cb, 4, none⟩ = some (.int .i64 z.n3) := Z7.out.cell 4
            have q5 : w7.cell? ⟨cb, 5, none⟩ = some (.int .i64 z.n4) := Z7.out.cell 5
            have q6 : w7.cell? ⟨cb, 6, none⟩ = some (.int .i64 z.n5) := Z7.out.cell 6
            have q7 : w7.cell? ⟨cb, 7, none⟩ = some (.int .i64 z.n6) := Z7.out.cell 7
            have q8 : w7.cell? ⟨cb, 8, none⟩ = some (.slice z.li.a z.li.n z.li.cap) := Z7.out.cell 8
            have B1 := bytes15_any z w7 HZ7.out
            rw [HZR2.out] at B1
            go_wp2_with fail
            refine B1.mono ?_
            rintro e w8 ⟨⟨⟨qa, qn, qc, qv⟩, E, rfl, hE⟩, hb8⟩
            clear B1 q0 q1 q2 q3 q4 q5 q6 q7 q8
            have Z8 := Lib.hid (Z7.out.bel hb8)
            have HB8 := Lib.hid (below_two HB7.out hb8)
            have RI := row_one15 (T := 24) (w := w8) z (HZ7.out.below hb8) rfl
            have Q1 := rights15 _ _ RI
            simp only [List.all_cons, List.all_nil, Bool.and_true] at Q1
            rw [HZR2.out] at Q1
            have q0 : w8.cell? ⟨cb, 0, none⟩ = some (.int .i64 z.kind) := Z8.out.cell 0
            have q1 : w8.cell? ⟨cb, 1, none⟩ = some (.int .i64 z.n0) := Z8.out.cell 1
            have q2 : w8.cell? ⟨cb, 2, none⟩ = some (.int .i64 z.n1) := Z8.out.cell 2
            have q3 : w8.cell? ⟨cb, 3, none⟩ = some (.int .i64 z.n2) := Z8.out.cell 3
            have q4 : w8.cell? ⟨cb, 4, none⟩ = some (.int .i64 z.n3) := Z8.out.cell 4
            have q5 : w8.cell? ⟨cb, 5, none⟩ = some (.int .i64 z.n4) := Z8.out.cell 5
            have q6 : w8.cell? ⟨cb, 6, none⟩ = some (.int .i64 z.n5) := Z8.out.cell 6
            have q7 : w8.cell? ⟨cb, 7, none⟩ = some (.int .i64 z.n6) := Z8.out.cell 7
            have q8 : w8.cell? ⟨cb, 8, none⟩ = some (.slice z.li.a z.li.n z.li.cap) := Z8.out.cell 8
            have HBa := Lib.hid (HB8.out.alloc HB8.out.size (.cells #[.int .i64 z.kind, .int .i64 z.n0, .int .i64 z.n1, .int .i64 z.n2, .int .i64 z.n3, .int .i64 z.n4, .int .i64 z.n5, .int .i64 z.n6, .slice z.li.a z.li.n z.li.cap] 24))
            clear RI hb8
            go_wp2_with fail
            refine Q1.mono ?_
            rintro e w9 ⟨rfl, hb9⟩
            clear q0 q1 q2 q3 q4 q5 q6 q7 q8
            have HB9 := Lib.hid (below_two HBa.out hb9)
            clear Q1 hb9
            go_wp2_with fail
            go_ret
            exact ⟨ret_bool (by simp), HB9.out⟩
      · have HKk := Lib.hid hK
        have e0 : ((K : Int) == 0) = false := by simp; omega
        have e1 : ((K : Int) == 1) = false := by simp; omega
        have e2 : ((K : Int) == 2) = false := by simp; omega
        have e3 : ((K : Int) == 3) = false := by simp; omega
        have e4 : ((K : Int) == 4) = true := by rw [hK]; rfl
        have cM : w5.cell? ⟨cb, 5, none⟩ = some (.int .i64 y.n4) := Y5.cell 5
        have fM : w5.frozen? ⟨cb, 5, none⟩ = false := Y5.frozen 5
        have Z6 : Box (w5.setCell ⟨cb, 5, none⟩ (.int .i64 a2)) cb 24 (setM15 y 4 a2).cells.toArray := Y5.set 5 (.int .i64 a2)
        have hgs := grownBy_setCell w5 cb 5 (.int .i64 a2)
        have X6 := X5.kept hgs (by simp; omega)
        have hb6 := HB5.out.grown hgs HB5.out.size (fun b e => by cases e; exact hwc)
        have hzi := rw_other15_ms (setM15_in hY5 4 HN2.out) (fun a ha h0 => by rw [setM15_li] at ha h0; exact HNE.out a ha h0) hgs
        have hzr : rightM (setM15 y 4 a2) = okn (fm x0.kind) a2 K := by rw [setM15_right HRY.out 4 (by omega) a2, HCP.out.kind, hK]
        clear hK
        go_upto_region 22 with fail
        obtain ⟨z, hz⟩ : ∃ z, setM15 y 4 a2 = z := ⟨_, rfl⟩
        rw [hz] at Z6 hzi hzr
        generalize w5.setCell ⟨cb, 5, none⟩ (.int .i64 a2) = w6 at Z6 X6 hb6 hzi ⊢
        clear hz hgs cM fM Y5 X5 hY5 hac e0 e1 e2 e3 e4
        have HX6 := Lib.hid X6
        have HZ6 := Lib.hid Z6
        have HB6 := Lib.hid hb6
        have HZI := Lib.hid hzi
        have HZR := Lib.hid hzr
        have k0 : w6.cell? ⟨ab, 0, none⟩ = some (.int .i64 x0.kind) := X6.cell 0
        have FRM := HFR.out w6
        clear X6 Z6 hb6 hzi hzr
        go_wp2_with fail
        refine FRM.mono ?_
        rintro e w6 ⟨rfl, rfl⟩
        clear FRM k0
        go_wp2_with fail
        go_loopw [10, 12] (fun v' i' wr => ∃ (i d : Nat), i ≤ nl ∧ i' = .int .i64 i ∧ v' = .bool ((l.take i).contains c) ∧ wr = w6.drewN d) (fun _ i' _ => nl - (intOf i').toNat)
        case atStart => exact ⟨0, 0, by omega, rfl, by simp, rfl⟩
        case round =>
          obtain ⟨i, d, hi, rfl, rfl, rfl⟩ := hrel
          have ln := HLN.out 3 (w6.drewN d)
          by_cases hlt : i < nl
          · have hil : i < l.length := by rw [HNL.out]; exact hlt
            have hst := take_has l c i hil
            have hlt2 : (i : Int) < (nl : Int) := by omega
            cases hb : (l.take i).contains c with
            | true =>
              have HST : Hid ((l.take (i + 1)).contains c = true) := Lib.hid (by rw [hst, hb]; rfl)
              clear hst hb
              go_wp2_with fail
              go_quiet (fail)
              go_wp2
              go_roundw
              case rel => exact ⟨i + 1, _, by omega, by go_num, by rw [HST.out], rfl⟩
              case measure => simp [intOf]; omega
            | false =>
              have ix := IX.out i hil
              have ixa := HIA.out
              have HST : Hid ((l.take (i + 1)).contains c = (l.getD i 0 == c)) := Lib.hid (by rw [hst, hb]; rfl)
              generalize l.getD i 0 = z1 at ix HST
              have hcc : ((z1 : Int) == (c : Int)) = (z1 == c) := by
                rw [Bool.eq_iff_iff, beq_iff_eq, beq_iff_eq]; omega
              clear hst hb
              go_wp2_with fail
              go_quiet (fail)
              go_wp2
              go_roundw
              case rel => exact ⟨i + 1, _, by omega, by go_num, by rw [HST.out], rfl⟩
              case measure => simp [intOf]; omega
          · obtain rfl : i = nl := by omega
            have hfin : (l.take i).contains c = (fm x0.kind).testBit K := by rw [List.take_of_length_le (by rw [HNL.out]; exact Nat.le_refl _)]; exact HLK.out
            rw [hfin]
            clear hfin
            obtain ⟨tb, htb⟩ : ∃ tb, (fm x0.kind).testBit K = tb := ⟨_, rfl⟩
            obtain ⟨want, hw⟩ : ∃ b, okn (fm x0.kind) a2 K = b := ⟨_, rfl⟩
            have HTB := Lib.hid htb
            have HWT := Lib.hid hw
            have hzr2 := HZR.out
            rw [hw] at hzr2
            rw [htb]
            have Z7 := Lib.hid (HZ6.out.drewN d)
            have HB7 := Lib.hid (below_drewN HB6.out d)
            have hz7 := HZI.out.below (below_drewN (Below.refl w6.heap.size w6) d)
            generalize w6.drewN d = w7 at Z7 HB7 hz7 ⊢
            have HZR2 := Lib.hid hzr2
            have HZ7 := Lib.hid hz7
            clear htb hw hzr2 hz7 ln
            have ln := HLN.out 3 w7
            go_upto_region 27 with fail
            go_cut [13] from 84 to 96 (fun v wx => v = .bool want ∧ wx = w7)
            case first =>
              have hwt := HWT.out
              unfold okn at hwt
              rw [HTB.out] at hwt
              by_cases n0 : a2 = 0
              · have hz : Hid (true = want) := Lib.hid (by rw [← hwt, decide_eq_true ⟨by omega, by omega, Or.inl n0⟩])
                have b0 : (a2 == 0) = true := by simpa using n0
                clear hwt n0
                go_wp2_with fail
                go_meet
                case rel => exact ⟨by rw [hz.out], rfl⟩
              · have b0 : (a2 == 0) = false := by simpa using n0
                cases tb with
                | false =>
                  have hno : ¬ (0 ≤ a2 ∧ a2 < 1099511627776 ∧ (a2 = 0 ∨ false = true)) := fun h => by have h3 := h.2.2; simp at h3; exact n0 h3
                  have hz : Hid (false = want) := Lib.hid (by rw [← hwt]; exact (decide_eq_false hno).symm)
                  clear hno
                  clear hwt n0
                  go_wp2_with fail
                  go_meet
                  case rel => exact ⟨by rw [hz.out], rfl⟩
                | true =>
                  by_cases n1 : 0 < a2
                  · by_cases n2 : a2 < 1099511627776
                    · have hz : Hid (true = want) := Lib.hid (by rw [← hwt, decide_eq_true ⟨by omega, n2, Or.inr rfl⟩])
                      clear hwt n0
                      go_wp2_with fail
                      go_meet
                      case rel => exact ⟨by rw [hz.out], rfl⟩
                    · have hno : ¬ (0 ≤ a2 ∧ a2 < 1099511627776 ∧ (a2 = 0 ∨ true = true)) := fun h => n2 h.2.1
                      have hz : Hid (false = want) := Lib.hid (by rw [← hwt]; exact (decide_eq_false hno).symm)
                      clear hno
                      clear hwt n0
                      go_wp2_with fail
                      go_meet
                      case rel => exact ⟨by rw [hz.out], rfl⟩
                  · have hno : ¬ (0 ≤ a2 ∧ a2 < 1099511627776 ∧ (a2 = 0 ∨ true = true)) := fun h => by have h1 := h.1; omega
                    have hz : Hid (false = want) := Lib.hid (by rw [← hwt]; exact (decide_eq_false hno).symm)
                    clear hno
                    clear hwt n0
                    go_wp2_with fail
                    go_meet
                    case rel => exact ⟨by rw [hz.out], rfl⟩
            obtain ⟨rfl, rfl⟩ := hcut
            generalize wc = w7 at *
            have q0 : w7.cell? ⟨cb, 0, none⟩ = some (.int .i64 z.kind) := Z7.out.cell 0
            have q1 : w7.cell? ⟨cb, 1, none⟩ = some (.int .i64 z.n0) := Z7.out.cell 1
            have q2 : w7.cell? ⟨cb, 2, none⟩ = some (.int .i64 z.n1) := Z7.out.cell 2
            have q3 : w7.cell? ⟨cb, 3, none⟩ = some (.int .i64 z.n2) := Z7.out.cell 3
            have q4 : w7.cell? ⟨cb, 4, none⟩ = some (.int .i64 z.n3) := Z7.out.cell 4
            have q5 : w7.cell? ⟨cb, 5, none⟩ = some (.int .i64 z.n4) := Z7.out.cell 5
            have q6 : w7.cell? ⟨cb, 6, none⟩ = some (.int .i64 z.n5) := Z7.out.cell 6
            have q7 : w7.cell? ⟨cb, 7, none⟩ = some (.int .i64 z.n6) := Z7.out.cell 7
            have q8 : w7.cell? ⟨cb, 8, none⟩ = some (.slice z.li.a z.li.n z.li.cap) := Z7.out.cell 8
            have B1 := bytes15_any z w7 HZ7.out
            rw [HZR2.out] at B1
            go_wp2_with fail
            refine B1.mono ?_
            rintro e w8 ⟨⟨⟨qa, qn, qc, qv⟩, E, rfl, hE⟩, hb8⟩
            clear B1 q0 q1 q2 q3 q4 q5 q6 q7 q8
            have Z8 := Lib.hid (Z7.out.bel hb8)
            have HB8 := Lib.hid (below_two HB7.out hb8)
            have RI := row_one15 (T := 24) (w := w8) z (HZ7.out.below hb8) rfl
            have Q1 := rights15 _ _ RI
            simp only [List.all_cons, List.all_nil, Bool.and_true] at Q1
            rw [HZR2.out] at Q1
            have q0 : w8.cell? ⟨cb, 0, none⟩ = some (.int .i64 z.kind) := Z8.out.cell 0
            have q1 : w8.cell? ⟨cb, 1, none⟩ = some (.int .i64 z.n0) := Z8.out.cell 1
            have q2 : w8.cell? ⟨cb, 2, none⟩ = some (.int .i64 z.n1) := Z8.out.cell 2
            have q3 : w8.cell? ⟨cb, 3, none⟩ = some (.int .i64 z.n2) := Z8.out.cell 3
            have q4 : w8.cell? ⟨cb, 4, none⟩ = some (.int .i64 z.n3) := Z8.out.cell 4
            have q5 : w8.cell? ⟨cb, 5, none⟩ = some (.int .i64 z.n4) := Z8.out.cell 5
            have q6 : w8.cell? ⟨cb, 6, none⟩ = some (.int .i64 z.n5) := Z8.out.cell 6
            have q7 : w8.cell? ⟨cb, 7, none⟩ = some (.int .i64 z.n6) := Z8.out.cell 7
            have q8 : w8.cell? ⟨cb, 8, none⟩ = some (.slice z.li.a z.li.n z.li.cap) := Z8.out.cell 8
            have HBa := Lib.hid (HB8.out.alloc HB8.out.size (.cells #[.int .i64 z.kind, .int .i64 z.n0, .int .i64 z.n1, .int .i64 z.n2, .int .i64 z.n3, .int .i64 z.n4, .int .i64 z.n5, .int .i64 z.n6, .slice z.li.a z.li.n z.li.cap] 24))
            clear RI hb8
            go_wp2_with fail
            refine Q1.mono ?_
            rintro e w9 ⟨rfl, hb9⟩
            clear q0 q1 q2 q3 q4 q5 q6 q7 q8
            have HB9 := Lib.hid (below_two HBa.out hb9)
            clear Q1 hb9
            go_wp2_with fail
            go_ret
            exact ⟨ret_bool (by simp), HB9.out⟩
      · have HKk := Lib.hid hK
        have e0 : ((K : Int) == 0) = false := by simp; omega
        have e1 : ((K : Int) == 1) = false := by simp; omega
        have e2 : ((K : Int) == 2) = false := by simp; omega
        have e3 : ((K : Int) == 3) = false := by simp; omega
        have e4 : ((K : Int) == 4) = false := by simp; omega
        have e5 : ((K : Int) == 5) = true := by rw [hK]; rfl
        have cM : w5.cell? ⟨cb, 6, none⟩ = some (.int .i64 y.n5) := Y5.cell 6
        have fM : w5.frozen? ⟨cb, 6, none⟩ = false := Y5.frozen 6
        have Z6 : Box (w5.setCell ⟨cb, 6, none⟩ (.int .i64 a2)) cb 24 (setM15 y 5 a2).cells.toArray := Y5.set 6 (.int .i64 a2)
        have hgs := grownBy_setCell w5 cb 6 (.int .i64 a2)
        have X6 := X5.kept hgs (by simp; omega)
        have hb6 := HB5.out.grown hgs HB5.out.size (fun b e => by cases e; exact hwc)
        have hzi := rw_other15_ms (setM15_in hY5 5 HN2.out) (fun a ha h0 => by rw [setM15_li] at ha h0; exact HNE.out a ha h0) hgs
        have hzr : rightM (setM15 y 5 a2) = okn (fm x0.kind) a2 K := by rw [setM15_right HRY.out 5 (by omega) a2, HCP.out.kind, hK]
        clear hK
        go_upto_region 22 with fail
        obtain ⟨z, hz⟩ : ∃ z, setM15 y 5 a2 = z := ⟨_, rfl⟩
        rw [hz] at Z6 hzi hzr
        generalize w5.setCell ⟨cb, 6, none⟩ (.int .i64 a2) = w6 at Z6 X6 hb6 hzi ⊢
        clear hz hgs cM fM Y5 X5 hY5 hac e0 e1 e2 e3 e4 e5
        have HX6 := Lib.hid X6
        have HZ6 := Lib.hid Z6
        have HB6 := Lib.hid hb6
        have HZI := Lib.hid hzi
        have HZR := Lib.hid hzr
        have k0 : w6.cell? ⟨ab, 0, none⟩ = some (.int .i64 x0.kind) := X6.cell 0
        have FRM := HFR.out w6
        clear X6 Z6 hb6 hzi hzr
        go_wp2_with fail
        refine FRM.mono ?_
        rintro e w6 ⟨rfl, rfl⟩
        clear FRM k0
        go_wp2_with fail
        go_loopw [10, 12] (fun v' i' wr => ∃ (i d : Nat), i ≤ nl ∧ i' = .int .i64 i ∧ v' = .bool ((l.take i).contains c) ∧ wr = w6.drewN d) (fun _ i' _ => nl - (intOf i').toNat)
        case atStart => exact ⟨0, 0, by omega, rfl, by simp, rfl⟩
        case round =>
          obtain ⟨i, d, hi, rfl, rfl, rfl⟩ := hrel
          have ln := HLN.out 3 (w6.drewN d)
          by_cases hlt : i < nl
          · have hil : i < l.length := by rw [HNL.out]; exact hlt
            have hst := take_has l c i hil
            have hlt2 : (i : Int) < (nl : Int) := by omega
            cases hb : (l.take i).contains c with
            | true =>
              have HST : Hid ((l.take (i + 1)).contains c = true) := Lib.hid (by rw [hst, hb]; rfl)
              clear hst hb
              go_wp2_with fail
              go_quiet (fail)
              go_wp2
              go_roundw
              case rel => exact ⟨i + 1, _, by omega, by go_num, by rw [HST.out], rfl⟩
              case measure => simp [intOf]; omega
            | false =>
              have ix := IX.out i hil
              have ixa := HIA.out
              have HST : Hid ((l.take (i + 1)).contains c = (l.getD i 0 == c)) := Lib.hid (by rw [hst, hb]; rfl)
              generalize l.getD i 0 = z1 at ix HST
              have hcc : ((z1 : Int) == (c : Int)) = (z1 == c) := by
                rw [Bool.eq_iff_iff, beq_iff_eq, beq_iff_eq]; omega
              clear hst hb
              go_wp2_with fail
              go_quiet (fail)
              go_wp2
              go_roundw
              case rel => exact ⟨i + 1, _, by omega, by go_num, by rw [HST.out], rfl⟩
              case measure => simp [intOf]; omega
          · obtain rfl : i = nl := by omega
            have hfin : (l.take i).contains c = (fm x0.kind).testBit K := by rw [List.take_of_length_le (by rw [HNL.out]; exact Nat.le_refl _)]; exact HLK.out
            rw [hfin]
            clear hfin
            obtain ⟨tb, htb⟩ : ∃ tb, (fm x0.kind).testBit K = tb := ⟨_, rfl⟩
            obtain ⟨want, hw⟩ : ∃ b, okn (fm x0.kind) a2 K = b := ⟨_, rfl⟩
            have HTB := Lib.hid htb
            have HWT := Lib.hid hw
            have hzr2 := HZR.out
            rw [hw] at hzr2
            rw [htb]
            have Z7 := Lib.hid (HZ6.out.drewN d)
            have HB7 := Lib.hid (below_drewN HB6.out d)
            have hz7 := HZI.out.below (below_drewN (Below.refl w6.heap.size w6) d)
            generalize w6.drewN d = w7 at Z7 HB7 hz7 ⊢
            have HZR2 := Lib.hid hzr2
            have HZ7 := Lib.hid hz7
            clear htb hw hzr2 hz7 ln
            have ln := HLN.out 3 w7
            go_upto_region 27 with fail
            go_cut [13] from 84 to 96 (fun v wx => v = .bool want ∧ wx = w7)
            case first =>
              have hwt := HWT.out
              unfold okn at hwt
              rw [HTB.out] at hwt
              by_cases n0 : a2 = 0
              · have hz : Hid (true = want) := Lib.hid (by rw [← hwt, decide_eq_true ⟨by omega, by omega, Or.inl n0⟩])
                have b0 : (a2 == 0) = true := by simpa using n0
                clear hwt n0
                go_wp2_with fail
                go_meet
                case rel => exact ⟨by rw [hz.out], rfl⟩
              · have b0 : (a2 == 0) = false := by simpa using n0
                cases tb with
                | false =>
                  have hno : ¬ (0 ≤ a2 ∧ a2 < 1099511627776 ∧ (a2 = 0 ∨ false = true)) := fun h => by have h3 := h.2.2; simp at h3; exact n0 h3
                  have hz : Hid (false = want) := Lib.hid (by rw [← hwt]; exact (decide_eq_false hno).symm)
                  clear hno
                  clear hwt n0
                  go_wp2_with fail
                  go_meet
                  case rel => exact ⟨by rw [hz.out], rfl⟩
                | true =>
                  by_cases n1 : 0 < a2
                  · by_cases n2 : a2 < 1099511627776
                    · have hz : Hid (true = want) := Lib.hid (by rw [← hwt, decide_eq_true ⟨by omega, n2, Or.inr rfl⟩])
                      clear hwt n0
                      go_wp2_with fail
                      go_meet
                      case rel => exact ⟨by rw [hz.out], rfl⟩
                    · have hno : ¬ (0 ≤ a2 ∧ a2 < 1099511627776 ∧ (a2 = 0 ∨ true = true)) := fun h => n2 h.2.1
                      have hz : Hid (false = want) := Lib.hid (by rw [← hwt]; exact (decide_eq_false hno).symm)
                      clear hno
                      clear hwt n0
                      go_wp2_with fail
                      go_meet
                      case rel => exact ⟨by rw [hz.out], rfl⟩
                  · have hno : ¬ (0 ≤ a2 ∧ a2 < 1099511627776 ∧ (a2 = 0 ∨ true = true)) := fun h => by have h1 := h.1; omega
                    have hz : Hid (false = want) := Lib.hid (by rw [← hwt]; exact (decide_eq_false hno).symm)
                    clear hno
                    clear hwt n0
                    go_wp2_with fail
                    go_meet
                    case rel => exact ⟨by rw [hz.out], rfl⟩
            obtain ⟨rfl, rfl⟩ := hcut
            generalize wc = w7 at *
            have q0 : w7.cell? ⟨cb, 0, none⟩ = some (.int .i64 z.kind) := Z7.out.cell 0
            have q1 : w7.cell? ⟨cb, 1, none⟩ = some (.int .i64 z.n0) := Z7.out.cell 1
            have q2 : w7.cell? ⟨cb, 2, none⟩ = some (.int .i64 z.n1) := Z7.out.cell 2
            have q3 : w7.cell? ⟨cb, 3, none⟩ = some (.int .i64 z.n2) := Z7.out.cell 3
            have q4 : w7.cell? ⟨cb, 4, none⟩ = some (.int .i64 z.n3) := Z7.out.cell 4
            have q5 : w7.cell? ⟨cb, 5, none⟩ = some (.int .i64 z.n4) := Z7.out.cell 5
            have q6 : w7.cell? ⟨cb, 6, none⟩ = some (.int .i64 z.n5) := Z7.out.cell 6
            have q7 : w7.cell? ⟨cb, 7, none⟩ = some (.int .i64 z.n6) := Z7.out.cell 7
            have q8 : w7.cell? ⟨cb, 8, none⟩ = some (.slice z.li.a z.li.n z.li.cap) := Z7.out.cell 8
            have B1 := bytes15_any z w7 HZ7.out
            rw [HZR2.out] at B1
            go_wp2_with fail
            refine B1.mono ?_
            rintro e w8 ⟨⟨⟨qa, qn, qc, qv⟩, E, rfl, hE⟩, hb8⟩
            clear B1 q0 q1 q2 q3 q4 q5 q6 q7 q8
            have Z8 := Lib.hid (Z7.out.bel hb8)
            have HB8 := Lib.hid (below_two HB7.out hb8)
            have RI := row_one15 (T := 24) (w := w8) z (HZ7.out.below hb8) rfl
            have Q1 := rights15 _ _ RI
            simp only [List.all_cons, List.all_nil, Bool.and_true] at Q1
            rw [HZR2.out] at Q1
            have q0 : w8.cell? ⟨cb, 0, none⟩ = some (.int .i64 z.kind) := Z8.out.cell 0
            have q1 : w8.cell? ⟨cb, 1, none⟩ = some (.int .i64 z.n0) := Z8.out.cell 1
            have q2 : w8.cell? ⟨cb, 2, none⟩ = some (.int .i64 z.n1) := Z8.out.cell 2
            have q3 : w8.cell? ⟨cb, 3, none⟩ = some (.int .i64 z.n2) := Z8.out.cell 3
            have q4 : w8.cell? ⟨cb, 4, none⟩ = some (.int .i64 z.n3) := Z8.out.cell 4
            have q5 : w8.cell? ⟨cb, 5, none⟩ = some (.int .i64 z.n4) := Z8.out.cell 5
            have q6 : w8.cell? ⟨cb, 6, none⟩ = some (.int .i64 z.n5) := Z8.out.cell 6
            have q7 : w8.cell? ⟨cb, 7, none⟩ = some (.int .i64 z.n6) := Z8.out.cell 7
            have q8 : w8.cell? ⟨cb, 8, none⟩ = some (.slice z.li.a z.li.n z.li.cap) := Z8.out.cell 8
            have HBa := Lib.hid (HB8.out.alloc HB8.out.size (.cells #[.int .i64 z.kind, .int .i64 z.n0, .int .i64 z.n1, .int .i64 z.n2, .int .i64 z.n3, .int .i64 z.n4, .int .i64 z.n5, .int .i64 z.n6, .slice z.li.a z.li.n z.li.cap] 24))
            clear RI hb8
            go_wp2_with fail
            refine Q1.mono ?_
            rintro e w9 ⟨rfl, hb9⟩
            clear q0 q1 q2 q3 q4 q5 q6 q7 q8
            have HB9 := Lib.hid (below_two HBa.out hb9)
            clear Q1 hb9
            go_wp2_with fail
            go_ret
            exact ⟨ret_bool (by simp), HB9.out⟩
      · have HKk := Lib.hid hK
        have e0 : ((K : Int) == 0) = false := by simp; omega
        have e1 : ((K : Int) == 1) = false := by simp; omega
        have e2 : ((K : Int) == 2) = false := by simp; omega
        have e3 : ((K : Int) == 3) = false := by simp; omega
        have e4 : ((K : Int) == 4) = false := by simp; omega
        have e5 : ((K : Int) == 5) = false := by simp; omega
        have e6 : ((K : Int) == 6) = true := by rw [hK]; rfl
        have cM : w5.cell? ⟨cb, 7, none⟩ = some (.int .i64 y.n6) := Y5.cell 7
        have fM : w5.frozen? ⟨cb, 7, none⟩ = false := Y5.frozen 7
        have Z6 : Box (w5.setCell ⟨cb, 7, none⟩ (.int .i64 a2)) cb 24 (setM15 y 6 a2).cells.toArray := Y5.set 7 (.int .i64 a2)
        have hgs := grownBy_setCell w5 cb 7 (.int .i64 a2)
        have X6 := X5.kept hgs (by simp; omega)
        have hb6 := HB5.out.grown hgs HB5.out.size (fun b e => by cases e; exact hwc)
        have hzi := rw_other15_ms (setM15_in hY5 6 HN2.out) (fun a ha h0 => by rw [setM15_li] at ha h0; exact HNE.out a ha h0) hgs
        have hzr : rightM (setM15 y 6 a2) = okn (fm x0.kind) a2 K := by rw [setM15_right HRY.out 6 (by omega) a2, HCP.out.kind, hK]
        clear hK
        go_upto_region 22 with fail
        obtain ⟨z, hz⟩ : ∃ z, setM15 y 6 a2 = z := ⟨_, rfl⟩
        rw [hz] at Z6 hzi hzr
        generalize w5.setCell ⟨cb, 7, none⟩ (.int .i64 a2) = w6 at Z6 X6 hb6 hzi ⊢
        clear hz hgs cM fM Y5 X5 hY5 hac e0 e1 e2 e3 e4 e5 e6
        have HX6 := Lib.hid X6
        have HZ6 := Lib.hid Z6
        have HB6 := Lib.hid hb6
        have HZI := Lib.hid hzi
        have HZR := Lib.hid hzr
        have k0 : w6.cell? ⟨ab, 0, none⟩ = some (.int .i64 x0.kind) := X6.cell 0
        have FRM := HFR.out w6
        clear X6 Z6 hb6 hzi hzr
        go_wp2_with fail
        refine FRM.mono ?_
        rintro e w6 ⟨rfl, rfl⟩
        clear FRM k0
        go_wp2_with fail
        go_loopw [10, 12] (fun v' i' wr => ∃ (i d : Nat), i ≤ nl ∧ i' = .int .i64 i ∧ v' = .bool ((l.take i).contains c) ∧ wr = w6.drewN d) (fun _ i' _ => nl - (intOf i').toNat)
        case atStart => exact ⟨0, 0, by omega, rfl, by simp, rfl⟩
        case round =>
          obtain ⟨i, d, hi, rfl, rfl, rfl⟩ := hrel
          have ln := HLN.out 3 (w6.drewN d)
          by_cases hlt : i < nl
          · have hil : i < l.length := by rw [HNL.out]; exact hlt
            have hst := take_has l c i hil
            have hlt2 : (i : Int) < (nl : Int) := by omega
            cases hb : (l.take i).contains c with
            | true =>
              have HST : Hid ((l.take (i + 1)).contains c = true) := Lib.hid (by rw [hst, hb]; rfl)
              clear hst hb
              go_wp2_with fail
              go_quiet (fail)
              go_wp2
              go_roundw
              case rel => exact ⟨i + 1, _, by omega, by go_num, by rw [HST.out], rfl⟩
              case measure => simp [intOf]; omega
            | false =>
              have ix := IX.out i hil
              have ixa := HIA.out
              have HST : Hid ((l.take (i + 1)).contains c = (l.getD i 0 == c)) := Lib.hid (by rw [hst, hb]; rfl)
              generalize l.getD i 0 = z1 at ix HST
              have hcc : ((z1 : Int) == (c : Int)) = (z1 == c) := by
                rw [Bool.eq_iff_iff, beq_iff_eq, beq_iff_eq]; omega
              clear hst hb
              go_wp2_with fail
              go_quiet (fail)
              go_wp2
              go_roundw
              case rel => exact ⟨i + 1, _, by omega, by go_num, by rw [HST.out], rfl⟩
              case measure => simp [intOf]; omega
          · obtain rfl : i = nl := by omega
            have hfin : (l.take i).contains c = (fm x0.kind).testBit K := by rw [List.take_of_length_le (by rw [HNL.out]; exact Nat.le_refl _)]; exact HLK.out
            rw [hfin]
            clear hfin
            obtain ⟨tb, htb⟩ : ∃ tb, (fm x0.kind).testBit K = tb := ⟨_, rfl⟩
            obtain ⟨want, hw⟩ : ∃ b, okn (fm x0.kind) a2 K = b := ⟨_, rfl⟩
            have HTB := Lib.hid htb
            have HWT := Lib.hid hw
            have hzr2 := HZR.out
            rw [hw] at hzr2
            rw [htb]
            have Z7 := Lib.hid (HZ6.out.drewN d)
            have HB7 := Lib.hid (below_drewN HB6.out d)
            have hz7 := HZI.out.below (below_drewN (Below.refl w6.heap.size w6) d)
            generalize w6.drewN d = w7 at Z7 HB7 hz7 ⊢
            have HZR2 := Lib.hid hzr2
            have HZ7 := Lib.hid hz7
            clear htb hw hzr2 hz7 ln
            have ln := HLN.out 3 w7
            go_upto_region 27 with fail
            go_cut [13] from 84 to 96 (fun v wx => v = .bool want ∧ wx = w7)
            case first =>
              have hwt := HWT.out
              unfold okn at hwt
              rw [HTB.out] at hwt
              by_cases n0 : a2 = 0
              · have hz : Hid (true = want) := Lib.hid (by rw [← hwt, decide_eq_true ⟨by omega, by omega, Or.inl n0⟩])
                have b0 : (a2 == 0) = true := by simpa using n0
                clear hwt n0
                go_wp2_with fail
                go_meet
                case rel => exact ⟨by rw [hz.out], rfl⟩
              · have b0 : (a2 == 0) = false := by simpa using n0
                cases tb with
                | false =>
                  have hno : ¬ (0 ≤ a2 ∧ a2 < 1099511627776 ∧ (a2 = 0 ∨ false = true)) := fun h => by have h3 := h.2.2; simp at h3; exact n0 h3
                  have hz : Hid (false = want) := Lib.hid (by rw [← hwt]; exact (decide_eq_false hno).symm)
                  clear hno
                  clear hwt n0
                  go_wp2_with fail
                  go_meet
                  case rel => exact ⟨by rw [hz.out], rfl⟩
                | true =>
                  by_cases n1 : 0 < a2
                  · by_cases n2 : a2 < 1099511627776
                    · have hz : Hid (true = want) := Lib.hid (by rw [← hwt, decide_eq_true ⟨by omega, n2, Or.inr rfl⟩])
                      clear hwt n0
                      go_wp2_with fail
                      go_meet
                      case rel => exact ⟨by rw [hz.out], rfl⟩
                    · have hno : ¬ (0 ≤ a2 ∧ a2 < 1099511627776 ∧ (a2 = 0 ∨ true = true)) := fun h => n2 h.2.1
                      have hz : Hid (false = want) := Lib.hid (by rw [← hwt]; exact (decide_eq_false hno).symm)
                      clear hno
                      clear hwt n0
                      go_wp2_with fail
                      go_meet
                      case rel => exact ⟨by rw [hz.out], rfl⟩
                  · have hno : ¬ (0 ≤ a2 ∧ a2 < 1099511627776 ∧ (a2 = 0 ∨ true = true)) := fun h => by have h1 := h.1; omega
                    have hz : Hid (false = want) := Lib.hid (by rw [← hwt]; exact (decide_eq_false hno).symm)
                    clear hno
                    clear hwt n0
                    go_wp2_with fail
                    go_meet
                    case rel => exact ⟨by rw [hz.out], rfl⟩
            obtain ⟨rfl, rfl⟩ := hcut
            generalize wc = w7 at *
            have q0 : w7.cell? ⟨cb, 0, none⟩ = some (.int .i64 z.kind) := Z7.out.cell 0
            have q1 : w7.cell? ⟨cb, 1, none⟩ = some (.int .i64 z.n0) := Z7.out.cell 1
            have q2 : w7.cell? ⟨cb, 2, none⟩ = some (.int .i64 z.n1) := Z7.out.cell 2
            have q3 : w7.cell? ⟨cb, 3, none⟩ = some (.int .i64 z.n2) := Z7.out.cell 3
            have q4 : w7.cell? ⟨cb, 4, none⟩ = some (.int .i64 z.n3) := Z7.out.cell 4
            have q5 : w7.cell? ⟨cb, 5, none⟩ = some (.int .i64 z.n4) := Z7.out.cell 5
            have q6 : w7.cell? ⟨cb, 6, none⟩ = some (.int .i64 z.n5) := Z7.out.cell 6
            have q7 : w7.cell? ⟨cb, 7, none⟩ = some (.int .i64 z.n6) := Z7.out.cell 7
            have q8 : w7.cell? ⟨cb, 8, none⟩ = some (.slice z.li.a z.li.n z.li.cap) := Z7.out.cell 8
            have B1 := bytes15_any z w7 HZ7.out
            rw [HZR2.out] at B1
            go_wp2_with fail
            refine B1.mono ?_
            rintro e w8 ⟨⟨⟨qa, qn, qc, qv⟩, E, rfl, hE⟩, hb8⟩
            clear B1 q0 q1 q2 q3 q4 q5 q6 q7 q8
            have Z8 := Lib.hid (Z7.out.bel hb8)
            have HB8 := Lib.hid (below_two HB7.out hb8)
            have RI := row_one15 (T := 24) (w := w8) z (HZ7.out.below hb8) rfl
            have Q1 := rights15 _ _ RI
            simp only [List.all_cons, List.all_nil, Bool.and_true] at Q1
            rw [HZR2.out] at Q1
            have q0 : w8.cell? ⟨cb, 0, none⟩ = some (.int .i64 z.kind) := Z8.out.cell 0
            have q1 : w8.cell? ⟨cb, 1, none⟩ = some (.int .i64 z.n0) := Z8.out.cell 1
            have q2 : w8.cell? ⟨cb, 2, none⟩ = some (.int .i64 z.n1) := Z8.out.cell 2
            have q3 : w8.cell? ⟨cb, 3, none⟩ = some (.int .i64 z.n2) := Z8.out.cell 3
            have q4 : w8.cell? ⟨cb, 4, none⟩ = some (.int .i64 z.n3) := Z8.out.cell 4
            have q5 : w8.cell? ⟨cb, 5, none⟩ = some (.int .i64 z.n4) := Z8.out.cell 5
            have q6 : w8.cell? ⟨cb, 6, none⟩ = some (.int .i64 z.n5) := Z8.out.cell 6
            have q7 : w8.cell? ⟨cb, 7, none⟩ = some (.int .i64 z.n6) := Z8.out.cell 7
            have q8 : w8.cell? ⟨cb, 8, none⟩ = some (.slice z.li.a z.li.n z.li.cap) := Z8.out.cell 8
            have HBa := Lib.hid (HB8.out.alloc HB8.out.size (.cells #[.int .i64 z.kind, .int .i64 z.n0, .int .i64 z.n1, .int .i64 z.n2, .int .i64 z.n3, .int .i64 z.n4, .int .i64 z.n5, .int .i64 z.n6, .slice z.li.a z.li.n z.li.cap] 24))
            clear RI hb8
            go_wp2_with fail
            refine Q1.mono ?_
            rintro e w9 ⟨rfl, hb9⟩
            clear q0 q1 q2 q3 q4 q5 q6 q7 q8
            have HB9 := Lib.hid (below_two HBa.out hb9)
            clear Q1 hb9
            go_wp2_with fail
            go_ret
            exact ⟨ret_bool (by simp), HB9.out⟩

set_option maxRecDepth 100000 in
theorem lifted (os : Os) (started : os.Started) (H : Type) (enc : TypeId × Value → H) :
    ReturnsInHanded {} Try.checked os 6 .any (Rows.msgFormsSpec.pre6 enc Try.prog Try.f6 Rows.msgFormsRow.domain false) (Rows.msgFormsSpec.post enc Try.prog Try.f6 false true false false) := by
  refine returnsInHanded_of_change (C := Try.checked) own started (by kernel_rfl) Try.func6
    (ChangeSpec.witness6 (enc := enc) (C := Try.checked) false ⟨#[], #[.agg #[.int .i64 0, .int .i64 0, .int .i64 0, .int .i64 0, .int .i64 0, .int .i64 0, .int .i64 0, .int .i64 0, .slice none 0 0], .int .i64 0, .int .i64 0], []⟩ 8 (by kernel_rfl) (by kernel_rfl) (by kernel_rfl) (by kernel_rfl)) ?_
  intro W base args ds gs before hval0 hW hcnd _
  have hval : ∀ (j : Nat) t v, Try.f6.params[j]? = some t → args[j]? = some v → Value.okWide Try.prog W .any base t v := hval0
  have hW' := hW
  obtain ⟨p, q, hA0, hV, rfl, hfz, hnd⟩ := hW
  have hA : DataW.TrodAll enc Try.prog W 0 (fun _ => true) true Try.f6.params.toList args.toList ds p := hA0
  rw [Try.params6] at hA hval
  obtain ⟨v0, vs0, d0, ds0, p0, q0, hargs, rfl, rfl, h0, r0⟩ := trodAll_cons hA
  obtain ⟨v1, vs1, d1, ds1, p1, q1, rfl, rfl, rfl, h1, r1⟩ := trodAll_cons r0
  obtain ⟨v2, vs2, d2, ds2, p2, q2, rfl, rfl, rfl, h2, r2⟩ := trodAll_cons r1
  obtain ⟨rfl, rfl, rfl⟩ := trodAll_nil r2
  obtain rfl : args = #[v0, v1, v2] := by cases args; simp_all
  obtain ⟨rfl, rfl⟩ := trodVars_none hV
  have k0 := h0
  have lt0 : ∀ x ∈ p0, x.block < W.heap.size := by obtain ⟨m, hm⟩ := k0; exact DataW.trod_lt m _ _ _ hm
  obtain ⟨x0, rfl, w0⟩ := open_Ms15 (hval 0 24 v0 rfl rfl) h0
  obtain ⟨a1, rfl, rfl, rfl, w1⟩ := open_int Try.underlying3 (hval 1 3 v1 rfl rfl) h1
  obtain ⟨a2, rfl, rfl, rfl, w2⟩ := open_int Try.underlying3 (hval 2 3 v2 rfl rfl) h2
  clear hA0 hval0
  refine (walk x0 a1 a2 W w0 w1 w2).mono fun e W' ⟨he, bel⟩ => ?_
  subst he
  exact ⟨_, rfl, _, _, _, [], _, [], hW', trodAll_mk1 (shut_bool Try.underlying4 _), (trodAll_cons_mk (Below.trod laidOut (by kernel_rfl) (of_decide_eq_true (by kernel_rfl)) k0 bel lt0) (trodAll_cons_mk (shut_int Try.underlying3 w1) (trodAll_cons_mk (shut_int Try.underlying3 w2) trodAll_mk0))), rfl, bel.frame _, fun h => by cases h⟩

theorem over : Rows.msgFormsRow.holds Try.pinned (OpenSpec.ofChange Rows.msgFormsSpec) :=
  OpenClaim.holds_of_wide 6 Try.f6 rfl rfl rfl rfl rfl rfl rfl ⟨rfl, rfl, rfl, rfl, rfl⟩ rfl rfl rfl rfl rfl (by kernel_rfl) Try.func6 (by kernel_rfl)
    (of_decide_eq_true (by kernel_rfl)) (by unfold Func.isWrapper; first | (rw [if_pos (by decide +kernel)]; kernel_rfl) | (rw [if_neg (by decide +kernel)]; exact ⟨rfl, rfl⟩))
    (fun os started H enc _ => lifted os started H enc)

/-- ████ THE STATEMENT ████ -/
theorem proved : Rows.MsgFormsSaid := over
#print axioms proved
end Go.Proofs.Ytobogkilkmnpmaa.msgForms
