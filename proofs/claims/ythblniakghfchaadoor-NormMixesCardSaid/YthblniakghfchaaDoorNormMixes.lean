/-
  Proved: for all weights, rows and whatever is to be joined NormMixes returns true (rows summed by weights, gated, and added to others, are the document's) and nothing that was in memory turns. Conditions: the table reads as the program's initialisers lay it (tied by the card).
-/
import Derived.Test.YthblniakghfchaaDoorRows
import Derived.WalkKit
import Derived.ProofKit
import Derived.OpenShut
import Derived.ShutString
import Derived.ChangeOld
import Derived.Below
import Derived.Test.YthblniakghfchaaDoorJoinRow
import Derived.Test.YthblniakghfchaaDoorLaid
import Derived.Test.YthblniakghfchaaDoorTie
import Derived.Test.YthblniakghfchaaDoorCards
import Derived.SevenTiedAt
import Derived.Test.YthblniakghfchaaDoorAwake5
import Derived.Test.YthblniakghfchaaDoorRefMix
import Derived.Test.YthblniakghfchaaDoorRefJoin
import Derived.Deep.QuietTactic
import Derived.BigQuiet
namespace Go.Proofs.YthblniakghfchaaDoor.normMixes
open Go.ChangeShapes Go.WideShapes Go.ChangeAt Go.RowKit
open Go.ChangeMaps (open_string shut_string)
set_option linter.unusedVariables false

theorem own : ownKnob Tryd.prog.godebug = none := by kernel_rfl
theorem laidOut : laidOutB Tryd.prog = true := by kernel_rfl

set_option maxHeartbeats 12800000 in
set_option maxRecDepth 100000 in
theorem walk (q0 : Rw) (a1 : Option Addr) (n1 cap1 : Nat) (qs1 : List Rw) (g2 : Jn) (w : World) (h0 : q0.In .i32 w) (h1 : Rws .i8 w a1 n1 qs1 ∧ n1 ≤ cap1 ∧ cap1 ≤ 9223372036854775807 ∧ Sl a1 cap1) (h2 : g2.In w) (hT : Tab w) :
    Calls Tryd.prog 5 #[.slice q0.a q0.n q0.cap, .slice a1 n1 cap1, .agg #[.slice g2.x.a g2.x.n g2.x.cap, .slice g2.y.a g2.y.n g2.y.cap, .int .i32 g2.b, .int .i64 g2.s]] w fun e w' => e = .returned (.bool true) ∧ Below w.heap.size w w' := by
  have n0 := h0.2.1
  have n0' := h0.2.2.1
  have n1' := h1.1.2.1
  have nx := h2.1.2.1
  have nx' := h2.1.2.2.1
  have ny := h2.2.1.2.1
  have ny' := h2.2.1.2.2.1
  obtain ⟨jb1, jb2⟩ := wf32 h2.2.2.1
  have B0 := fun o => (Below.refl w.heap.size w).alloc (Nat.le_refl _) o
  by_cases c0 : 60 < q0.n
  · have c0' : (60 : Int) < (q0.n : Int) := by omega
    go_enter Tryd.func5, Tryd.ntmps5
    go_wp2_with fail
    refine (awake5 _ (hT.below (B0 _))).mono ?_
    rintro e wa ⟨rfl, hb1⟩
    obtain ⟨d0, d1, d2, d3⟩ := four_cells rfl hb1
    have hb2 := below_two (B0 _) hb1
    have hT1 := hT.below hb2
    clear hT hb1 B0 h0 h1 h2
    go_wp2_with fail
    refine (awake5 _ hT1).mono ?_
    rintro e wb ⟨rfl, hb3⟩
    have hb4 := below_two hb2 hb3
    clear hT1 hb2 hb3 d0 d1 d2 d3
    go_wp2
    go_ret
    exact ⟨rfl, hb4⟩
  · have c0' : ¬ (60 : Int) < (q0.n : Int) := by omega
    by_cases c1 : 60 < n1
    · have c1' : (60 : Int) < (n1 : Int) := by omega
      go_enter Tryd.func5, Tryd.ntmps5
      go_wp2_with fail
      refine (awake5 _ (hT.below (B0 _))).mono ?_
      rintro e wa ⟨rfl, hb1⟩
      obtain ⟨d0, d1, d2, d3⟩ := four_cells rfl hb1
      have hb2 := below_two (B0 _) hb1
      have hT1 := hT.below hb2
      clear hT hb1 B0 h0 h1 h2
      go_wp2_with fail
      refine (awake5 _ hT1).mono ?_
      rintro e wb ⟨rfl, hb3⟩
      have hb4 := below_two hb2 hb3
      clear hT1 hb2 hb3 d0 d1 d2 d3
      go_wp2
      go_ret
      exact ⟨rfl, hb4⟩
    · have c1' : ¬ (60 : Int) < (n1 : Int) := by omega
      by_cases c2 : 200 < g2.x.n
      · have c2' : (200 : Int) < (g2.x.n : Int) := by omega
        go_enter Tryd.func5, Tryd.ntmps5
        go_wp2_with fail
        refine (awake5 _ (hT.below (B0 _))).mono ?_
        rintro e wa ⟨rfl, hb1⟩
        obtain ⟨d0, d1, d2, d3⟩ := four_cells rfl hb1
        have hb2 := below_two (B0 _) hb1
        have hT1 := hT.below hb2
        clear hT hb1 B0 h0 h1 h2
        go_wp2_with fail
        refine (awake5 _ hT1).mono ?_
        rintro e wb ⟨rfl, hb3⟩
        have hb4 := below_two hb2 hb3
        clear hT1 hb2 hb3 d0 d1 d2 d3
        go_wp2
        go_ret
        exact ⟨rfl, hb4⟩
      · have c2' : ¬ (200 : Int) < (g2.x.n : Int) := by omega
        by_cases c3 : 200 < g2.y.n
        · have c3' : (200 : Int) < (g2.y.n : Int) := by omega
          go_enter Tryd.func5, Tryd.ntmps5
          go_wp2_with fail
          refine (awake5 _ (hT.below (B0 _))).mono ?_
          rintro e wa ⟨rfl, hb1⟩
          obtain ⟨d0, d1, d2, d3⟩ := four_cells rfl hb1
          have hb2 := below_two (B0 _) hb1
          have hT1 := hT.below hb2
          clear hT hb1 B0 h0 h1 h2
          go_wp2_with fail
          refine (awake5 _ hT1).mono ?_
          rintro e wb ⟨rfl, hb3⟩
          have hb4 := below_two hb2 hb3
          clear hT1 hb2 hb3 d0 d1 d2 d3
          go_wp2
          go_ret
          exact ⟨rfl, hb4⟩
        · have c3' : ¬ (200 : Int) < (g2.y.n : Int) := by omega
          have HX := Lib.hid h0
          have HR := Lib.hid h1.1
          have HJ := Lib.hid h2
          clear h0 h1 h2
          go_enter Tryd.func5, Tryd.ntmps5
          go_wp2_with fail
          refine (awake5 _ (hT.below (B0 _))).mono ?_
          rintro e wa ⟨rfl, hb1⟩
          obtain ⟨d0, d1, d2, d3⟩ := four_cells rfl hb1
          clear hT
          go_wp2
          clear d0 d1 d2 d3
          go_loopw [7] (fun i wr => ∃ (k : Nat), k ≤ n1 ∧ i = .int .i64 k ∧ Below (w.alloc (.cells #[.slice g2.x.a g2.x.n g2.x.cap, .slice g2.y.a g2.y.n g2.y.cap, .int .i32 g2.b, .int .i64 g2.s] 37)).heap.size (w.alloc (.cells #[.slice g2.x.a g2.x.n g2.x.cap, .slice g2.y.a g2.y.n g2.y.cap, .int .i32 g2.b, .int .i64 g2.s] 37)) wr ∧ Hid (∀ i, i < k → (qs1.getD i default).n ≤ 200)) (fun i _ => n1 - (intOf i).toNat)
          case atStart => exact ⟨0, by omega, rfl, hb1, Lib.hid (fun i hi => by omega)⟩
          case round =>
            clear hb1
            obtain ⟨k, hk, rfl, hbel, hall⟩ := hrel
            by_cases hlt : k < n1
            · obtain ⟨b, off, q, rfl, hblt, cq, hq, hin⟩ := (HR.out.below (below_two (B0 _) hbel)).at_ hlt
              have hall2 : Hid (q.n ≤ 200 → ∀ i, i < k + 1 → (qs1.getD i default).n ≤ 200) := Lib.hid (fun h i hi => by
                rcases Nat.lt_or_ge i k with h1 | h1
                · exact hall.out i h1
                · obtain rfl : i = k := by omega
                  rw [hq.out]; exact h)
              obtain ⟨qa, qn, qcap, qv⟩ := q
              have hq2 := hin.2.1
              have hq3 := hin.2.2.1
              have hE := hin.1
              simp only at cq hq2 hq3 hE hall2
              clear hq hin hall
              by_cases cw : 200 < qn
              · have cw' : (200 : Int) < (qn : Int) := by omega
                have hbu := below_two (B0 _) hbel
                clear hE hall2 hbel
                go_wp2
                go_ret
                exact ⟨rfl, hbu⟩
              · have cw' : ¬ (200 : Int) < (qn : Int) := by omega
                have hall3 := Lib.hid (hall2.out (by omega))
                clear hall2
                go_wp2_with fail
                refine (gates qa qn qcap qv wr hE (by omega)).mono ?_
                rintro e wb ⟨rfl, hG, hb2⟩
                have cq2 := cell_keep cq hb2
                have hE2 := hE.below hb2
                have hbb := below_two hbel hb2
                have hnn : ((qn : Int) != (qn : Int)) = false := by simp
                generalize wr.heap.size = g at hG
                clear hE hb2 hbel cq hblt
                go_wp2
                clear hnn
                go_loopw [9] (fun i wr => ∃ (j d : Nat), j ≤ qn ∧ i = .int .i64 j ∧ wr = wb.drewN d) (fun i _ => qn - (intOf i).toNat)
                case atStart => exact ⟨0, 0, by omega, rfl, rfl⟩
                case round =>
                  obtain ⟨j, d, hj, rfl, rfl⟩ := hrel
                  by_cases hlt2 : j < qn
                  · obtain ⟨b2, o2, x, he, hc, hx, wx⟩ := hE2.at_ hlt2
                    subst he
                    obtain ⟨b3, o3, y, he, hc2, hy, wy⟩ := hG.at_ hlt2
                    cases he
                    obtain rfl : y = gate1 x := by
                      rw [← hy.out, ← hx.out]
                      have hl := hE2.1
                      simp [List.getD, List.getElem?_map, List.getElem?_eq_getElem (show j < qv.length by omega)]
                    rw [Nat.zero_add] at hc2
                    clear hx hy hE2 hG wx wy
                    by_cases c : x < 0
                    · have e : gate1 x = 0 := by unfold gate1; rw [if_neg (by omega)]
                      rw [e] at hc2
                      have em : (if x < 0 then (0 : Int) else x) = 0 := if_pos c
                      clear e
                      go_wp2
                      go_quiet (fail)
                      go_wp2
                      go_roundw
                      case rel => exact ⟨j + 1, _, by omega, by go_num, rfl⟩
                      case measure => simp [intOf]; omega
                    · have e : gate1 x = x := by unfold gate1; rw [if_pos (by omega)]
                      rw [e] at hc2
                      have em : (if x < 0 then (0 : Int) else x) = x := if_neg c
                      have exx : (x != x) = false := by simp
                      clear e
                      go_wp2
                      go_quiet (fail)
                      go_wp2
                      go_roundw
                      case rel => exact ⟨j + 1, _, by omega, by go_num, rfl⟩
                      case measure => simp [intOf]; omega
                  · obtain rfl : j = qn := by omega
                    have hbd := below_drewN hbb d
                    clear hE2 hG
                    go_wp2
                    go_roundw
                    case rel => exact ⟨k + 1, by omega, by go_num, hbd, hall3⟩
                    case measure => simp [intOf]; omega
            · obtain rfl : k = n1 := by omega
              by_cases cs : sameW qs1 = true
              · by_cases cn : q0.n = k
                · by_cases cj : g2.x.n = g2.y.n
                  · have CJ := Lib.hid cj
                    clear cj
                    have hx := HX.out.below (below_two (B0 _) hbel)
                    have hr := HR.out.below (below_two (B0 _) hbel)
                    have hjx := HJ.out.1.1.below (below_two (B0 _) hbel)
                    have hjy := HJ.out.2.1.1.below (below_two (B0 _) hbel)
                    have HS := Lib.hid cs
                    clear cs
                    subst cn
                    have hmm : (qs1.getD 0 default).n ≤ 1000 := by
                      by_cases hz : q0.n = 0
                      · have e := HR.out.1
                        rw [hz] at e
                        rw [List.length_eq_zero_iff.1 e]; show 0 ≤ 1000; omega
                      · have := hall.out 0 (by omega); omega
                    obtain ⟨m, hm⟩ : ∃ m, (qs1.getD 0 default).n = m := ⟨_, rfl⟩
                    rw [hm] at hmm
                    have HM := Lib.hid hm
                    clear hall hm
                    go_wp2_with fail
                    refine (mix_yes q0.a a1 q0.n q0.cap cap1 m q0.v qs1 wr hx.1 hr (by omega) HS.out HM.out hmm).mono ?_
                    rintro e wb ⟨⟨b, c, rfl, hA⟩, hb2⟩
                    have hx2 := hx.below hb2
                    have hr2 := hr.below hb2
                    have hjx2 := hjx.below hb2
                    have hjy2 := hjy.below hb2
                    have hbb := below_two hbel hb2
                    clear hx hr hjx hjy hbel hb2
                    go_wp2_with fail
                    refine (ref_mix_yes q0.a a1 q0.n q0.cap cap1 m q0.v qs1 wb hx2.1 hr2 (by omega) HS.out HM.out hmm).mono ?_
                    rintro e wc ⟨⟨b', c', rfl, hA2⟩, hb3⟩
                    have hA1 := hA.below hb3
                    have hjx3 := hjx2.below hb3
                    have hjy3 := hjy2.below hb3
                    have hbc := below_two hbb hb3
                    clear hx2 hr2 hjx2 hjy2 hbb hb3 hA
                    go_wp2_with fail
                    refine (bytes_yes b b' m c c' _ wc hA1 hA2).mono ?_
                    rintro e wd ⟨rfl, d, rfl⟩
                    generalize hwx : wc.drewN d = wx
                    have hd : Below wc.heap.size wc wx := by rw [← hwx]; exact below_drewN (Below.refl _ _) d
                    have hjx := hjx3.below hd
                    have hjy := hjy3.below hd
                    have hbx := below_two hbc hd
                    clear hA1 hA2 hjx3 hjy3 hbc hd hwx hmm
                    have hjn : ((g2.x.n : Int) != (g2.x.n : Int)) = false := by simp
                    rw [← CJ.out] at hjy
                    obtain ⟨d0, d1, d2, d3⟩ := four_cells rfl hbx
                    rw [← CJ.out] at d1
                    go_wp2_with fail
                    refine (join_yes g2.x.a g2.y.a g2.x.n g2.x.cap g2.y.cap g2.b g2.s g2.x.v g2.y.v wx hjx hjy (by omega) jb1 jb2).mono ?_
                    rintro e wy ⟨⟨c, rfl, hC⟩, hby⟩
                    obtain ⟨e0, e1, e2, e3⟩ := four_cells rfl (below_two hbx hby)
                    rw [← CJ.out] at e1
                    have hbz := below_two hbx hby
                    have hjx2 := hjx.below hby
                    have hjy2 := hjy.below hby
                    clear hjx hjy hbx hby d0 d1 d2 d3
                    go_wp2_with fail
                    refine (ref_join g2.x.a g2.y.a g2.x.n g2.x.cap g2.y.cap g2.b g2.s g2.x.v g2.y.v wy hjx2 hjy2 (by omega) jb1 jb2).mono ?_
                    rintro e wz ⟨⟨f, fc, rfl, hF⟩, hbf⟩
                    have hC2 := hC.below hbf
                    have hbz2 := below_two hbz hbf
                    clear hC hjx2 hjy2 hbz hbf e0 e1 e2 e3 hjn
                    go_wp2_with fail
                    refine (ints_yes _ f g2.x.n g2.x.n fc _ wz hC2 hF).mono ?_
                    rintro e wu ⟨rfl, d, rfl⟩
                    have hbu := below_two (B0 _) (below_drewN hbz2 d)
                    clear hC2 hF hbz2
                    go_wp2
                    go_ret
                    exact ⟨rfl, hbu⟩
                  · have CJ := Lib.hid cj
                    clear cj
                    have hx := HX.out.below (below_two (B0 _) hbel)
                    have hr := HR.out.below (below_two (B0 _) hbel)
                    have hjx := HJ.out.1.1.below (below_two (B0 _) hbel)
                    have hjy := HJ.out.2.1.1.below (below_two (B0 _) hbel)
                    have HS := Lib.hid cs
                    clear cs
                    subst cn
                    have hmm : (qs1.getD 0 default).n ≤ 1000 := by
                      by_cases hz : q0.n = 0
                      · have e := HR.out.1
                        rw [hz] at e
                        rw [List.length_eq_zero_iff.1 e]; show 0 ≤ 1000; omega
                      · have := hall.out 0 (by omega); omega
                    obtain ⟨m, hm⟩ : ∃ m, (qs1.getD 0 default).n = m := ⟨_, rfl⟩
                    rw [hm] at hmm
                    have HM := Lib.hid hm
                    clear hall hm
                    go_wp2_with fail
                    refine (mix_yes q0.a a1 q0.n q0.cap cap1 m q0.v qs1 wr hx.1 hr (by omega) HS.out HM.out hmm).mono ?_
                    rintro e wb ⟨⟨b, c, rfl, hA⟩, hb2⟩
                    have hx2 := hx.below hb2
                    have hr2 := hr.below hb2
                    have hjx2 := hjx.below hb2
                    have hjy2 := hjy.below hb2
                    have hbb := below_two hbel hb2
                    clear hx hr hjx hjy hbel hb2
                    go_wp2_with fail
                    refine (ref_mix_yes q0.a a1 q0.n q0.cap cap1 m q0.v qs1 wb hx2.1 hr2 (by omega) HS.out HM.out hmm).mono ?_
                    rintro e wc ⟨⟨b', c', rfl, hA2⟩, hb3⟩
                    have hA1 := hA.below hb3
                    have hjx3 := hjx2.below hb3
                    have hjy3 := hjy2.below hb3
                    have hbc := below_two hbb hb3
                    clear hx2 hr2 hjx2 hjy2 hbb hb3 hA
                    go_wp2_with fail
                    refine (bytes_yes b b' m c c' _ wc hA1 hA2).mono ?_
                    rintro e wd ⟨rfl, d, rfl⟩
                    generalize hwx : wc.drewN d = wx
                    have hd : Below wc.heap.size wc wx := by rw [← hwx]; exact below_drewN (Below.refl _ _) d
                    have hjx := hjx3.below hd
                    have hjy := hjy3.below hd
                    have hbx := below_two hbc hd
                    clear hA1 hA2 hjx3 hjy3 hbc hd hwx hmm
                    have hjn : ((g2.x.n : Int) != (g2.y.n : Int)) = true := by have := CJ.out; simp; omega
                    obtain ⟨d0, d1, d2, d3⟩ := four_cells rfl hbx
                    clear hjx hjy
                    go_wp2_with fail
                    refine (join_no g2.x.a g2.y.a g2.x.n g2.y.n g2.x.cap g2.y.cap g2.b g2.s CJ.out (by omega) (by omega) wx).mono ?_
                    rintro e wy ⟨rfl, rfl⟩
                    have hbu := below_two (B0 _) hbx
                    clear hbx
                    go_wp2
                    go_ret
                    exact ⟨rfl, hbu⟩
                · replace cn : q0.n ≠ k ∨ sameW qs1 = false := .inl cn
                  by_cases cj : g2.x.n = g2.y.n
                  · have CJ := Lib.hid cj
                    clear cj
                    have hx := HX.out.below (below_two (B0 _) hbel)
                    have hr := HR.out.below (below_two (B0 _) hbel)
                    have hjx := HJ.out.1.1.below (below_two (B0 _) hbel)
                    have hjy := HJ.out.2.1.1.below (below_two (B0 _) hbel)
                    have CN := Lib.hid cn
                    clear cn
                    clear hall
                    go_wp2_with fail
                    refine (mix_no q0.a a1 q0.n k q0.cap cap1 qs1 wr hr (by omega) CN.out).mono ?_
                    rintro e wb ⟨rfl, rfl⟩
                    go_wp2_with fail
                    refine (ref_mix_no q0.a a1 q0.n k q0.cap cap1 qs1 wr hr (by omega) CN.out).mono ?_
                    rintro e wx ⟨rfl, hb2⟩
                    have hbx := below_two hbel hb2
                    have hjx2 := hjx.below hb2
                    have hjy2 := hjy.below hb2
                    clear hx hr hjx hjy hbel hb2
                    have hjx := hjx2
                    have hjy := hjy2
                    clear hjx2 hjy2
                    have hjn : ((g2.x.n : Int) != (g2.x.n : Int)) = false := by simp
                    rw [← CJ.out] at hjy
                    obtain ⟨d0, d1, d2, d3⟩ := four_cells rfl hbx
                    rw [← CJ.out] at d1
                    go_wp2_with fail
                    refine (join_yes g2.x.a g2.y.a g2.x.n g2.x.cap g2.y.cap g2.b g2.s g2.x.v g2.y.v wx hjx hjy (by omega) jb1 jb2).mono ?_
                    rintro e wy ⟨⟨c, rfl, hC⟩, hby⟩
                    obtain ⟨e0, e1, e2, e3⟩ := four_cells rfl (below_two hbx hby)
                    rw [← CJ.out] at e1
                    have hbz := below_two hbx hby
                    have hjx2 := hjx.below hby
                    have hjy2 := hjy.below hby
                    clear hjx hjy hbx hby d0 d1 d2 d3
                    go_wp2_with fail
                    refine (ref_join g2.x.a g2.y.a g2.x.n g2.x.cap g2.y.cap g2.b g2.s g2.x.v g2.y.v wy hjx2 hjy2 (by omega) jb1 jb2).mono ?_
                    rintro e wz ⟨⟨f, fc, rfl, hF⟩, hbf⟩
                    have hC2 := hC.below hbf
                    have hbz2 := below_two hbz hbf
                    clear hC hjx2 hjy2 hbz hbf e0 e1 e2 e3 hjn
                    go_wp2_with fail
                    refine (ints_yes _ f g2.x.n g2.x.n fc _ wz hC2 hF).mono ?_
                    rintro e wu ⟨rfl, d, rfl⟩
                    have hbu := below_two (B0 _) (below_drewN hbz2 d)
                    clear hC2 hF hbz2
                    go_wp2
                    go_ret
                    exact ⟨rfl, hbu⟩
                  · have CJ := Lib.hid cj
                    clear cj
                    have hx := HX.out.below (below_two (B0 _) hbel)
                    have hr := HR.out.below (below_two (B0 _) hbel)
                    have hjx := HJ.out.1.1.below (below_two (B0 _) hbel)
                    have hjy := HJ.out.2.1.1.below (below_two (B0 _) hbel)
                    have CN := Lib.hid cn
                    clear cn
                    clear hall
                    go_wp2_with fail
                    refine (mix_no q0.a a1 q0.n k q0.cap cap1 qs1 wr hr (by omega) CN.out).mono ?_
                    rintro e wb ⟨rfl, rfl⟩
                    go_wp2_with fail
                    refine (ref_mix_no q0.a a1 q0.n k q0.cap cap1 qs1 wr hr (by omega) CN.out).mono ?_
                    rintro e wx ⟨rfl, hb2⟩
                    have hbx := below_two hbel hb2
                    have hjx2 := hjx.below hb2
                    have hjy2 := hjy.below hb2
                    clear hx hr hjx hjy hbel hb2
                    have hjx := hjx2
                    have hjy := hjy2
                    clear hjx2 hjy2
                    have hjn : ((g2.x.n : Int) != (g2.y.n : Int)) = true := by have := CJ.out; simp; omega
                    obtain ⟨d0, d1, d2, d3⟩ := four_cells rfl hbx
                    clear hjx hjy
                    go_wp2_with fail
                    refine (join_no g2.x.a g2.y.a g2.x.n g2.y.n g2.x.cap g2.y.cap g2.b g2.s CJ.out (by omega) (by omega) wx).mono ?_
                    rintro e wy ⟨rfl, rfl⟩
                    have hbu := below_two (B0 _) hbx
                    clear hbx
                    go_wp2
                    go_ret
                    exact ⟨rfl, hbu⟩
              · have cn : q0.n ≠ k ∨ sameW qs1 = false := .inr (by simpa using cs)
                by_cases cj : g2.x.n = g2.y.n
                · have CJ := Lib.hid cj
                  clear cj
                  have hx := HX.out.below (below_two (B0 _) hbel)
                  have hr := HR.out.below (below_two (B0 _) hbel)
                  have hjx := HJ.out.1.1.below (below_two (B0 _) hbel)
                  have hjy := HJ.out.2.1.1.below (below_two (B0 _) hbel)
                  have CN := Lib.hid cn
                  clear cn
                  clear hall
                  go_wp2_with fail
                  refine (mix_no q0.a a1 q0.n k q0.cap cap1 qs1 wr hr (by omega) CN.out).mono ?_
                  rintro e wb ⟨rfl, rfl⟩
                  go_wp2_with fail
                  refine (ref_mix_no q0.a a1 q0.n k q0.cap cap1 qs1 wr hr (by omega) CN.out).mono ?_
                  rintro e wx ⟨rfl, hb2⟩
                  have hbx := below_two hbel hb2
                  have hjx2 := hjx.below hb2
                  have hjy2 := hjy.below hb2
                  clear hx hr hjx hjy hbel hb2
                  have hjx := hjx2
                  have hjy := hjy2
                  clear hjx2 hjy2
                  have hjn : ((g2.x.n : Int) != (g2.x.n : Int)) = false := by simp
                  rw [← CJ.out] at hjy
                  obtain ⟨d0, d1, d2, d3⟩ := four_cells rfl hbx
                  rw [← CJ.out] at d1
                  go_wp2_with fail
                  refine (join_yes g2.x.a g2.y.a g2.x.n g2.x.cap g2.y.cap g2.b g2.s g2.x.v g2.y.v wx hjx hjy (by omega) jb1 jb2).mono ?_
                  rintro e wy ⟨⟨c, rfl, hC⟩, hby⟩
                  obtain ⟨e0, e1, e2, e3⟩ := four_cells rfl (below_two hbx hby)
                  rw [← CJ.out] at e1
                  have hbz := below_two hbx hby
                  have hjx2 := hjx.below hby
                  have hjy2 := hjy.below hby
                  clear hjx hjy hbx hby d0 d1 d2 d3
                  go_wp2_with fail
                  refine (ref_join g2.x.a g2.y.a g2.x.n g2.x.cap g2.y.cap g2.b g2.s g2.x.v g2.y.v wy hjx2 hjy2 (by omega) jb1 jb2).mono ?_
                  rintro e wz ⟨⟨f, fc, rfl, hF⟩, hbf⟩
                  have hC2 := hC.below hbf
                  have hbz2 := below_two hbz hbf
                  clear hC hjx2 hjy2 hbz hbf e0 e1 e2 e3 hjn
                  go_wp2_with fail
                  refine (ints_yes _ f g2.x.n g2.x.n fc _ wz hC2 hF).mono ?_
                  rintro e wu ⟨rfl, d, rfl⟩
                  have hbu := below_two (B0 _) (below_drewN hbz2 d)
                  clear hC2 hF hbz2
                  go_wp2
                  go_ret
                  exact ⟨rfl, hbu⟩
                · have CJ := Lib.hid cj
                  clear cj
                  have hx := HX.out.below (below_two (B0 _) hbel)
                  have hr := HR.out.below (below_two (B0 _) hbel)
                  have hjx := HJ.out.1.1.below (below_two (B0 _) hbel)
                  have hjy := HJ.out.2.1.1.below (below_two (B0 _) hbel)
                  have CN := Lib.hid cn
                  clear cn
                  clear hall
                  go_wp2_with fail
                  refine (mix_no q0.a a1 q0.n k q0.cap cap1 qs1 wr hr (by omega) CN.out).mono ?_
                  rintro e wb ⟨rfl, rfl⟩
                  go_wp2_with fail
                  refine (ref_mix_no q0.a a1 q0.n k q0.cap cap1 qs1 wr hr (by omega) CN.out).mono ?_
                  rintro e wx ⟨rfl, hb2⟩
                  have hbx := below_two hbel hb2
                  have hjx2 := hjx.below hb2
                  have hjy2 := hjy.below hb2
                  clear hx hr hjx hjy hbel hb2
                  have hjx := hjx2
                  have hjy := hjy2
                  clear hjx2 hjy2
                  have hjn : ((g2.x.n : Int) != (g2.y.n : Int)) = true := by have := CJ.out; simp; omega
                  obtain ⟨d0, d1, d2, d3⟩ := four_cells rfl hbx
                  clear hjx hjy
                  go_wp2_with fail
                  refine (join_no g2.x.a g2.y.a g2.x.n g2.y.n g2.x.cap g2.y.cap g2.b g2.s CJ.out (by omega) (by omega) wx).mono ?_
                  rintro e wy ⟨rfl, rfl⟩
                  have hbu := below_two (B0 _) hbx
                  clear hbx
                  go_wp2
                  go_ret
                  exact ⟨rfl, hbu⟩

set_option maxRecDepth 100000 in
theorem lifted (os : Os) (started : os.Started) (H : Type) (enc : TypeId × Value → H) :
    ReturnsInHanded {} Tryd.checked os 5 .any (fun w args => (Rows.normMixesSpec.pre enc Tryd.prog Tryd.f5 [] false w args ∧ laidMetH Tryd.prog laidList w) ∧ sizedMet enc Tryd.prog Tryd.f5 (OpenSpec.ofChange Rows.normMixesSpec) false w args) (Rows.normMixesSpec.post enc Tryd.prog Tryd.f5 false true false false) := by
  refine returnsInHanded_of_change_and (C := Tryd.checked) (X := fun w _ => laidMetH Tryd.prog laidList w) (fun _ _ _ hh h => h.of_heap hh) own started (by kernel_rfl) Tryd.func5
    (ChangeSpec.witness_shaped (enc := enc) (C := Tryd.checked) (os := os) (X := fun w _ => laidMetH Tryd.prog laidList w) false (World.doorLaid Tryd.prog 400 os) #[.slice none 0 0, .slice none 0 0, .agg #[.slice none 0 0, .slice none 0 0, .int .i32 0, .int .i64 0]] 8 rfl (World.shaped_of_RefB (by kernel_rfl) (by kernel_rfl)) (by kernel_rfl) (by kernel_rfl) (by kernel_rfl) (door_met os _)) ?_
  intro W base args ds gs before hval0 hW _ _ hL _
  have hval : ∀ (j : Nat) t v, Tryd.f5.params[j]? = some t → args[j]? = some v → Value.okWide Tryd.prog W .any base t v := hval0
  have hW' := hW
  obtain ⟨p, q, hA0, hV, rfl, hfz, hnd⟩ := hW
  have hA : DataW.TrodAll enc Tryd.prog W 0 (fun _ => true) true Tryd.f5.params.toList args.toList ds p := hA0
  rw [Tryd.params5] at hA hval
  obtain ⟨v0, vs0, d0, ds0, p0, q0, hargs, rfl, rfl, h0, r0⟩ := trodAll_cons hA
  obtain ⟨v1, vs1, d1, ds1, p1, q1, rfl, rfl, rfl, h1, r1⟩ := trodAll_cons r0
  obtain ⟨v2, vs2, d2, ds2, p2, q2, rfl, rfl, rfl, h2, r2⟩ := trodAll_cons r1
  obtain ⟨rfl, rfl, rfl⟩ := trodAll_nil r2
  obtain rfl : args = #[v0, v1, v2] := by cases args; simp_all
  obtain ⟨rfl, rfl⟩ := trodVars_none hV
  have k0 := h0
  have lt0 : ∀ x ∈ p0, x.block < W.heap.size := by obtain ⟨m, hm⟩ := k0; exact DataW.trod_lt m _ _ _ hm
  obtain ⟨q0, rfl, w0⟩ := open_rw Tryd.underlying23 Tryd.underlying21 (by kernel_rfl) (hval 0 23 v0 rfl rfl) h0
  have k1 := h1
  have lt1 : ∀ x ∈ p1, x.block < W.heap.size := by obtain ⟨m, hm⟩ := k1; exact DataW.trod_lt m _ _ _ hm
  obtain ⟨a1, n1, cap1, qs1, rfl, w1⟩ := open_rws Tryd.underlying35 (by kernel_rfl) Tryd.underlying22 Tryd.underlying39 (by kernel_rfl) (hval 1 35 v1 rfl rfl) h1
  have k2 := h2
  have lt2 : ∀ x ∈ p2, x.block < W.heap.size := by obtain ⟨m, hm⟩ := k2; exact DataW.trod_lt m _ _ _ hm
  obtain ⟨g2, rfl, w2⟩ := open_joined (hval 2 37 v2 rfl rfl) h2
  clear hA0 hval0
  have hT := tab_of_laid hL
  refine (walk q0 a1 n1 cap1 qs1 g2 W w0 w1 w2 hT).mono fun e W' ⟨he, bel⟩ => ?_
  subst he
  exact ⟨_, rfl, _, _, _, [], _, [], hW', trodAll_mk1 (shut_bool Tryd.underlying4 _), (trodAll_cons_mk (Below.trod laidOut (by kernel_rfl) (of_decide_eq_true (by kernel_rfl)) k0 bel lt0) (trodAll_cons_mk (Below.trod laidOut (by kernel_rfl) (of_decide_eq_true (by kernel_rfl)) k1 bel lt1) (trodAll_cons_mk (Below.trod laidOut (by kernel_rfl) (of_decide_eq_true (by kernel_rfl)) k2 bel lt2) trodAll_mk0))), rfl, bel.frame _, fun h => by cases h⟩

theorem over : Rows.normMixesRow.holds Tryd.pinned (OpenSpec.ofChange Rows.normMixesSpec) :=
  OpenClaim.holds_of_wide 5 Tryd.f5 rfl rfl rfl rfl rfl rfl rfl ⟨rfl, rfl, rfl, rfl, rfl⟩ rfl rfl rfl rfl rfl (by kernel_rfl) Tryd.func5 (by kernel_rfl)
    (of_decide_eq_true (by kernel_rfl)) (by unfold Func.isWrapper; first | (rw [if_pos (by decide +kernel)]; kernel_rfl) | (rw [if_neg (by decide +kernel)]; exact ⟨rfl, rfl⟩))
    (fun os started H enc _ => lifted os started H enc)

/-- the row's statement -/
theorem said : Rows.NormMixesSaid := over

/-- THE STATEMENT: the tied card -/
theorem proved : Rows.NormMixesCardSaid :=
  Claim7.holds_tied_plain_at .later [] [.data] true (true, "d25234ddf6c27c6edf394e90a076e1636ca57c252689c4c3bbb1e2edf7642b21") false
    said (fun _ h => by cases h) (by kernel_rfl) (fun _ h => by cases h) normMixes_row_tie rfl ⟨rfl, rfl⟩ (by kernel_rfl) rfl
    (fun f fn hf hfn => by
      obtain rfl : f = 5 := Option.some.inj ((show Tryd.prog.funcNamed "peloton/pelotonlaw05.NormMixes" = some 5 by kernel_rfl).symm.trans hf) |>.symm
      obtain rfl : fn = Tryd.f5 := (Option.some.inj (Tryd.func5.symm.trans hfn)).symm
      exact ⟨by kernel_rfl, fun j t ht => by
        rw [Tryd.params5] at ht
        have hm : t ∈ [23, 35, 37] := by simpa using Array.mem_of_getElem? ht
        have hall : ([23, 35, 37].all fun u => !Tryd.prog.wantsStandIn u) = true := by kernel_rfl
        exact (show Tryd.prog.wantsStandIn t = false by simpa using List.all_eq_true.1 hall t hm)⟩)
    (by kernel_rfl)
#print axioms proved
end Go.Proofs.YthblniakghfchaaDoor.normMixes
