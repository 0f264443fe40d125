/-
  Proved: for any numbers and any row of numbers LinkWindow returns true (at a tick at most as many bodies go as the window says, in the order of their numbers; as soon as all is known to have come, nothing goes) and nothing that was in memory turns. No condition.
-/
import Derived.Test.YtkinbngikmcpeaaRows
import Derived.WalkKit
import Derived.ProofKit
import Derived.OpenShut
import Derived.ShutString
import Derived.ChangeOld
import Derived.Below
import Derived.Test.YtkinbngikmcpeaaLinkRow16
import Derived.Test.YtkinbngikmcpeaaLinkRow16
import Derived.Test.YtkinbngikmcpeaaWin16
import Derived.Deep.CutRange
namespace Go.Proofs.Ytkinbngikmcpeaa.linkWindow
open Go.ChangeShapes Go.WideShapes Go.ChangeAt Go.RowKit
open Go.ChangeMaps (open_string shut_string)
set_option linter.unusedVariables false

theorem own : ownKnob Try.prog.godebug = none := by kernel_rfl
theorem laidOut : laidOutB Try.prog = true := by kernel_rfl

set_option maxHeartbeats 6400000 in
set_option maxRecDepth 100000 in
theorem walk (x0 : Sides16) (a1 : Int) (q2 : Rw) (w : World) (h0 : Sides16.In w x0) (h1 : (Lit.int .i64 a1).wf = true) (h2 : q2.In .i64 w) :
    Calls Try.prog 6 #[.agg #[.int .i64 x0.win, .int .i64 x0.span, .int .i64 x0.room], .int .i64 a1, .slice q2.a q2.n q2.cap] w fun e w' => e = .returned (.bool true) ∧ Below w.heap.size w w' := by
  obtain ⟨win, span, room⟩ := x0
  simp only
  have HQ := Lib.hid h2
  clear h0 h1 h2
  obtain ⟨a, n, cap, ts⟩ := q2
  simp only at HQ ⊢
  by_cases h60 : 60 < n
  · have h1 : (60 : Int) < (n : Int) := by omega
    go_enter Try.func6, Try.ntmps6
    go_wp2_with fail
    refine (awake16 _).mono ?_
    rintro e w2 ⟨rfl, hb1⟩
    have HB1 := Lib.hid (((Below.refl _ w).alloc (Nat.le_refl _) (.cells #[.int .i64 win, .int .i64 span, .int .i64 room] 23)).trans (hb1.mono (by simp)))
    go_wp2_with fail
    refine (awake16 _).mono ?_
    rintro e w3 ⟨rfl, hb2⟩
    have HB := Lib.hid (below_two HB1.out hb2)
    clear hb1 hb2
    go_wp2_with fail
    go_ret
    exact ⟨rfl, HB.out⟩
  · have h1 : decide ((60 : Int) < (n : Int)) = false := decide_eq_false (by omega)
    obtain ⟨kw, hkw, hkw9⟩ := bring16 win 9 (by omega) (by omega)
    obtain ⟨ks, hks, hks5⟩ := bring16 span 5 (by omega) (by omega)
    obtain ⟨kk, hkk, hk60⟩ := bring16 a1 60 (by omega) (by omega)
    have HKB := Lib.hid (And.intro hkw (And.intro hks hkk))
    clear hkw hks hkk
    obtain ⟨W, hW⟩ : ∃ W, kw + 1 = W := ⟨_, rfl⟩
    obtain ⟨Sp, hSp⟩ : ∃ Sp, ks + 1 = Sp := ⟨_, rfl⟩
    have hw1 : wrap64 (1 + (kw : Int)) = (W : Int) := by unfold wrap64; omega
    have HW1 := Lib.hid hw1
    clear hw1
    have hs1 : wrap64 (1 + (ks : Int)) = (Sp : Int) := by unfold wrap64; omega
    have HS1 := Lib.hid hs1
    clear hs1
    have HWB : Hid ((1 ≤ W ∧ W ≤ 9) ∧ (1 ≤ Sp ∧ Sp ≤ 5) ∧ kk < 60 ∧ n ≤ 60) := Lib.hid (by omega)
    have HPM : Hid ((1 ≤ W ∧ W ≤ 64) ∧ (1 ≤ Sp ∧ Sp ≤ 1000) ∧ (1 ≤ 64 ∧ 64 ≤ 4096)) := Lib.hid (by omega)
    clear hkw9 hks5 hk60 hW hSp h60
    have hw1 := HW1.out
    have hs1 := HS1.out
    obtain ⟨hkw, hks, hkk⟩ := HKB.out
    go_enter Try.func6, Try.ntmps6
    go_wp2_with fail
    refine (awake16 _).mono ?_
    rintro e w2 ⟨rfl, hb1⟩
    have X2 : Box w2 w.heap.size 23 #[.int .i64 win, .int .i64 span, .int .i64 room] := (box_new w _ _).bel hb1
    have x0 : w2.cell? ⟨w.heap.size, 0, none⟩ = some (.int .i64 win) := X2.cell 0
    have x1 : w2.cell? ⟨w.heap.size, 1, none⟩ = some (.int .i64 span) := X2.cell 1
    have HB2 := Lib.hid (((Below.refl _ w).alloc (Nat.le_refl _) (.cells #[.int .i64 win, .int .i64 span, .int .i64 room] 23)).trans (hb1.mono (by simp)))
    have N1 := new16_yes W Sp 64 HPM.out w2
    clear X2 hb1
    go_wp2_with fail
    refine N1.mono ?_
    rintro e w3 ⟨f, rfl, hL, hf, hb⟩
    obtain ⟨lb, hlb⟩ : ∃ lb, f.lb = lb := ⟨_, rfl⟩
    have HI : Hid (WinW w lb W Sp 0 0 0 w3) := Lib.hid ⟨f, _, hL, win_new W Sp, hlb, fun b hb' => Nat.le_trans HB2.out.size (hf b hb'), below_two HB2.out hb⟩
    rw [hlb]
    clear hL hf hb hlb N1 x0 x1
    go_wp2_with fail
    clear hkw hks hkk hw1 hs1
    go_loopw [11] (fun i wr => ∃ k : Nat, k ≤ kk ∧ i = .int .i64 k ∧ Hid (WinW w lb W Sp k 0 0 wr)) (fun i _ => kk - (intOf i).toNat)
    case atStart => exact ⟨0, by omega, rfl, HI⟩
    case round =>
      obtain ⟨k, hk, rfl, HJ⟩ := hrel
      by_cases hlt : k < kk
      · have i1 : (k : Int) < (kk : Int) := by omega
        have hu : IntKind.u8.wrap (k : Int) = (k : Int) := by rw [IntKind.wrap_u8']; have := HWB.out; omega
        have hkw1 : IntKind.i64.wrap ((k : Int) + 1) = ((k + 1 : Nat) : Int) := by rw [IntWalk.i64_in _ (by have := HWB.out; omega)]; rfl
        have S1 := HJ.out.send (by have := HWB.out; omega) rfl
        go_wp2_with fail
        refine S1.mono ?_
        rintro e w4 ⟨rfl, hJ4⟩
        have HJ4 := Lib.hid hJ4
        clear S1 hJ4
        go_wp2_with fail
        go_roundw
        case rel => exact ⟨k + 1, by omega, by go_num, HJ4⟩
        case measure => simp [intOf]; omega
      · obtain rfl : k = kk := by omega
        clear hlt
        go_wp2_with fail
        go_loopw [14, 12, 13] (fun i a s wr => ∃ i' ak sn : Nat, i' ≤ n ∧ i = .int .i64 i' ∧ a = .int .i64 ak ∧ s = .int .i64 sn ∧ Hid (WinW w lb W Sp k ak sn wr)) (fun i _ _ _ => n - (intOf i).toNat)
        case atStart => exact ⟨0, 0, 0, by omega, rfl, rfl, rfl, HJ⟩
        case round =>
          clear HJ HI HB2
          obtain ⟨i, ak, sn, hi, rfl, rfl, rfl, HJ⟩ := hrel
          have hbd := HJ.out.bd
          have HBD := Lib.hid hbd
          by_cases hlt : i < n
          · have hlt2 : (i : Int) < (n : Int) := by omega
            have T1 := HJ.out.tick (by have := HWB.out; omega)
            clear hbd
            go_wp2_with fail
            refine T1.mono ?_
            rintro e w4 ⟨ps, pa, pc, rfl, hc1, hc2, hpW, hpk, hW4, hseg⟩
            obtain ⟨L, hL⟩ : ∃ L, ps.length = L := ⟨_, rfl⟩
            rw [hL] at hc1 hpW hpk
            have HPS := Lib.hid (And.intro hL (And.intro hpW (And.intro hpk hseg)))
            have HW4 := Lib.hid hW4
            have e1 : decide (W < L) = false := decide_eq_false (by omega)
            have e2 : decide ((W : Int) < (L : Int)) = false := decide_eq_false (by omega)
            rw [hL]
            clear T1 hL hpW hpk hseg hW4
            go_wp2_with fail
            clear e1 e2
            go_loopw [16, 13] (fun j s wr => ∃ j' : Nat, j' ≤ L ∧ j = .int .i64 j' ∧ Hid (s = .int .i64 (sentL ak sn (ps.take j') : Nat)) ∧ (∃ z : Int, s = .int .i64 z) ∧ wr = w4) (fun j _ _ => L - (intOf j).toNat)
            case atStart => exact ⟨0, by omega, rfl, Lib.hid rfl, ⟨_, rfl⟩, rfl⟩
            case round =>
              obtain ⟨j, hj, rfl, HS, ⟨z, rfl⟩, rfl⟩ := hrel
              obtain ⟨S, hS⟩ : ∃ S, sentL ak sn (ps.take j) = S := ⟨_, rfl⟩
              obtain rfl : z = (S : Int) := by have := HS.out; rw [hS] at this; exact (Value.int.inj this).2
              have HS2 := Lib.hid hS
              clear hS HS
              by_cases hjl : j < L
              · have hjl2 : (j : Int) < (L : Int) := by omega
                obtain ⟨hL, hpW, hpk, hseg⟩ := HPS.out
                obtain ⟨g, rfl, hC⟩ := hseg (by omega)
                have hjp : j < ps.length := by omega
                obtain ⟨b, off, z1, ⟨c, z3, hcc⟩, z4, p1, p2, p3⟩ := hC j hjp
                obtain ⟨P, hP⟩ : ∃ P, (ps[j]).1 = P := ⟨_, rfl⟩
                rw [hP] at z1 z4 p1 p2 p3
                obtain ⟨Q, hQq⟩ : ∃ Q, ak + 1 + P = Q := ⟨_, rfl⟩
                obtain ⟨Y, hY⟩ : ∃ Y, ak + P = Y := ⟨_, rfl⟩
                rw [hQq] at z1
                rw [hY] at z4
                have bb := HWB.out
                have HSQ : Hid (sentL ak sn (ps.take (j + 1)) = max S Q) := Lib.hid (by rw [sentL_take ak sn ps hjp, HS2.out, hP, hQq])
                have f1 : decide ((Q : Int) ≤ (ak : Int)) = false := decide_eq_false (by omega)
                have f1' : decide (Q ≤ ak) = false := decide_eq_false (by omega)
                have f2 : IntKind.i64.wrap ((ak : Int) + (W : Int)) = (ak : Int) + (W : Int) := IntWalk.i64_in _ (by omega)
                have f3 : decide ((ak : Int) + (W : Int) < (Q : Int)) = false := decide_eq_false (by omega)
                have f3' : decide (ak + W < Q) = false := decide_eq_false (by omega)
                have f4 : decide ((k : Int) < (Q : Int)) = false := decide_eq_false (by omega)
                have f4' : decide (k < Q) = false := decide_eq_false (by omega)
                have f5 : IntKind.i64.wrap (Y : Int) = (Y : Int) := IntWalk.i64_in _ (by omega)
                have f6 : IntKind.i64.wrap ((Q : Int) - 1) = (Y : Int) := by rw [IntWalk.i64_in _ (by omega)]; omega
                have hprev : j = 0 ∨ ∃ i0 Q0, i0 < L ∧ IntKind.i64.wrap ((j : Int) - 1) = (i0 : Int) ∧ wr.cell? ⟨g, i0 * 4 + 1, none⟩ = some (.int .i64 (Q0 : Nat)) ∧ Q0 < Q := by
                  by_cases hj0 : j = 0
                  · exact .inl hj0
                  · refine .inr ⟨j - 1, ak + 1 + (ps[j - 1]'(by omega)).1, by omega, by rw [IntWalk.i64_in _ (by omega)]; omega, (by obtain ⟨_, _, z, _⟩ := hC (j - 1) (by omega); exact z), by have := p3 (j - 1) (by omega); omega⟩
                have HKB2 := Lib.hid bb
                clear hL hpW hpk hseg hC hjp hP hQq hY p1 p2 p3 bb hcc
                rcases hprev with hj0 | ⟨i0, Q0, q1, q2, q3, q4⟩
                · have g1 : decide ((0 : Int) < (j : Int)) = false := decide_eq_false (by omega)
                  have g1' : decide (0 < j) = false := decide_eq_false (by omega)
                  clear hj0
                  go_upto_region 22 with fail
                  generalize hX : (if S < Q then (Q : Int) else (S : Int)) = X
                  have HX : Hid (X = ((sentL ak sn (ps.take (j + 1)) : Nat) : Int)) := Lib.hid (by rw [HSQ.out, ← hX]; split <;> omega)
                  clear hX
                  go_wp2_with fail
                  go_roundw
                  case rel => exact ⟨j + 1, by omega, by go_num, Lib.hid (val_int HX.out), ⟨_, rfl⟩, trivial⟩
                  case measure => simp [intOf]; omega
                · have g1 : (0 : Int) < (j : Int) := by
                    have h5 : ¬ j = 0 := by
                      rintro rfl
                      rw [IntWalk.i64_in _ (by omega)] at q2
                      omega
                    omega
                  have g2 : (i0 : Int) < (L : Int) := by omega
                  have g3 : decide ((Q : Int) ≤ (Q0 : Int)) = false := decide_eq_false (by omega)
                  have g3' : decide (Q ≤ Q0) = false := decide_eq_false (by omega)
                  clear q1 q4
                  go_upto_region 22 with fail
                  generalize hX : (if S < Q then (Q : Int) else (S : Int)) = X
                  have HX : Hid (X = ((sentL ak sn (ps.take (j + 1)) : Nat) : Int)) := Lib.hid (by rw [HSQ.out, ← hX]; split <;> omega)
                  clear hX
                  go_wp2_with fail
                  go_roundw
                  case rel => exact ⟨j + 1, by omega, by go_num, Lib.hid (val_int HX.out), ⟨_, rfl⟩, trivial⟩
                  case measure => simp [intOf]; omega
              · obtain rfl : j = L := by omega
                clear hjl
                have hSp : sentL ak sn ps = S := by have := HS2.out; rwa [List.take_of_length_le (by have := HPS.out.1; omega)] at this
                have HJ4 := HW4.out
                rw [hSp] at HJ4
                obtain ⟨xb, xo, t, hxa, hxc, hxt, hxw⟩ := HQ.out.1.at_ hlt
                simp only at hxa
                subst hxa
                have hxlt := World.block_lt_of_cell? _ _ hxc
                have hbw : Below w.heap.size w wr := by obtain ⟨f, st, _, _, _, _, h5⟩ := HJ4; exact h5
                have t1 : wr.cell? ⟨xb, xo + i, none⟩ = some (.int .i64 t) := cell_keep hxc hbw
                have hbd4 := HJ4.bd
                obtain ⟨k4, hk4, hk44⟩ := bring16 t 4 (by omega) (by omega)
                have HK4 := Lib.hid hk4
                clear hk4
                have bb := HWB.out
                have HWA : Hid (wrap64 ((ak : Int) + (k4 : Int)) = (ak : Int) + (k4 : Int)) := Lib.hid (by unfold wrap64; omega)
                obtain ⟨A, hA⟩ : ∃ A, min S (ak + k4) = A := ⟨_, rfl⟩
                have HA : Hid (A ≤ S ∧ A ≤ k ∧ (A : Int) = if (ak : Int) + (k4 : Int) < (S : Int) then (ak : Int) + (k4 : Int) else (S : Int)) := Lib.hid (by clear HWA HK4; rw [← hA]; refine ⟨by omega, by omega, ?_⟩; split <;> omega)
                have R1 := HJ4.hear (by omega) A HA.out.1
                clear hxc hxlt hxw hbd4 hk44 bb hA HJ4 hbw hSp
                have hk4 := HK4.out
                have hwa := HWA.out
                go_upto_region 28 with fail
                generalize hX : (if (ak : Int) + (k4 : Int) < (S : Int) then (ak : Int) + (k4 : Int) else (S : Int)) = X
                obtain rfl : X = (A : Int) := by rw [← hX]; exact HA.out.2.2.symm
                clear hX hk4 hwa t1
                go_wp2_with fail
                refine R1.mono ?_
                rintro e w5 ⟨ra, rn, rc, rfl, hJ5⟩
                have HJ5 := Lib.hid hJ5
                have L1 := hJ5.left
                have hbd5 := hJ5.bd
                obtain ⟨M, hM⟩ : ∃ M, max ak A = M := ⟨_, rfl⟩
                rw [hM] at L1 HJ5 hbd5
                have HM : Hid ((if ak < A then (A : Int) else (ak : Int)) = (M : Int)) := Lib.hid (by split <;> omega)
                have hkM : IntKind.i64.wrap ((k : Int) - (M : Int)) = ((k - M : Nat) : Int) := by rw [IntWalk.i64_in _ (by have := HWB.out; omega)]; omega
                clear R1 hJ5 hM hbd5
                go_upto_region 32 with fail
                generalize hX : (if ak < A then (A : Int) else (ak : Int)) = X
                obtain rfl : X = (M : Int) := by rw [← hX]; exact HM.out
                clear hX
                obtain ⟨KM, hKM⟩ : ∃ KM, k - M = KM := ⟨_, rfl⟩
                rw [hKM] at L1 hkM
                clear hKM
                go_wp2_with fail
                refine L1.mono ?_
                rintro e w6 ⟨rfl, rfl⟩
                clear L1
                go_wp2_with fail
                have hi2 : wrap64 ((i : Int) + 1) = ((i + 1 : Nat) : Int) := by have := HWB.out; unfold wrap64; omega
                rw [hi2]
                exact ⟨⟨i + 1, M, S, by omega, rfl, rfl, rfl, HJ5⟩, by simp [intOf]; omega⟩
          · obtain rfl : i = n := by omega
            by_cases hak : ak < k
            · have hak2 : (ak : Int) < (k : Int) := by omega
              have HB : Hid (Below w.heap.size w wr) := Lib.hid (by obtain ⟨f, st, _, _, _, _, h5⟩ := HJ.out; exact h5)
              clear hbd
              go_wp2_with fail
              go_ret
              exact ⟨rfl, HB.out⟩
            · obtain rfl : ak = k := by omega
              have T1 := HJ.out.tick (by have := HWB.out; omega)
              clear hbd hak
              go_wp2_with fail
              refine T1.mono ?_
              rintro e w4 ⟨ps, pa, pc, rfl, hc1, hc2, hpW, hpk, hW4, hseg⟩
              have hL : ps.length = 0 := by omega
              rw [hL]
              have HB : Hid (Below w.heap.size w w4) := Lib.hid (by obtain ⟨f, st, _, _, _, _, h5⟩ := hW4; exact h5)
              clear T1 hc1 hc2 hpW hpk hW4 hseg hL
              go_wp2_with fail
              go_ret
              exact ⟨rfl, HB.out⟩

set_option maxRecDepth 100000 in
theorem lifted (os : Os) (started : os.Started) (H : Type) (enc : TypeId × Value → H) :
    ReturnsInHanded {} Try.checked os 6 .any (Rows.linkWindowSpec.pre6 enc Try.prog Try.f6 Rows.linkWindowRow.domain false) (Rows.linkWindowSpec.post enc Try.prog Try.f6 false true false false) := by
  refine returnsInHanded_of_change (C := Try.checked) own started (by kernel_rfl) Try.func6
    (ChangeSpec.witness6 (enc := enc) (C := Try.checked) false ⟨#[], #[.agg #[.int .i64 0, .int .i64 0, .int .i64 0], .int .i64 0, .slice none 0 0], []⟩ 8 (by kernel_rfl) (by kernel_rfl) (by kernel_rfl) (by kernel_rfl)) ?_
  intro W base args ds gs before hval0 hW hcnd _
  have hval : ∀ (j : Nat) t v, Try.f6.params[j]? = some t → args[j]? = some v → Value.okWide Try.prog W .any base t v := hval0
  have hW' := hW
  obtain ⟨p, q, hA0, hV, rfl, hfz, hnd⟩ := hW
  have hA : DataW.TrodAll enc Try.prog W 0 (fun _ => true) true Try.f6.params.toList args.toList ds p := hA0
  rw [Try.params6] at hA hval
  obtain ⟨v0, vs0, d0, ds0, p0, q0, hargs, rfl, rfl, h0, r0⟩ := trodAll_cons hA
  obtain ⟨v1, vs1, d1, ds1, p1, q1, rfl, rfl, rfl, h1, r1⟩ := trodAll_cons r0
  obtain ⟨v2, vs2, d2, ds2, p2, q2, rfl, rfl, rfl, h2, r2⟩ := trodAll_cons r1
  obtain ⟨rfl, rfl, rfl⟩ := trodAll_nil r2
  obtain rfl : args = #[v0, v1, v2] := by cases args; simp_all
  obtain ⟨rfl, rfl⟩ := trodVars_none hV
  have k0 := h0
  have lt0 : ∀ x ∈ p0, x.block < W.heap.size := by obtain ⟨m, hm⟩ := k0; exact DataW.trod_lt m _ _ _ hm
  obtain ⟨x0, rfl, w0⟩ := open_Sides16 (hval 0 23 v0 rfl rfl) h0
  obtain ⟨a1, rfl, rfl, rfl, w1⟩ := open_int Try.underlying3 (hval 1 3 v1 rfl rfl) h1
  have k2 := h2
  have lt2 : ∀ x ∈ p2, x.block < W.heap.size := by obtain ⟨m, hm⟩ := k2; exact DataW.trod_lt m _ _ _ hm
  obtain ⟨q2, rfl, w2⟩ := open_rw Try.underlying71 Try.underlying3 (by kernel_rfl) (hval 2 71 v2 rfl rfl) h2
  clear hA0 hval0
  refine (walk x0 a1 q2 W w0 w1 w2).mono fun e W' ⟨he, bel⟩ => ?_
  subst he
  exact ⟨_, rfl, _, _, _, [], _, [], hW', trodAll_mk1 (shut_bool Try.underlying4 _), (trodAll_cons_mk (Below.trod laidOut (by kernel_rfl) (of_decide_eq_true (by kernel_rfl)) k0 bel lt0) (trodAll_cons_mk (shut_int Try.underlying3 w1) (trodAll_cons_mk (Below.trod laidOut (by kernel_rfl) (of_decide_eq_true (by kernel_rfl)) k2 bel lt2) trodAll_mk0))), rfl, bel.frame _, fun h => by cases h⟩

theorem over : Rows.linkWindowRow.holds Try.pinned (OpenSpec.ofChange Rows.linkWindowSpec) :=
  OpenClaim.holds_of_wide 6 Try.f6 rfl rfl rfl rfl rfl rfl rfl ⟨rfl, rfl, rfl, rfl, rfl⟩ rfl rfl rfl rfl rfl (by kernel_rfl) Try.func6 (by kernel_rfl)
    (of_decide_eq_true (by kernel_rfl)) (by unfold Func.isWrapper; first | (rw [if_pos (by decide +kernel)]; kernel_rfl) | (rw [if_neg (by decide +kernel)]; exact ⟨rfl, rfl⟩))
    (fun os started H enc _ => lifted os started H enc)

/-- ████ THE STATEMENT ████ -/
theorem proved : Rows.LinkWindowSaid := over
#print axioms proved
end Go.Proofs.Ytkinbngikmcpeaa.linkWindow
