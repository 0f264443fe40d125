/-
  Proved: for any bytes, any six numbers and any way to turn a file, WeightFaults returns true (the code's Parse answers the error that the document's Fault names, of any bytes and of a turned, cut and lengthened file) and nothing that was in memory turns. No condition.
-/
import Derived.Test.YtlgnpicnpnibfaaRows
import Derived.WalkKit
import Derived.ProofKit
import Derived.OpenShut
import Derived.ShutString
import Derived.ChangeOld
import Derived.Below
import Derived.Test.YtlgnpicnpnibfaaShapeRow
import Derived.Test.YtlgnpicnpnibfaaAwake7
import Derived.Test.YtlgnpicnpnibfaaTiny
import Derived.Test.YtlgnpicnpnibfaaGrown
import Derived.Test.YtlgnpicnpnibfaaFile
import Derived.Test.YtlgnpicnpnibfaaDocFaultA
import Derived.Test.YtlgnpicnpnibfaaOwnCut
import Derived.Test.YtlgnpicnpnibfaaGrowMath
namespace Go.Proofs.Ytlgnpicnpnibfaa.weightFaults
open Go.ChangeShapes Go.WideShapes Go.ChangeAt Go.RowKit
open Go.ChangeMaps (open_string shut_string)
set_option linter.unusedVariables false

theorem own : ownKnob Try.prog.godebug = none := by kernel_rfl
theorem laidOut : laidOutB Try.prog = true := by kernel_rfl

set_option maxHeartbeats 6400000 in
set_option maxRecDepth 100000 in
theorem walk (q0 : Rw) (sl1 sw1 sh1 si1 sv1 sp1 : Int) (a2 c2 x2 : Int) (q2 : Rw) (w : World) (h0 : q0.In .u8 w) (h1 : Six sl1 sw1 sh1 si1 sv1 sp1) (h2 : (Lit.int .i64 a2).wf = true ∧ (Lit.int .i64 c2).wf = true ∧ (Lit.int .u8 x2).wf = true ∧ q2.In .u8 w) :
    Calls Try.prog 7 #[.slice q0.a q0.n q0.cap, .agg #[.int .i64 sl1, .int .i64 sw1, .int .i64 sh1, .int .i64 si1, .int .i64 sv1, .int .i64 sp1], .agg #[.int .i64 a2, .int .i64 c2, .int .u8 x2, .slice q2.a q2.n q2.cap]] w fun e w' => e = .returned (.bool true) ∧ Below w.heap.size w w' := by
  obtain ⟨hE0, hc0, hm0, hs0⟩ := h0
  obtain ⟨_, _, wx2, hE2, hc2, hm2, hs2⟩ := h2
  have HE0 := Lib.hid hE0
  have HE2 := Lib.hid hE2
  have HS0 := Lib.hid hs0.1
  have HS2 := Lib.hid hs2.1
  have bx2 := wfu8 wx2
  have n0 := hE0.2.1
  have n2 := hE2.2.1
  clear h1 hE0 hE2 hs0 hs2 wx2
  by_cases h3000 : 3000 < q0.n
  · clear HE0 HE2 HS0 HS2
    go_enter Try.func7, Try.ntmps7
    go_wp2_with fail
    refine (awake7 _).mono ?_
    rintro e w1 ⟨rfl, hb1⟩
    have HX1 : Hid (Box w1 w.heap.size 37 #[.int .i64 sl1, .int .i64 sw1, .int .i64 sh1, .int .i64 si1, .int .i64 sv1, .int .i64 sp1]) := Lib.hid (((box_new w _ _).alloc _).bel hb1)
    have HT1 : Hid (Box w1 (w.heap.size + 1) 62 #[.int .i64 a2, .int .i64 c2, .int .u8 x2, .slice q2.a q2.n q2.cap]) := Lib.hid ((box_at (by simp) _ _).bel hb1)
    have HB1 := Lib.hid (below_two (((Below.refl w.heap.size w).alloc (Nat.le_refl _) _).alloc (by simp) _) hb1)
    have t3 : w1.cell? ⟨w.heap.size + 1, 3, none⟩ = some (.slice q2.a q2.n q2.cap) := HT1.out.cell 3
    clear hb1
    go_wp2_with fail
    refine (awake7 _).mono ?_
    rintro e w2 ⟨rfl, hb2⟩
    have B := Lib.hid (below_two HB1.out hb2)
    clear hb2 t3
    go_wp2_with fail
    go_ret
    exact ⟨rfl, B.out⟩
  by_cases h100 : 100 < q2.n
  · clear HE0 HE2 HS0 HS2
    go_enter Try.func7, Try.ntmps7
    go_wp2_with fail
    refine (awake7 _).mono ?_
    rintro e w1 ⟨rfl, hb1⟩
    have HX1 : Hid (Box w1 w.heap.size 37 #[.int .i64 sl1, .int .i64 sw1, .int .i64 sh1, .int .i64 si1, .int .i64 sv1, .int .i64 sp1]) := Lib.hid (((box_new w _ _).alloc _).bel hb1)
    have HT1 : Hid (Box w1 (w.heap.size + 1) 62 #[.int .i64 a2, .int .i64 c2, .int .u8 x2, .slice q2.a q2.n q2.cap]) := Lib.hid ((box_at (by simp) _ _).bel hb1)
    have HB1 := Lib.hid (below_two (((Below.refl w.heap.size w).alloc (Nat.le_refl _) _).alloc (by simp) _) hb1)
    have t3 : w1.cell? ⟨w.heap.size + 1, 3, none⟩ = some (.slice q2.a q2.n q2.cap) := HT1.out.cell 3
    clear hb1
    go_wp2_with fail
    refine (awake7 _).mono ?_
    rintro e w2 ⟨rfl, hb2⟩
    have B := Lib.hid (below_two HB1.out hb2)
    clear hb2 t3
    go_wp2_with fail
    go_ret
    exact ⟨rfl, B.out⟩
  by_cases hf : faultN q0.v = 0
  · skip
    have HR0 : Hid (0 < q0.n ∨ q0.n = 0) := Lib.hid (by omega)
    go_enter Try.func7, Try.ntmps7
    go_wp2_with fail
    refine (awake7 _).mono ?_
    rintro e w1 ⟨rfl, hb1⟩
    have HX1 : Hid (Box w1 w.heap.size 37 #[.int .i64 sl1, .int .i64 sw1, .int .i64 sh1, .int .i64 si1, .int .i64 sv1, .int .i64 sp1]) := Lib.hid (((box_new w _ _).alloc _).bel hb1)
    have HT1 : Hid (Box w1 (w.heap.size + 1) 62 #[.int .i64 a2, .int .i64 c2, .int .u8 x2, .slice q2.a q2.n q2.cap]) := Lib.hid ((box_at (by simp) _ _).bel hb1)
    have HB1 := Lib.hid (below_two (((Below.refl w.heap.size w).alloc (Nat.le_refl _) _).alloc (by simp) _) hb1)
    have t3 : w1.cell? ⟨w.heap.size + 1, 3, none⟩ = some (.slice q2.a q2.n q2.cap) := HT1.out.cell 3
    clear hb1
    have hown : (w1.alloc (.cells #[] 5)).ownsRow w1.heap.size 5 1 (.slice (some ⟨w1.heap.size, 0, none⟩) 0 0) 0 (([] : List Int).map (.int .u8)) := World.ownsRow_lit (e := 5) (size := 1) w1 #[] 0 (Nat.le_refl _) (by unfold maxLen; omega) rfl
    obtain ⟨v2, w2, hrun, ho2, hg2, _⟩ := run_append_elems (P := Try.prog) .u8 (w1.alloc (.cells #[] 5)) w1.heap.size 24 5 1 (by omega) Try.underlying24 info_u8 _ 0 [] hown q0.a q0.n q0.cap q0.v (HE0.out.below (HB1.out.alloc HB1.out.size _)) HS0.out (by omega) (by omega) (by simp)
    have hb2 : Below w1.heap.size w1 w2 := ((Below.refl _ _).alloc (Nat.le_refl _) _).grown hg2 (by simp) (fun k hk => (hown.lt k hk).1)
    rw [Nat.zero_add, List.nil_append] at ho2
    obtain ⟨pa, pcap, rfl, hEp, hpc, hpc2, _, hpa⟩ := own_lies ho2 HE0.out.2.2.1 (by omega)
    have HX2 := Lib.hid (HX1.out.bel hb2)
    have HT2 := Lib.hid (HT1.out.bel hb2)
    have HB2 := Lib.hid (below_two HB1.out hb2)
    have HF0 := fun V (hB : Below w.heap.size w V) => dfault_any q0.a q0.n q0.cap q0.v V (HE0.out.below hB) hc0 hm0
    have hl0 := HE0.out.1
    obtain ⟨pb, rfl⟩ := hpa (by have := (fault_zero hf).2.2.1; omega)
    have HP := parse_yes pb q0.n pcap q0.v w2 hEp hpc hpc2 hf
    clear hl0
    have HFH := Lib.hid hf
    clear hown ho2 hg2 hb2 hEp hpa hf HX1 HT1
    go_wp2_with (at_builtin; refine wpList_append_at (by rfl) _ _ _ (by rfl) _ _ (by rfl) (by rfl) hrun ?_)
    refine HP.mono ?_
    rintro e w3 ⟨⟨G, gb, rfl, _⟩, hb⟩
    generalize hcs : (mkW (sOf q0.v) G gb (fillV (sOf q0.v) (fileF q0.v) (cnt (sOf q0.v)))).cells = cs
    have hsz : cs.size = 14 := by rw [← hcs]; rfl
    have hone : cs.all (·.oneCell') = true := by rw [← hcs]; exact wt_one7 _
    have HSZ := Lib.hid hsz
    have HONE := Lib.hid hone
    have HX3 := Lib.hid (HX2.out.bel hb)
    have HT3 := Lib.hid (HT2.out.bel hb)
    have HB3 := Lib.hid (below_two HB2.out hb)
    clear hb HP hrun hcs hsz hone HX2 HT2 t3
    go_upto_region 4 with (refine wpList_store_row rfl 45 _ _ rfl w3.heap.size cs rfl rfl 45 _ (box_new _ _ _) (by rw [HSZ.out]; kernel_rfl) HSZ.out.symm HONE.out ?_)
    generalize hw3 : World.setRow _ w3.heap.size cs = w3b
    have hb3 : Below w3.heap.size w3 w3b := by rw [← hw3]; exact below_setRow ((Below.refl _ _).alloc (Nat.le_refl _) _) (Nat.le_refl _) (by simp)
    have HXW : Hid (Box w3b w3.heap.size 45 cs) := Lib.hid (by rw [← hw3]; exact (box_new _ _ _).setRow)
    have HX3b := Lib.hid (HX3.out.bel hb3)
    have HT3b := Lib.hid (HT3.out.bel hb3)
    have HB3b := Lib.hid (below_two HB3.out hb3)
    clear hw3 hb3 HX3 HT3
    go_wp2_with fail
    refine (HF0 _ HB3b.out).mono ?_
    rintro e w4 ⟨⟨a0, a1, a2', a3, a4, a5, he⟩, hb⟩
    rw [HFH.out] at he
    rw [show ((0 : Nat) : Int) = 0 from rfl] at he
    subst he
    have HX4 := Lib.hid (HX3b.out.bel hb)
    have HT4 := Lib.hid (HT3b.out.bel hb)
    have HB4 := Lib.hid (below_two HB3b.out hb)
    have HXWb := Lib.hid (HXW.out.bel hb)
    clear hb HF0 HX3b HT3b HXW
    go_upto_region 5 with fail
    generalize hw4 : World.alloc _ _ = w4b
    have hb4 : Below w4.heap.size w4 w4b := by rw [← hw4]; exact (Below.refl _ _).alloc (Nat.le_refl _) _
    have HX4b := Lib.hid (HX4.out.bel hb4)
    have HT4b := Lib.hid (HT4.out.bel hb4)
    have HB4b := Lib.hid (below_two HB4.out hb4)
    clear hw4 hb4 HX4 HT4 HXWb
    obtain ⟨z0, z1, z2, z3, z4, z5⟩ := HX4b.out.cells6
    go_wp2_with fail
    refine (tiny_any sl1 sw1 sh1 si1 sv1 sp1 _).mono ?_
    rintro e w5 ⟨⟨s, hs, rfl⟩, hb⟩
    have HX5 := Lib.hid (HX4b.out.bel hb)
    have HT5 := Lib.hid (HT4b.out.bel hb)
    have HB5 := Lib.hid (below_two HB4b.out hb)
    have ok := hs.1
    have hcn := cnt_le ok
    have HG : ∀ V, Calls Try.prog 23 #[s.val, .int .u64 7] V fun e w' => (∃ v, e = .returned v ∧ w'.ownsRow V.heap.size 55 1 v (cnt s) ((grownL s 7).map (.int .i8))) ∧ Below V.heap.size V w' := fun V => doc_grown s ok 7 (by omega) V
    have HF := fun a cap l V (hl : Elems .i8 V a (cnt s) l) => doc_file s ok a (cnt s) cap l V hl (by omega)
    have HOK := Lib.hid ok
    have HGL := Lib.hid (grownL_wf s 7 (by omega))
    unfold Sz.val at HG HF
    clear hb z0 z1 z2 z3 z4 z5 HX4b HT4b hs ok
    go_upto_region 8 with fail
    generalize hw6 : World.alloc _ _ = w6
    have hb6 : Below w5.heap.size w5 w6 := by rw [← hw6]; exact (Below.refl _ _).alloc (Nat.le_refl _) _
    have X6 : Box w6 w5.heap.size 30 #[.int .i64 s.l, .int .i64 s.w, .int .i64 s.h, .int .i64 s.i, .int .i64 s.v, .int .i64 s.p] := by rw [← hw6]; exact box_new _ _ _
    have HT6 := Lib.hid (HT5.out.bel hb6)
    have HB6 := Lib.hid (below_two HB5.out hb6)
    have HX6 := Lib.hid X6
    obtain ⟨k0, k1, k2, k3, k4, k5⟩ := X6.cells6
    clear hw6 hb6 X6 HT5 HB5
    go_cut [12] from 56 (fun v wx => Hid (∃ g cap, v = .slice (some ⟨g, 0, none⟩) (24 + cnt s : Nat) cap ∧ wx.ownsRow w6.heap.size 5 1 (.slice (some ⟨g, 0, none⟩) (24 + cnt s : Nat) cap) (24 + cnt s) ((fileL s (grownL s 7)).map (.int .u8))) ∧ Hid (Below w6.heap.size w6 wx))
    case first =>
      go_region_held3 (fun W => W.cell? ⟨w5.heap.size, 0, none⟩ = some (.int .i64 s.l) ∧ W.cell? ⟨w5.heap.size, 1, none⟩ = some (.int .i64 s.w) ∧ W.cell? ⟨w5.heap.size, 2, none⟩ = some (.int .i64 s.h) ∧ W.cell? ⟨w5.heap.size, 3, none⟩ = some (.int .i64 s.i) ∧ W.cell? ⟨w5.heap.size, 4, none⟩ = some (.int .i64 s.v) ∧ W.cell? ⟨w5.heap.size, 5, none⟩ = some (.int .i64 s.p)) (first | go_keep | (go_split_ands; refine ⟨?_, ?_, ?_, ?_, ?_, ?_⟩ <;> assumption))
        (first
        | (go_at_call 23; (with_reducible refine (HG _).mono ?_); rintro e w7 ⟨⟨v7, rfl, ho7⟩, hb7⟩
           obtain ⟨ga, gcap, rfl, hE7, _⟩ := own_reads ho7 HGL.out (by omega)
           have HF7 := HF ga gcap _ w7 hE7
           have HB7 : Hid (Below w6.heap.size w6 w7) := Lib.hid (below_two ((Below.refl _ _).drew) hb7)
           have X7 := HX6.out.drew.bel hb7
           obtain ⟨d0, d1, d2, d3, d4, d5⟩ := X7.cells6
           clear ho7 hE7 hb7 X7)
        | (go_at_call 24; (with_reducible refine HF7.mono ?_); rintro e w8 ⟨⟨v8, rfl, ho8⟩, hb8⟩
           obtain ⟨fa, fcap, rfl, hE8, _, _, _, hfa⟩ := own_lies ho8 (fileL_wf s HOK.out _) (by omega)
           obtain ⟨fg, rfl⟩ := hfa (by omega)
           have HO8 := Lib.hid (Go.Joins.ownsRow_le ho8 HB7.out.size)
           have HB8 := Lib.hid (below_two HB7.out hb8)
           have X8 := (HX6.out.bel HB7.out).bel hb8
           obtain ⟨f0, f1, f2, f3, f4, f5⟩ := X8.cells6
           clear ho8 hb8 X8 hE8 hfa))
      go_wp2_with fail
      go_meet
      case rel => exact ⟨Lib.hid ⟨fg, fcap, rfl, HO8.out⟩, HB8⟩
    case rest =>
      obtain ⟨hv, hbx⟩ := hcut
      obtain ⟨fg, fcap, rfl, hox⟩ := hv.out
      have hlt6 := HT6.out.lt
      have HTx := Lib.hid (HT6.out.bel hbx.out)
      have HBx := Lib.hid (below_two HB6.out hbx.out)
      have HW := Lib.hid (fileL_wf s HOK.out (grownL s 7))
      obtain ⟨N, hN⟩ : ∃ N, 24 + cnt s = N := ⟨_, rfl⟩
      rw [hN] at hox
      rw [hN]
      have HO := Lib.hid hox
      have hl := hox.1
      rw [List.length_map, Nat.mul_one] at hl
      generalize fileL s (grownL s 7) = xs at *
      have hN1 : 24 ≤ N := by omega
      have hN2 : N ≤ 2232472 := by omega
      have hbase := hbx.out.size
      have HBS := Lib.hid hbase
      have HLN := Lib.hid hl
      clear hN hcn hv hbx HX6 HT6 HB6 k0 k1 k2 k3 k4 k5 HG HF HGL HOK hox hl hbase
      have q1 := Int.emod_nonneg a2 (show (N : Int) ≠ 0 by omega)
      have q2' := Int.emod_lt_of_pos a2 (show (0 : Int) < (N : Int) by omega)
      have q3 := Int.emod_nonneg c2 (show (N : Int) + 1 ≠ 0 by omega)
      have q4 := Int.emod_lt_of_pos c2 (show (0 : Int) < (N : Int) + 1 by omega)
      obtain ⟨AT, hAT⟩ : ∃ A : Nat, a2 % (N : Int) = A := ⟨(a2 % (N : Int)).toNat, by omega⟩
      have hAT2 : AT < N := by omega
      have E1 := rest_math a2 N (by omega)
      rw [hAT] at E1
      have hb1 := rest_by a2 N (by omega)
      obtain ⟨r1, hr1⟩ : ∃ r, a2.tmod (N : Int) = r := ⟨_, rfl⟩
      rw [hr1] at E1 hb1
      have E2 : (r1 + (N : Int)) % (N : Int) = (AT : Int) := by rw [← E1, Int.tmod_eq_emod_of_nonneg (by omega)]
      obtain ⟨CU, hCU⟩ : ∃ C : Nat, c2 % ((N : Int) + 1) = C := ⟨(c2 % ((N : Int) + 1)).toNat, by omega⟩
      have hCU2 : CU ≤ N := by omega
      have E3 := rest_math c2 ((N : Int) + 1) (by omega)
      rw [hCU] at E3
      have hb2 := rest_by c2 ((N : Int) + 1) (by omega)
      obtain ⟨r2, hr2⟩ : ∃ r, c2.tmod ((N : Int) + 1) = r := ⟨_, rfl⟩
      rw [hr2, ← Int.add_assoc] at E3
      rw [hr2] at hb2
      have E4 : (r2 + (N : Int) + 1) % ((N : Int) + 1) = (CU : Int) := by rw [← E3, Int.tmod_eq_emod_of_nonneg (by omega)]
      have HC1 := Lib.hid hCU
      have HA1 := Lib.hid hAT
      obtain ⟨x, hx⟩ : ∃ x, xs.getD AT 0 = x := ⟨_, rfl⟩
      have wfx := HW.out _ (getD_mem (show AT < xs.length by have := HLN.out; omega))
      rw [hx] at wfx
      have bx := wfu8 wfx
      obtain ⟨X, rfl⟩ : ∃ X : Nat, x = X := ⟨x.toNat, by omega⟩
      obtain ⟨X2, rfl⟩ : ∃ X : Nat, x2 = X := ⟨x2.toNat, by omega⟩
      have ex := u8_xor_nat X X2 (by omega) (by omega)
      have hlt : X ^^^ X2 < 2 ^ 8 := Nat.xor_lt_two_pow (by omega) (by omega)
      obtain ⟨Y, hY⟩ : ∃ Y, X ^^^ X2 = Y := ⟨_, rfl⟩
      rw [hY] at ex hlt
      have hY2 : Y ≤ 255 := by omega
      have cx : wc.cell? ⟨fg, AT, none⟩ = some (.int .u8 (X : Nat)) := by rw [HO.out.cellAt AT (by omega), List.getElem?_map, ← hx, List.getD_eq_getElem?_getD, List.getElem?_eq_getElem (show AT < xs.length by have := HLN.out; omega)]; rfl
      have fz : wc.frozen? ⟨fg, AT, none⟩ = false := HO.out.frozenAt AT
      have s0 : wc.cell? ⟨w.heap.size + 1, 0, none⟩ = some (.int .i64 a2) := HTx.out.cell 0
      have s2 : wc.cell? ⟨w.heap.size + 1, 2, none⟩ = some (.int .u8 (X2 : Nat)) := HTx.out.cell 2
      have hfg : w6.heap.size ≤ fg := (HO.out.lt fg rfl).1
      have hne : w.heap.size + 1 ≠ fg := by omega
      obtain ⟨hfc, hfc2⟩ : N ≤ fcap ∧ fcap ≤ 9223372036854775807 := by obtain ⟨_, _, e1, _, h1, h2, _⟩ := own_lies HO.out HW.out (by omega); cases e1; exact ⟨h1, h2⟩
      have hAT3 : (AT : Int) < (N : Int) := by omega
      clear hAT hCU q1 q2' q3 q4 hx hlt hY bx
      go_upto_region 10 with fail
      clear E1 E2 hb1 hr1 s0
      go_region
      generalize hw9 : World.drew _ = w9
      have HO9 : Hid (w9.ownsRow w6.heap.size 5 1 (.slice (some ⟨fg, 0, none⟩) N fcap) N ((xs.set AT (Y : Nat)).map (.int .u8))) := Lib.hid (by rw [← hw9]; exact (own_store HO.out AT Y).drew)
      have HW9 := Lib.hid (set_wf HW.out AT (byte_wf (Y : Nat) (by omega) (by omega)))
      have HT9 : Hid (Box w9 (w.heap.size + 1) 62 #[.int .i64 a2, .int .i64 c2, .int .u8 (X2 : Nat), .slice q2.a q2.n q2.cap]) := Lib.hid (by rw [← hw9]; exact (HTx.out.other _ hne).drew)
      have HB9 : Hid (Below w.heap.size w w9) := Lib.hid (by rw [← hw9]; exact (HBx.out.setCell (p := ⟨fg, AT, none⟩) (by show w.heap.size ≤ fg; omega) _).drew)
      have s1 : w9.cell? ⟨w.heap.size + 1, 1, none⟩ = some (.int .i64 c2) := HT9.out.cell 1
      clear hw9 HO HW HTx HBx cx fz s2 ex
      generalize xs.set AT (Y : Nat) = xs9 at *
      go_upto_region 12 with fail
      clear E3 E4 hb2 hr2 s1
      have s3 : w9.cell? ⟨w.heap.size + 1, 3, none⟩ = some (.slice q2.a q2.n q2.cap) := HT9.out.cell 3
      have hoc := own_cut HO9.out hCU2
      rw [← List.map_take] at hoc
      have hz9 : w6.heap.size ≤ w9.heap.size := by have := (HO9.out.lt fg rfl).2; omega
      have HWC : Hid (∀ x ∈ xs9.take CU ++ q2.v, (Lit.int .u8 x).wf = true) := Lib.hid (fun x hx => (List.mem_append.1 hx).elim (fun h => HW9.out x (List.mem_of_mem_take h)) (fun h => HE2.out.2.2.1 x h))
      obtain ⟨v10, w10, hrun, ho10, hg10, _⟩ := run_append_elems (P := Try.prog) .u8 w9.drew w6.heap.size 24 5 1 (by omega) Try.underlying24 info_u8 _ CU (xs9.take CU) hoc.drew q2.a q2.n q2.cap q2.v (HE2.out.below (HB9.out.drew)) HS2.out (by omega) (by omega) hz9
      have HB10 : Hid (Below w.heap.size w w10) := Lib.hid (HB9.out.drew.grown hg10 HB9.out.size (fun k hk => by have := (hoc.lt k hk).1; omega))
      generalize xs9.take CU ++ q2.v = ys at *
      obtain ⟨pb, pbcap, rfl, hE10, hp1, hp2, _, hp3⟩ := own_lies ho10 HWC.out (by omega)
      have HP2 := parse_err pb (CU + q2.n) pbcap ys w10 hE10 hp3 hp1 hp2
      have HF2 := fun V (hB : Below w10.heap.size w10 V) => dfault_any pb (CU + q2.n) pbcap ys V (hE10.below hB) hp1 hp2
      have hn10 : CU + q2.n ≤ 9223372036854775807 := by omega
      unfold GivesF at HF2
      generalize faultN ys = F2 at *
      clear hoc ho10 hg10 hE10 hp3
      have hcf : CU ≤ fcap := by omega
      go_region_law ((refine step_append_run (by rfl) _ _ _ (by rfl) _ _ (by rfl) (by rfl) hrun ?_))
      all_goals clear hrun s3
      all_goals go_wp2_with fail
      all_goals refine HP2.mono ?_
      all_goals
        rintro e w11 ⟨⟨cs2, rfl⟩, hb11⟩
        have HB11 := Lib.hid (below_two HB10.out hb11)
        have HF3 := HF2 w11 hb11
        clear hb11 HP2 HF2
        go_wp2_with fail
        refine HF3.mono ?_
        rintro e w12 ⟨⟨b0, b1, b2, b3, b4, b5, rfl⟩, hb12⟩
        have HB12 := Lib.hid (below_two HB11.out hb12)
        clear hb12 HF3
        go_wp2_with fail
        go_ret
        exact ⟨rfl, HB12.out⟩
  · skip
    have HR0 : Hid (0 < q0.n ∨ q0.n = 0) := Lib.hid (by omega)
    go_enter Try.func7, Try.ntmps7
    go_wp2_with fail
    refine (awake7 _).mono ?_
    rintro e w1 ⟨rfl, hb1⟩
    have HX1 : Hid (Box w1 w.heap.size 37 #[.int .i64 sl1, .int .i64 sw1, .int .i64 sh1, .int .i64 si1, .int .i64 sv1, .int .i64 sp1]) := Lib.hid (((box_new w _ _).alloc _).bel hb1)
    have HT1 : Hid (Box w1 (w.heap.size + 1) 62 #[.int .i64 a2, .int .i64 c2, .int .u8 x2, .slice q2.a q2.n q2.cap]) := Lib.hid ((box_at (by simp) _ _).bel hb1)
    have HB1 := Lib.hid (below_two (((Below.refl w.heap.size w).alloc (Nat.le_refl _) _).alloc (by simp) _) hb1)
    have t3 : w1.cell? ⟨w.heap.size + 1, 3, none⟩ = some (.slice q2.a q2.n q2.cap) := HT1.out.cell 3
    clear hb1
    have hown : (w1.alloc (.cells #[] 5)).ownsRow w1.heap.size 5 1 (.slice (some ⟨w1.heap.size, 0, none⟩) 0 0) 0 (([] : List Int).map (.int .u8)) := World.ownsRow_lit (e := 5) (size := 1) w1 #[] 0 (Nat.le_refl _) (by unfold maxLen; omega) rfl
    obtain ⟨v2, w2, hrun, ho2, hg2, _⟩ := run_append_elems (P := Try.prog) .u8 (w1.alloc (.cells #[] 5)) w1.heap.size 24 5 1 (by omega) Try.underlying24 info_u8 _ 0 [] hown q0.a q0.n q0.cap q0.v (HE0.out.below (HB1.out.alloc HB1.out.size _)) HS0.out (by omega) (by omega) (by simp)
    have hb2 : Below w1.heap.size w1 w2 := ((Below.refl _ _).alloc (Nat.le_refl _) _).grown hg2 (by simp) (fun k hk => (hown.lt k hk).1)
    rw [Nat.zero_add, List.nil_append] at ho2
    obtain ⟨pa, pcap, rfl, hEp, hpc, hpc2, _, hpa⟩ := own_lies ho2 HE0.out.2.2.1 (by omega)
    have HX2 := Lib.hid (HX1.out.bel hb2)
    have HT2 := Lib.hid (HT1.out.bel hb2)
    have HB2 := Lib.hid (below_two HB1.out hb2)
    have HF0 := fun V (hB : Below w.heap.size w V) => dfault_any q0.a q0.n q0.cap q0.v V (HE0.out.below hB) hc0 hm0
    have HP := parse_no pa q0.n pcap q0.v w2 hEp (fun _ => hpa (by omega)) hpc hpc2 hf
    unfold GivesF at HF0
    generalize faultN q0.v = F at *
    have e1 : ((F : Int) != 0) = true := by simp; omega
    have HFH := Lib.hid hf
    clear hown ho2 hg2 hb2 hEp hpa hf HX1 HT1
    go_wp2_with (at_builtin; refine wpList_append_at (by rfl) _ _ _ (by rfl) _ _ (by rfl) (by rfl) hrun ?_)
    refine HP.mono ?_
    rintro e w3 ⟨rfl, hb⟩
    generalize hcs : zwts = cs
    have hsz : cs.size = 14 := by rw [← hcs]; rfl
    have hone : cs.all (·.oneCell') = true := by rw [← hcs]; simp [zwts, Value.oneCell']
    have H9 : Hid (cs[9]? = some (.slice none 0 0)) := Lib.hid (by rw [← hcs]; rfl)
    have HSZ := Lib.hid hsz
    have HONE := Lib.hid hone
    have HX3 := Lib.hid (HX2.out.bel hb)
    have HT3 := Lib.hid (HT2.out.bel hb)
    have HB3 := Lib.hid (below_two HB2.out hb)
    clear hb HP hrun hcs hsz hone HX2 HT2 t3
    go_upto_region 4 with (refine wpList_store_row rfl 45 _ _ rfl w3.heap.size cs rfl rfl 45 _ (box_new _ _ _) (by rw [HSZ.out]; kernel_rfl) HSZ.out.symm HONE.out ?_)
    generalize hw3 : World.setRow _ w3.heap.size cs = w3b
    have hb3 : Below w3.heap.size w3 w3b := by rw [← hw3]; exact below_setRow ((Below.refl _ _).alloc (Nat.le_refl _) _) (Nat.le_refl _) (by simp)
    have HXW : Hid (Box w3b w3.heap.size 45 cs) := Lib.hid (by rw [← hw3]; exact (box_new _ _ _).setRow)
    have HX3b := Lib.hid (HX3.out.bel hb3)
    have HT3b := Lib.hid (HT3.out.bel hb3)
    have HB3b := Lib.hid (below_two HB3.out hb3)
    clear hw3 hb3 HX3 HT3
    go_wp2_with fail
    refine (HF0 _ HB3b.out).mono ?_
    rintro e w4 ⟨⟨a0, a1, a2', a3, a4, a5, he⟩, hb⟩
    subst he
    have HX4 := Lib.hid (HX3b.out.bel hb)
    have HT4 := Lib.hid (HT3b.out.bel hb)
    have HB4 := Lib.hid (below_two HB3b.out hb)
    have HXWb := Lib.hid (HXW.out.bel hb)
    clear hb HF0 HX3b HT3b HXW
    go_upto_region 5 with fail
    generalize hw4 : World.alloc _ _ = w4b
    have hb4 : Below w4.heap.size w4 w4b := by rw [← hw4]; exact (Below.refl _ _).alloc (Nat.le_refl _) _
    have HX4b := Lib.hid (HX4.out.bel hb4)
    have HT4b := Lib.hid (HT4.out.bel hb4)
    have HB4b := Lib.hid (below_two HB4.out hb4)
    have y9 : w4b.cell? ⟨w3.heap.size, 9, none⟩ = some (.slice none 0 0) := ((HXWb.out.bel hb4).cell 9).trans H9.out
    clear hw4 hb4 HX4 HT4 HXWb
    obtain ⟨z0, z1, z2, z3, z4, z5⟩ := HX4b.out.cells6
    go_wp2_with fail
    refine (tiny_any sl1 sw1 sh1 si1 sv1 sp1 _).mono ?_
    rintro e w5 ⟨⟨s, hs, rfl⟩, hb⟩
    have HX5 := Lib.hid (HX4b.out.bel hb)
    have HT5 := Lib.hid (HT4b.out.bel hb)
    have HB5 := Lib.hid (below_two HB4b.out hb)
    have ok := hs.1
    have hcn := cnt_le ok
    have HG : ∀ V, Calls Try.prog 23 #[s.val, .int .u64 7] V fun e w' => (∃ v, e = .returned v ∧ w'.ownsRow V.heap.size 55 1 v (cnt s) ((grownL s 7).map (.int .i8))) ∧ Below V.heap.size V w' := fun V => doc_grown s ok 7 (by omega) V
    have HF := fun a cap l V (hl : Elems .i8 V a (cnt s) l) => doc_file s ok a (cnt s) cap l V hl (by omega)
    have HOK := Lib.hid ok
    have HGL := Lib.hid (grownL_wf s 7 (by omega))
    unfold Sz.val at HG HF
    clear hb z0 z1 z2 z3 z4 z5 HX4b HT4b hs ok
    go_upto_region 8 with fail
    generalize hw6 : World.alloc _ _ = w6
    have hb6 : Below w5.heap.size w5 w6 := by rw [← hw6]; exact (Below.refl _ _).alloc (Nat.le_refl _) _
    have X6 : Box w6 w5.heap.size 30 #[.int .i64 s.l, .int .i64 s.w, .int .i64 s.h, .int .i64 s.i, .int .i64 s.v, .int .i64 s.p] := by rw [← hw6]; exact box_new _ _ _
    have HT6 := Lib.hid (HT5.out.bel hb6)
    have HB6 := Lib.hid (below_two HB5.out hb6)
    have HX6 := Lib.hid X6
    obtain ⟨k0, k1, k2, k3, k4, k5⟩ := X6.cells6
    clear hw6 hb6 X6 HT5 HB5
    go_cut [12] from 56 (fun v wx => Hid (∃ g cap, v = .slice (some ⟨g, 0, none⟩) (24 + cnt s : Nat) cap ∧ wx.ownsRow w6.heap.size 5 1 (.slice (some ⟨g, 0, none⟩) (24 + cnt s : Nat) cap) (24 + cnt s) ((fileL s (grownL s 7)).map (.int .u8))) ∧ Hid (Below w6.heap.size w6 wx))
    case first =>
      go_region_held3 (fun W => W.cell? ⟨w5.heap.size, 0, none⟩ = some (.int .i64 s.l) ∧ W.cell? ⟨w5.heap.size, 1, none⟩ = some (.int .i64 s.w) ∧ W.cell? ⟨w5.heap.size, 2, none⟩ = some (.int .i64 s.h) ∧ W.cell? ⟨w5.heap.size, 3, none⟩ = some (.int .i64 s.i) ∧ W.cell? ⟨w5.heap.size, 4, none⟩ = some (.int .i64 s.v) ∧ W.cell? ⟨w5.heap.size, 5, none⟩ = some (.int .i64 s.p)) (first | go_keep | (go_split_ands; refine ⟨?_, ?_, ?_, ?_, ?_, ?_⟩ <;> assumption))
        (first
        | (go_at_call 23; (with_reducible refine (HG _).mono ?_); rintro e w7 ⟨⟨v7, rfl, ho7⟩, hb7⟩
           obtain ⟨ga, gcap, rfl, hE7, _⟩ := own_reads ho7 HGL.out (by omega)
           have HF7 := HF ga gcap _ w7 hE7
           have HB7 : Hid (Below w6.heap.size w6 w7) := Lib.hid (below_two ((Below.refl _ _).drew) hb7)
           have X7 := HX6.out.drew.bel hb7
           obtain ⟨d0, d1, d2, d3, d4, d5⟩ := X7.cells6
           clear ho7 hE7 hb7 X7)
        | (go_at_call 24; (with_reducible refine HF7.mono ?_); rintro e w8 ⟨⟨v8, rfl, ho8⟩, hb8⟩
           obtain ⟨fa, fcap, rfl, hE8, _, _, _, hfa⟩ := own_lies ho8 (fileL_wf s HOK.out _) (by omega)
           obtain ⟨fg, rfl⟩ := hfa (by omega)
           have HO8 := Lib.hid (Go.Joins.ownsRow_le ho8 HB7.out.size)
           have HB8 := Lib.hid (below_two HB7.out hb8)
           have X8 := (HX6.out.bel HB7.out).bel hb8
           obtain ⟨f0, f1, f2, f3, f4, f5⟩ := X8.cells6
           clear ho8 hb8 X8 hE8 hfa))
      go_wp2_with fail
      go_meet
      case rel => exact ⟨Lib.hid ⟨fg, fcap, rfl, HO8.out⟩, HB8⟩
    case rest =>
      obtain ⟨hv, hbx⟩ := hcut
      obtain ⟨fg, fcap, rfl, hox⟩ := hv.out
      have hlt6 := HT6.out.lt
      have HTx := Lib.hid (HT6.out.bel hbx.out)
      have HBx := Lib.hid (below_two HB6.out hbx.out)
      have HW := Lib.hid (fileL_wf s HOK.out (grownL s 7))
      obtain ⟨N, hN⟩ : ∃ N, 24 + cnt s = N := ⟨_, rfl⟩
      rw [hN] at hox
      rw [hN]
      have HO := Lib.hid hox
      have hl := hox.1
      rw [List.length_map, Nat.mul_one] at hl
      generalize fileL s (grownL s 7) = xs at *
      have hN1 : 24 ≤ N := by omega
      have hN2 : N ≤ 2232472 := by omega
      have hbase := hbx.out.size
      have HBS := Lib.hid hbase
      have HLN := Lib.hid hl
      clear hN hcn hv hbx HX6 HT6 HB6 k0 k1 k2 k3 k4 k5 HG HF HGL HOK hox hl hbase
      have q1 := Int.emod_nonneg a2 (show (N : Int) ≠ 0 by omega)
      have q2' := Int.emod_lt_of_pos a2 (show (0 : Int) < (N : Int) by omega)
      have q3 := Int.emod_nonneg c2 (show (N : Int) + 1 ≠ 0 by omega)
      have q4 := Int.emod_lt_of_pos c2 (show (0 : Int) < (N : Int) + 1 by omega)
      obtain ⟨AT, hAT⟩ : ∃ A : Nat, a2 % (N : Int) = A := ⟨(a2 % (N : Int)).toNat, by omega⟩
      have hAT2 : AT < N := by omega
      have E1 := rest_math a2 N (by omega)
      rw [hAT] at E1
      have hb1 := rest_by a2 N (by omega)
      obtain ⟨r1, hr1⟩ : ∃ r, a2.tmod (N : Int) = r := ⟨_, rfl⟩
      rw [hr1] at E1 hb1
      have E2 : (r1 + (N : Int)) % (N : Int) = (AT : Int) := by rw [← E1, Int.tmod_eq_emod_of_nonneg (by omega)]
      obtain ⟨CU, hCU⟩ : ∃ C : Nat, c2 % ((N : Int) + 1) = C := ⟨(c2 % ((N : Int) + 1)).toNat, by omega⟩
      have hCU2 : CU ≤ N := by omega
      have E3 := rest_math c2 ((N : Int) + 1) (by omega)
      rw [hCU] at E3
      have hb2 := rest_by c2 ((N : Int) + 1) (by omega)
      obtain ⟨r2, hr2⟩ : ∃ r, c2.tmod ((N : Int) + 1) = r := ⟨_, rfl⟩
      rw [hr2, ← Int.add_assoc] at E3
      rw [hr2] at hb2
      have E4 : (r2 + (N : Int) + 1) % ((N : Int) + 1) = (CU : Int) := by rw [← E3, Int.tmod_eq_emod_of_nonneg (by omega)]
      have HC1 := Lib.hid hCU
      have HA1 := Lib.hid hAT
      obtain ⟨x, hx⟩ : ∃ x, xs.getD AT 0 = x := ⟨_, rfl⟩
      have wfx := HW.out _ (getD_mem (show AT < xs.length by have := HLN.out; omega))
      rw [hx] at wfx
      have bx := wfu8 wfx
      obtain ⟨X, rfl⟩ : ∃ X : Nat, x = X := ⟨x.toNat, by omega⟩
      obtain ⟨X2, rfl⟩ : ∃ X : Nat, x2 = X := ⟨x2.toNat, by omega⟩
      have ex := u8_xor_nat X X2 (by omega) (by omega)
      have hlt : X ^^^ X2 < 2 ^ 8 := Nat.xor_lt_two_pow (by omega) (by omega)
      obtain ⟨Y, hY⟩ : ∃ Y, X ^^^ X2 = Y := ⟨_, rfl⟩
      rw [hY] at ex hlt
      have hY2 : Y ≤ 255 := by omega
      have cx : wc.cell? ⟨fg, AT, none⟩ = some (.int .u8 (X : Nat)) := by rw [HO.out.cellAt AT (by omega), List.getElem?_map, ← hx, List.getD_eq_getElem?_getD, List.getElem?_eq_getElem (show AT < xs.length by have := HLN.out; omega)]; rfl
      have fz : wc.frozen? ⟨fg, AT, none⟩ = false := HO.out.frozenAt AT
      have s0 : wc.cell? ⟨w.heap.size + 1, 0, none⟩ = some (.int .i64 a2) := HTx.out.cell 0
      have s2 : wc.cell? ⟨w.heap.size + 1, 2, none⟩ = some (.int .u8 (X2 : Nat)) := HTx.out.cell 2
      have hfg : w6.heap.size ≤ fg := (HO.out.lt fg rfl).1
      have hne : w.heap.size + 1 ≠ fg := by omega
      obtain ⟨hfc, hfc2⟩ : N ≤ fcap ∧ fcap ≤ 9223372036854775807 := by obtain ⟨_, _, e1, _, h1, h2, _⟩ := own_lies HO.out HW.out (by omega); cases e1; exact ⟨h1, h2⟩
      have hAT3 : (AT : Int) < (N : Int) := by omega
      clear hAT hCU q1 q2' q3 q4 hx hlt hY bx
      go_upto_region 10 with fail
      clear E1 E2 hb1 hr1 s0
      go_region
      generalize hw9 : World.drew _ = w9
      have HO9 : Hid (w9.ownsRow w6.heap.size 5 1 (.slice (some ⟨fg, 0, none⟩) N fcap) N ((xs.set AT (Y : Nat)).map (.int .u8))) := Lib.hid (by rw [← hw9]; exact (own_store HO.out AT Y).drew)
      have HW9 := Lib.hid (set_wf HW.out AT (byte_wf (Y : Nat) (by omega) (by omega)))
      have HT9 : Hid (Box w9 (w.heap.size + 1) 62 #[.int .i64 a2, .int .i64 c2, .int .u8 (X2 : Nat), .slice q2.a q2.n q2.cap]) := Lib.hid (by rw [← hw9]; exact (HTx.out.other _ hne).drew)
      have HB9 : Hid (Below w.heap.size w w9) := Lib.hid (by rw [← hw9]; exact (HBx.out.setCell (p := ⟨fg, AT, none⟩) (by show w.heap.size ≤ fg; omega) _).drew)
      have s1 : w9.cell? ⟨w.heap.size + 1, 1, none⟩ = some (.int .i64 c2) := HT9.out.cell 1
      clear hw9 HO HW HTx HBx cx fz s2 ex
      generalize xs.set AT (Y : Nat) = xs9 at *
      go_upto_region 12 with fail
      clear E3 E4 hb2 hr2 s1
      have s3 : w9.cell? ⟨w.heap.size + 1, 3, none⟩ = some (.slice q2.a q2.n q2.cap) := HT9.out.cell 3
      have hoc := own_cut HO9.out hCU2
      rw [← List.map_take] at hoc
      have hz9 : w6.heap.size ≤ w9.heap.size := by have := (HO9.out.lt fg rfl).2; omega
      have HWC : Hid (∀ x ∈ xs9.take CU ++ q2.v, (Lit.int .u8 x).wf = true) := Lib.hid (fun x hx => (List.mem_append.1 hx).elim (fun h => HW9.out x (List.mem_of_mem_take h)) (fun h => HE2.out.2.2.1 x h))
      obtain ⟨v10, w10, hrun, ho10, hg10, _⟩ := run_append_elems (P := Try.prog) .u8 w9.drew w6.heap.size 24 5 1 (by omega) Try.underlying24 info_u8 _ CU (xs9.take CU) hoc.drew q2.a q2.n q2.cap q2.v (HE2.out.below (HB9.out.drew)) HS2.out (by omega) (by omega) hz9
      have HB10 : Hid (Below w.heap.size w w10) := Lib.hid (HB9.out.drew.grown hg10 HB9.out.size (fun k hk => by have := (hoc.lt k hk).1; omega))
      generalize xs9.take CU ++ q2.v = ys at *
      obtain ⟨pb, pbcap, rfl, hE10, hp1, hp2, _, hp3⟩ := own_lies ho10 HWC.out (by omega)
      have HP2 := parse_err pb (CU + q2.n) pbcap ys w10 hE10 hp3 hp1 hp2
      have HF2 := fun V (hB : Below w10.heap.size w10 V) => dfault_any pb (CU + q2.n) pbcap ys V (hE10.below hB) hp1 hp2
      have hn10 : CU + q2.n ≤ 9223372036854775807 := by omega
      unfold GivesF at HF2
      generalize faultN ys = F2 at *
      clear hoc ho10 hg10 hE10 hp3
      have hcf : CU ≤ fcap := by omega
      go_region_law ((refine step_append_run (by rfl) _ _ _ (by rfl) _ _ (by rfl) (by rfl) hrun ?_))
      all_goals clear hrun s3
      all_goals go_wp2_with fail
      all_goals refine HP2.mono ?_
      all_goals
        rintro e w11 ⟨⟨cs2, rfl⟩, hb11⟩
        have HB11 := Lib.hid (below_two HB10.out hb11)
        have HF3 := HF2 w11 hb11
        clear hb11 HP2 HF2
        go_wp2_with fail
        refine HF3.mono ?_
        rintro e w12 ⟨⟨b0, b1, b2, b3, b4, b5, rfl⟩, hb12⟩
        have HB12 := Lib.hid (below_two HB11.out hb12)
        clear hb12 HF3
        go_wp2_with fail
        go_ret
        exact ⟨rfl, HB12.out⟩

set_option maxRecDepth 100000 in
theorem lifted (os : Os) (started : os.Started) (H : Type) (enc : TypeId × Value → H) :
    ReturnsInHanded {} Try.checked os 7 .any (Rows.weightFaultsSpec.pre6 enc Try.prog Try.f7 Rows.weightFaultsRow.domain false) (Rows.weightFaultsSpec.post enc Try.prog Try.f7 false true false false) := by
  refine returnsInHanded_of_change (C := Try.checked) own started (by kernel_rfl) Try.func7
    (ChangeSpec.witness6 (enc := enc) (C := Try.checked) false ⟨#[], #[.slice none 0 0, .agg #[.int .i64 0, .int .i64 0, .int .i64 0, .int .i64 0, .int .i64 0, .int .i64 0], .agg #[.int .i64 0, .int .i64 0, .int .u8 0, .slice none 0 0]], []⟩ 8 (by kernel_rfl) (by kernel_rfl) (by kernel_rfl) (by kernel_rfl)) ?_
  intro W base args ds gs before hval0 hW hcnd _
  have hval : ∀ (j : Nat) t v, Try.f7.params[j]? = some t → args[j]? = some v → Value.okWide Try.prog W .any base t v := hval0
  have hW' := hW
  obtain ⟨p, q, hA0, hV, rfl, hfz, hnd⟩ := hW
  have hA : DataW.TrodAll enc Try.prog W 0 (fun _ => true) true Try.f7.params.toList args.toList ds p := hA0
  rw [Try.params7] at hA hval
  obtain ⟨v0, vs0, d0, ds0, p0, q0, hargs, rfl, rfl, h0, r0⟩ := trodAll_cons hA
  obtain ⟨v1, vs1, d1, ds1, p1, q1, rfl, rfl, rfl, h1, r1⟩ := trodAll_cons r0
  obtain ⟨v2, vs2, d2, ds2, p2, q2, rfl, rfl, rfl, h2, r2⟩ := trodAll_cons r1
  obtain ⟨rfl, rfl, rfl⟩ := trodAll_nil r2
  obtain rfl : args = #[v0, v1, v2] := by cases args; simp_all
  obtain ⟨rfl, rfl⟩ := trodVars_none hV
  have k0 := h0
  have lt0 : ∀ x ∈ p0, x.block < W.heap.size := by obtain ⟨m, hm⟩ := k0; exact DataW.trod_lt m _ _ _ hm
  obtain ⟨q0, rfl, w0⟩ := open_rw Try.underlying24 Try.underlying5 (by kernel_rfl) (hval 0 24 v0 rfl rfl) h0
  have k1 := h1
  have lt1 : ∀ x ∈ p1, x.block < W.heap.size := by obtain ⟨m, hm⟩ := k1; exact DataW.trod_lt m _ _ _ hm
  obtain ⟨xl1, xw1, xh1, xi1, xv1, xp1, rfl, w1⟩ := open_six (hval 1 37 v1 rfl rfl) h1
  have k2 := h2
  have lt2 : ∀ x ∈ p2, x.block < W.heap.size := by obtain ⟨m, hm⟩ := k2; exact DataW.trod_lt m _ _ _ hm
  obtain ⟨a2, c2, x2, q2, rfl, w2⟩ := open_turn (hval 2 62 v2 rfl rfl) h2
  clear hA0 hval0
  refine (walk q0 xl1 xw1 xh1 xi1 xv1 xp1 a2 c2 x2 q2 W w0 w1 w2).mono fun e W' ⟨he, bel⟩ => ?_
  subst he
  exact ⟨_, rfl, _, _, _, [], _, [], hW', trodAll_mk1 (shut_bool Try.underlying4 _), (trodAll_cons_mk (Below.trod laidOut (by kernel_rfl) (of_decide_eq_true (by kernel_rfl)) k0 bel lt0) (trodAll_cons_mk (Below.trod laidOut (by kernel_rfl) (of_decide_eq_true (by kernel_rfl)) k1 bel lt1) (trodAll_cons_mk (Below.trod laidOut (by kernel_rfl) (of_decide_eq_true (by kernel_rfl)) k2 bel lt2) trodAll_mk0))), rfl, bel.frame _, fun h => by cases h⟩

theorem over : Rows.weightFaultsRow.holds Try.pinned (OpenSpec.ofChange Rows.weightFaultsSpec) :=
  OpenClaim.holds_of_wide 7 Try.f7 rfl rfl rfl rfl rfl rfl rfl ⟨rfl, rfl, rfl, rfl, rfl⟩ rfl rfl rfl rfl rfl (by kernel_rfl) Try.func7 (by kernel_rfl)
    (of_decide_eq_true (by kernel_rfl)) (by unfold Func.isWrapper; first | (rw [if_pos (by decide +kernel)]; kernel_rfl) | (rw [if_neg (by decide +kernel)]; exact ⟨rfl, rfl⟩))
    (fun os started H enc _ => lifted os started H enc)

/-- ████ THE STATEMENT ████ -/
theorem proved : Rows.WeightFaultsSaid := over
#print axioms proved
end Go.Proofs.Ytlgnpicnpnibfaa.weightFaults
