/-
  Proved: for any small model, tokens and number ModelParts returns true (fed one by one, in one call, in two, or to a fork, tokens come to the same weights and to the same keys and values; more than 20 tokens are let go) and nothing that was in memory turns. No condition beside the row's own on the two tables.
-/
import Derived.Test.YtdclfcfdadkmeaaDoorRows
import Derived.WalkKit
import Derived.ProofKit
import Derived.OpenShut
import Derived.ShutString
import Derived.ChangeOld
import Derived.Below
import Derived.Test.YtdclfcfdadkmeaaDoorJ25
import Derived.Test.YtdclfcfdadkmeaaDoorJ02
import Derived.Test.YtdclfcfdadkmeaaDoorTie
import Derived.Test.YtdclfcfdadkmeaaDoorCards
import Derived.SevenTiedAt
import Derived.Test.YtdclfcfdadkmeaaDoorJ30
namespace Go.Proofs.YtdclfcfdadkmeaaDoor.modelParts
open Go.ChangeShapes Go.WideShapes Go.ChangeAt Go.RowKit
open Go.ChangeMaps (open_string shut_string)
set_option linter.unusedVariables false

theorem own : ownKnob Tryd.prog.godebug = none := by kernel_rfl
theorem laidOut : laidOutB Tryd.prog = true := by kernel_rfl

set_option maxHeartbeats 32000000 in
set_option maxRecDepth 100000 in
theorem walk (sl0 sw0 sh0 si0 sv0 sp0 sd0 : Int) (q0 : Rw) (q1 : Rw) (a2 : Int) (w : World) (h0 : Six sl0 sw0 sh0 si0 sv0 sp0 ∧ (Lit.int .u64 sd0).wf = true ∧ q0.In .i8 w) (h1 : q1.In .i64 w) (h2 : (Lit.int .i64 a2).wf = true) (hT : Tabs9 w) :
    Calls Tryd.prog 3 #[.agg #[.int .i64 sl0, .int .i64 sw0, .int .i64 sh0, .int .i64 si0, .int .i64 sv0, .int .i64 sp0, .int .u64 sd0, .slice q0.a q0.n q0.cap], .slice q1.a q1.n q1.cap, .int .i64 a2] w fun e w' => e = .returned (.bool true) ∧ Below w.heap.size w w' := by
  obtain ⟨-, hsd, hq0⟩ := h0
  obtain ⟨sd, rfl, hsd2⟩ : ∃ k : Nat, sd0 = (k : Int) ∧ k < 18446744073709551616 := by
    have := wfu64 hsd
    exact ⟨sd0.toNat, by omega, by omega⟩
  have hb2 := wf64 h2
  clear hsd h2
  have hf4 := fun (a0 a1 a2 a3 a4 a5 : Value) (W : World) => (run_field8 a0 a1 a2 a3 a4 a5 W).1
  have hf5 := fun (a0 a1 a2 a3 a4 a5 : Value) (W : World) => (run_field8 a0 a1 a2 a3 a4 a5 W).2.1
  have hf0 := fun (a0 a1 a2 a3 a4 a5 : Value) (W : World) => (run_field8 a0 a1 a2 a3 a4 a5 W).2.2
  have B1 : ∀ (U : World) (o : Obj), Below U.heap.size U (U.alloc o) := fun U o => (Below.refl _ _).alloc (Nat.le_refl _) o
  have HQ1 := Lib.hid h1
  have HQ0 := Lib.hid hq0
  have HT := Lib.hid hT
  have hq1 := h1.2.1
  have hq2 := h1.2.2.1
  have hq3 := hq0.2.1
  have hq4 := hq0.2.2.1
  clear h1 hq0 hT
  go_enter Tryd.func3, Tryd.ntmps3
  go_upto_region 1 with (fail)
  generalize hwa : World.alloc _ _ = wa
  have XS : Box wa w.heap.size 26 #[.int .i64 sl0, .int .i64 sw0, .int .i64 sh0, .int .i64 si0, .int .i64 sv0, .int .i64 sp0, .int .u64 sd, .slice q0.a q0.n q0.cap] := by rw [← hwa]; exact box_new _ _ _
  have HB : Below w.heap.size w wa := by rw [← hwa]; exact (Below.refl _ _).alloc (Nat.le_refl _) _
  clear hwa
  have cA := awake8 wa (HT.out.bel HB)
  have HXS := Lib.hid XS
  have HBA := Lib.hid HB
  clear XS HB
  by_cases hn : q1.n ≤ 20 ∧ q0.n ≤ 2000
  · obtain ⟨hn1, hn2⟩ := hn
    go_wp2_with fail
    refine cA.mono ?_
    rintro e wb ⟨rfl, hb⟩
    have HXSb := Lib.hid (HXS.out.bel hb)
    have HBb := Lib.hid (below_two HBA.out hb)
    clear cA hb HXS HBA
    have z0 : wb.cell? ⟨w.heap.size, 0, none⟩ = some (.int .i64 sl0) := HXSb.out.cell 0
    have z1 : wb.cell? ⟨w.heap.size, 1, none⟩ = some (.int .i64 sw0) := HXSb.out.cell 1
    have z2 : wb.cell? ⟨w.heap.size, 2, none⟩ = some (.int .i64 sh0) := HXSb.out.cell 2
    have z3 : wb.cell? ⟨w.heap.size, 3, none⟩ = some (.int .i64 si0) := HXSb.out.cell 3
    have z4 : wb.cell? ⟨w.heap.size, 4, none⟩ = some (.int .i64 sv0) := HXSb.out.cell 4
    have z5 : wb.cell? ⟨w.heap.size, 5, none⟩ = some (.int .i64 sp0) := HXSb.out.cell 5
    have z6 : wb.cell? ⟨w.heap.size, 6, none⟩ = some (.int .u64 sd) := HXSb.out.cell 6
    have z7 : wb.cell? ⟨w.heap.size, 7, none⟩ = some (.slice q0.a q0.n q0.cap) := HXSb.out.cell 7
    have cM := made8 sl0 sw0 sh0 si0 sv0 sp0 sd hsd2 q0 wb (HQ0.out.below HBb.out) hn2
    go_wp2_with fail
    refine cM.mono ?_
    rintro e wc ⟨⟨m, rr, s, W, V, rfl, -, -, -, hM⟩, hb⟩
    have HM := Lib.hid hM
    have HBc := Lib.hid (below_two HBb.out hb)
    have cS := shape8 m s V wc hM.mod
    unfold Sz.val shv at cS
    have ok := hM.tiny.1
    have bd := ok.bd
    have OK := Lib.hid ok
    have hp12 : s.p ≤ 12 := hM.p12
    have hv1 : 0 < s.v := by omega
    have hv9 : s.v ≤ 1000 := by omega
    have hp1 : 1 ≤ s.p := by omega
    have hl3 : s.l ≤ 3 := hM.tiny.2.1
    clear cM hb hM HXSb HBb z0 z1 z2 z3 z4 z5 z6 z7 ok bd
    go_wp2_with fail
    refine cS.mono ?_
    rintro e wd ⟨rfl, hb⟩
    have HMd := Lib.hid (HM.out.bel hb)
    have HBd := Lib.hid (below_two HBc.out hb)
    clear cS hb HM HBc
    have cF := fits8 q1 s.v hv1 hv9 wd (HQ1.out.below HBd.out) (by omega)
    go_wp2_with fail
    refine cF.mono ?_
    rintro e we ⟨⟨⟨ta, tn, tcap, tv⟩, rfl, hti, htv, htn, htz⟩, hb⟩
    simp only at hti htv htn htz
    have HMe := Lib.hid (HMd.out.bel hb)
    have HBe := Lib.hid (below_two HBd.out hb)
    have HTI := Lib.hid hti
    have HTB : Hid (∀ x ∈ tv, 0 ≤ x ∧ x < s.v) := Lib.hid fun x hx => by
      rw [htv] at hx
      obtain ⟨y, _, rfl⟩ := List.mem_map.1 hx
      exact fitI_bd s.v hv1 y
    have HTF : Hid ((ta = none ∧ tn = 0 ∧ tcap = 0) ∨ (0 < tn ∧ ∃ b o, ta = some ⟨b, o, none⟩)) := Lib.hid (by
      rcases Nat.eq_zero_or_pos tn with e | e
      · have := htz (by omega)
        exact .inl ⟨this.1, e, this.2⟩
      · obtain ⟨b, o, h3, _⟩ := hti.1.2.2.2 e
        exact .inr ⟨e, b, o, h3⟩)
    have tn20 : tn ≤ 20 := by omega
    have tc1 := hti.2.1
    have tc2 := hti.2.2.1
    simp only at tc1 tc2
    have cS := shape8 m s V we HMe.out.mod
    unfold Sz.val shv at cS
    clear cF hb hti htv htn htz HMd HBd
    go_wp2_with fail
    refine cS.mono ?_
    rintro e wf ⟨rfl, hb⟩
    have HMf := Lib.hid (HMe.out.bel hb)
    have HBf := Lib.hid (below_two HBe.out hb)
    have HTf := Lib.hid (HTI.out.below hb)
    clear cS hb HMe HBe HTI
    go_upto_if 67 with (fail)
    go_cut [9] from 62 to 72 (fun u wx => ∃ (ta : Option Addr) (tn tcap : Nat) (tv : List Int), u = .slice ta tn tcap ∧ Hid (TsR wx s ta tn tcap tv) ∧ Hid (MadeM wx m s W V) ∧ Hid (Below w.heap.size w wx))
    case first =>
      by_cases hp : s.p < tn
      · have hform : 0 < tn ∧ ∃ b o, ta = some ⟨b, o, none⟩ := by
          rcases HTF.out with h | h
          · omega
          · exact h
        obtain ⟨-, b, o, rfl⟩ := hform
        have HR : Hid (TsR wf s (some ⟨b, o, none⟩) s.p tcap (tv.take s.p)) := Lib.hid ⟨⟨HTf.out.1.take s.p (by show s.p ≤ tn; omega), by show s.p ≤ tcap; omega, HTf.out.2.2⟩, fun x hx => HTB.out x (List.mem_of_mem_take hx), Nat.le_refl _, .inr ⟨by omega, b, o, rfl⟩⟩
        have hp2 : (s.p : Int) < (tn : Int) := by omega
        have cS := shape8 m s V wf HMf.out.mod
        unfold Sz.val shv at cS
        go_wp2_with fail
        refine cS.mono ?_
        rintro e wg ⟨rfl, hb⟩
        have HRg := Lib.hid (HR.out.bel hb)
        have HMg := Lib.hid (HMf.out.bel hb)
        have HBg := Lib.hid (below_two HBf.out hb)
        clear cS hb HR HMf HBf HTf
        go_wp2_with fail
        go_meet
        case rel => exact ⟨some ⟨b, o, none⟩, s.p, tcap, tv.take s.p, rfl, HRg, HMg, HBg⟩
      · have HR : Hid (TsR wf s ta tn tcap tv) := Lib.hid ⟨HTf.out, HTB.out, by omega, HTF.out⟩
        go_wp2_with fail
        go_meet
        case rel => exact ⟨ta, tn, tcap, tv, rfl, HR, HMf, HBf⟩
    case rest =>
      clear HMf HBf HTf HTB HTF tn20 tc1 tc2
      obtain ⟨ta, tn, tcap, tv, rfl, hTs, hM, hB⟩ := hcut
      have hL := hTs.out.le
      have hC1 := hTs.out.inn.2.1
      have hC2 := hTs.out.inn.2.2.1
      simp only at hC1 hC2
      obtain ⟨t1, t2⟩ := tmod_bd (tn + 1) (by omega) a2
      have nz : ¬ ((tn : Int) + 1) = 0 := by omega
      obtain ⟨k, hk, K3⟩ := brought0 a2 tn (by omega)
      have HK3 := Lib.hid K3
      clear K3
      go_upto_region 10 with (fail)
      rw [HK3.out]
      clear t1 t2 nz
      have hTlt : ∀ b o, ta = some ⟨b, o, none⟩ → b < wc.heap.size := fun b o e => hTs.out.lt e
      have cR := run8 m s V wc hM.out.mod (fun _ _ => ([], []))
      go_wp2_with fail
      refine cR.mono ?_
      rintro e wg ⟨⟨r1, mb1, rfl, d11, d12, d13, hR1⟩, hb⟩
      have R1g : RunS wg r1 m mb1 s V [] 0 := ⟨hR1, hM.out.mod.bel hb, (HT.out.bel (below_two hB.out hb)).1, (HT.out.bel (below_two hB.out hb)).2.1⟩
      have HR1g := Lib.hid R1g
      have HTg := Lib.hid (hTs.out.bel hb)
      have HBg := Lib.hid (below_two hB.out hb)
      have l1 := R1g.lts
      have hwc := hB.out.size
      clear cR hb hTs hM hB hR1 R1g
      have cR := run8 m s V wg HR1g.out.mod (fun _ _ => ([], []))
      go_wp2_with fail
      refine cR.mono ?_
      rintro e wh ⟨⟨r2, mb2, rfl, d21, d22, d23, hR2⟩, hb⟩
      have HR1h := Lib.hid (HR1g.out.bel hb)
      have R2h : RunS wh r2 m mb2 s V [] 0 := ⟨hR2, HR1h.out.mod, HR1h.out.tab, HR1h.out.stab⟩
      have HR2h := Lib.hid R2h
      have HTh := Lib.hid (HTg.out.bel hb)
      have HBh := Lib.hid (below_two HBg.out hb)
      have l2 := R2h.lts
      clear cR hb HTg HBg HR1g hR2 R2h
      have cR := run8 m s V wh HR1h.out.mod (fun _ _ => ([], []))
      go_wp2_with fail
      refine cR.mono ?_
      rintro e wi ⟨⟨r3, mb3, rfl, d31, d32, d33, hR3⟩, hb⟩
      have HR1i := Lib.hid (HR1h.out.bel hb)
      have HR2i := Lib.hid (HR2h.out.bel hb)
      have R3i : RunS wi r3 m mb3 s V [] 0 := ⟨hR3, HR1i.out.mod, HR1i.out.tab, HR1i.out.stab⟩
      have HR3i := Lib.hid R3i
      have HTi := Lib.hid (HTh.out.bel hb)
      have HBi := Lib.hid (below_two HBh.out hb)
      have l3 := R3i.lts
      clear cR hb HTh HBh HR1h HR2h hR3 R3i
      have cF := feda9 r1 m mb1 tn 0 tcap s OK.out V [] tv wi HR1i.out (by omega) ta HTi.out.inn.1 (by omega) (fun b o e => by have := hTlt b o e; omega) HTi.out.bd (by simpa using hL) (by simp)
      go_wp2_with fail
      refine cF.mono ?_
      rintro e wj ⟨⟨xv, N1, rfl, hx0, hx1, hRS, hN1⟩, haw⟩
      rw [List.nil_append] at hx1 hRS hN1
      have sj := haw.size
      have HR1i' : RunE wi r1 m mb1 s V [] := ⟨0, HR1i.out, by simp⟩
      have E1j : RunE wj r1 m mb1 s V tv := ⟨N1, hRS, hN1⟩
      have HR2j := Lib.hid (RunE.other (⟨0, HR2i.out, by simp⟩ : RunE wi r2 m mb2 s V []) HR1i' haw E1j ⟨by omega, by omega, by omega, by omega⟩)
      have HR3j := Lib.hid (RunE.other (⟨0, HR3i.out, by simp⟩ : RunE wi r3 m mb3 s V []) HR1i' haw E1j ⟨by omega, by omega, by omega, by omega⟩)
      have HR1j := Lib.hid E1j
      have HTj := Lib.hid (HTi.out.away haw (fun b o e => by have := hTlt b o e; omega))
      have HBj : Hid (Below w.heap.size w wj) := Lib.hid (below_away HBi.out haw (by omega) (by omega) HBi.out.size)
      have HXj : Hid (XV wj s V tv tn xv) := Lib.hid ⟨hx0, hx1⟩
      clear cF hx0 hx1 hRS haw HR1i HR2i HR3i HTi HBi HR1i' E1j
      go_upto_region 12 with (fail)
      go_cut [102] from 98 to 102 (fun u wx => Hid (RunE wx r2 m mb2 s V (tv.take k)) ∧ Hid (RunE wx r1 m mb1 s V tv) ∧ Hid (RunE wx r3 m mb3 s V []) ∧ Hid (TsR wx s ta tn tcap tv) ∧ Hid (Below w.heap.size w wx) ∧ Hid (XV wx s V tv tn xv) ∧ wj.heap.size ≤ wx.heap.size)
      case first =>
        have cF := fedE r2 m mb2 k tcap s OK.out V [] (tv.take k) wj HR2j.out (by omega) ta (HTj.out.inn.1.take k hk) (by omega) (fun b o e => by have := hTlt b o e; omega) (fun x hx => HTj.out.bd x (List.mem_of_mem_take hx)) (by simp; omega)
        rw [List.nil_append] at cF
        have hk2 : (k : Int) ≤ (tcap : Int) := by omega
        have hform := HTj.out.form
        rcases hform with ⟨rfl, h00, h01⟩ | ⟨h00, b, o, rfl⟩
        · have hsl := fun W => (run_slice_nil k tn tcap h00 h01 hk W).1
          clear h00 h01
          go_wp2_with fail
          refine cF.mono ?_
          rintro e wk ⟨⟨yv, rfl, hy, hE⟩, haw⟩
          have G1 := Lib.hid hE
          have G2 := Lib.hid (HR1j.out.other HR2j.out haw hE ⟨by omega, by omega, by omega, by omega⟩)
          have G3 := Lib.hid (HR3j.out.other HR2j.out haw hE ⟨by omega, by omega, by omega, by omega⟩)
          have G4 := Lib.hid (HTj.out.away haw (fun b o e => by cases e))
          have G5 : Hid (Below w.heap.size w wk) := Lib.hid (below_away HBj.out haw (by omega) (by omega) HBj.out.size)
          have G6 := Lib.hid (HXj.out.away HR2j.out haw)
          have G7 := haw.size
          clear cF hy hE haw
          go_wp2_with fail
          go_meet
          case rel => (first | exact ⟨G1, G2, G3, G4, G5, G6, G7⟩ | ((repeat apply Exists.intro); exact ⟨⟨G1, G2, G3, G4, G5, G6, G7⟩, rfl⟩))
        · go_wp2_with fail
          refine cF.mono ?_
          rintro e wk ⟨⟨yv, rfl, hy, hE⟩, haw⟩
          have G1 := Lib.hid hE
          have G2 := Lib.hid (HR1j.out.other HR2j.out haw hE ⟨by omega, by omega, by omega, by omega⟩)
          have G3 := Lib.hid (HR3j.out.other HR2j.out haw hE ⟨by omega, by omega, by omega, by omega⟩)
          have G4 := Lib.hid (HTj.out.away haw (fun b o e => by have := hTlt b o e; omega))
          have G5 : Hid (Below w.heap.size w wk) := Lib.hid (below_away HBj.out haw (by omega) (by omega) HBj.out.size)
          have G6 := Lib.hid (HXj.out.away HR2j.out haw)
          have G7 := haw.size
          clear cF hy hE haw
          go_wp2_with fail
          go_meet
          case rel => (first | exact ⟨G1, G2, G3, G4, G5, G6, G7⟩ | ((repeat apply Exists.intro); exact ⟨⟨G1, G2, G3, G4, G5, G6, G7⟩, rfl⟩))
      case rest =>
        clear HR1j HR2j HR3j HTj HBj HXj
        obtain ⟨HR2k, HR1k, HR3k, HTk, HBk, HXk, sk⟩ := hcut
        have cK := forkE r2 m mb2 s V (tv.take k) wc HR2k.out
        go_wp2_with fail
        refine cK.mono ?_
        rintro e wl ⟨⟨r4, mb4, rfl, d41, d42, d43, hR4⟩, hb⟩
        have HR1l := Lib.hid (HR1k.out.bel hb)
        have HR2l := Lib.hid (HR2k.out.bel hb)
        have HR3l := Lib.hid (HR3k.out.bel hb)
        have HR4l := Lib.hid hR4
        have HTl := Lib.hid (HTk.out.bel hb)
        have HBl := Lib.hid (below_two HBk.out hb)
        have HXl := Lib.hid (HXk.out.bel hb)
        have l4 := hR4.lts
        have sl := hb.size
        have hTL : Hid (tv.take k ++ tv.drop k = tv) := Lib.hid (List.take_append_drop k tv)
        have hTK : Hid ((tv.take k).length = k) := Lib.hid (by rw [List.length_take, HTk.out.inn.1.1]; exact Nat.min_eq_left hk)
        clear cK hb hR4 HR1k HR2k HR3k HTk HBk HXk
        go_upto_region 14 with (fail)
        go_cut [17, 18] from 105 to 112 (fun u f wx => f = .int .i64 0 ∧ Hid (RunE wx r1 m mb1 s V tv) ∧ Hid (RunE wx r2 m mb2 s V tv) ∧ Hid (RunE wx r3 m mb3 s V []) ∧ Hid (RunE wx r4 m mb4 s V (tv.take k)) ∧ Hid (TsR wx s ta tn tcap tv) ∧ Hid (Below w.heap.size w wx) ∧ Hid (XV wx s V tv tn xv) ∧ Hid (XV wx s V tv (tn - k) u) ∧ wl.heap.size ≤ wx.heap.size)
        case first =>
          have cF := fun (a' : Option Addr) (n' : Nat) (hE : Elems .i64 wl a' n' (tv.drop k)) (hn' : n' ≤ 20) (hq : k + n' ≤ s.p) (hne : ∀ b o, a' = some ⟨b, o, none⟩ → b ≠ r2 ∧ b ≠ mb2) (cap' : Nat) => fedE r2 m mb2 n' cap' s OK.out V (tv.take k) (tv.drop k) wl HR2l.out (by omega) a' hE (by omega) hne (fun x hx => HTl.out.bd x (List.mem_of_mem_drop hx)) (by rw [hTK.out]; exact hq)
          have hform := HTl.out.form
          have hEl := HTl.out.inn.1
          have hk2 : (k : Int) ≤ (tn : Int) := by omega
          have hk3 : (tn : Int) ≤ (tcap : Int) := by omega
          rw [hTL.out] at cF
          rcases hform with ⟨rfl, h00, h01⟩ | ⟨h00, b, o, rfl⟩
          · have hsl := fun W => (run_slice_nil k tn tcap h00 h01 hk W).2
            have hdz : tv.drop k = [] := List.drop_eq_nil_of_le (by have := hEl.1; simp only at this; omega)
            have cE := cF none (tn - k) (by rw [hdz, show tn - k = 0 by omega]; exact Elems.nil_ _ _ _) (by omega) (by omega) (fun b o e => by cases e) (tcap - k)
            clear cF hEl hdz h00 h01
            go_wp2_with fail
            ((with_reducible refine cE.mono ?_))
            rintro e wk ⟨⟨yy, rfl, hy, hE⟩, haw⟩
            have G2 := Lib.hid hE
            have G1 := Lib.hid (HR1l.out.other HR2l.out haw hE ⟨by omega, by omega, by omega, by omega⟩)
            have G3 := Lib.hid (HR3l.out.other HR2l.out haw hE ⟨by omega, by omega, by omega, by omega⟩)
            have G4 := Lib.hid (HR4l.out.other HR2l.out haw hE ⟨by omega, by omega, by omega, by omega⟩)
            have G5 := Lib.hid (HTl.out.away haw (fun b o e => by first | (cases e; done) | (have := hTlt b o e; omega)))
            have G6 : Hid (Below w.heap.size w wk) := Lib.hid (below_away HBl.out haw (by omega) (by omega) HBl.out.size)
            have G7 := Lib.hid (HXl.out.away HR2l.out haw)
            have G8 := Lib.hid hy
            have G9 := haw.size
            clear hy hE haw
            go_wp2_with fail
            go_meet
            case rel => (first | exact ⟨rfl, G1, G2, G3, G4, G5, G6, G7, G8, G9⟩ | ((repeat apply Exists.intro); exact ⟨⟨rfl, G1, G2, G3, G4, G5, G6, G7, G8, G9⟩, rfl⟩))
          · have hb9 := hTlt b o rfl
            have hcase : k < tn ∨ (k = tn ∧ tcap = tn) ∨ (k = tn ∧ tn < tcap) := by omega
            rcases hcase with hc | ⟨hc1, hc2⟩ | ⟨hc1, hc2⟩
            · have cE := cF (some ⟨b, o + k, none⟩) (tn - k) (hEl.drop k (by omega)) (by omega) (by omega) (fun b' o' e => by cases e; omega) (tcap - k)
              have hk4 : ¬ tcap = k := by omega
              clear cF hEl
              go_wp2_with fail
              ((with_reducible refine cE.mono ?_))
              rintro e wk ⟨⟨yy, rfl, hy, hE⟩, haw⟩
              have G2 := Lib.hid hE
              have G1 := Lib.hid (HR1l.out.other HR2l.out haw hE ⟨by omega, by omega, by omega, by omega⟩)
              have G3 := Lib.hid (HR3l.out.other HR2l.out haw hE ⟨by omega, by omega, by omega, by omega⟩)
              have G4 := Lib.hid (HR4l.out.other HR2l.out haw hE ⟨by omega, by omega, by omega, by omega⟩)
              have G5 := Lib.hid (HTl.out.away haw (fun b o e => by first | (cases e; done) | (have := hTlt b o e; omega)))
              have G6 : Hid (Below w.heap.size w wk) := Lib.hid (below_away HBl.out haw (by omega) (by omega) HBl.out.size)
              have G7 := Lib.hid (HXl.out.away HR2l.out haw)
              have G8 := Lib.hid hy
              have G9 := haw.size
              clear hy hE haw
              go_wp2_with fail
              go_meet
              case rel => (first | exact ⟨rfl, G1, G2, G3, G4, G5, G6, G7, G8, G9⟩ | ((repeat apply Exists.intro); exact ⟨⟨rfl, G1, G2, G3, G4, G5, G6, G7, G8, G9⟩, rfl⟩))
            · have hdz : tv.drop k = [] := List.drop_eq_nil_of_le (by rw [HTl.out.inn.1.1]; show tn ≤ k; omega)
              have cE := cF (some ⟨b, o, none⟩) 0 (by rw [hdz]; exact Elems.nil_ _ _ _) (by omega) (by omega) (fun b' o' e => by cases e; omega) 0
              have hz0 : tn - k = 0 := by omega
              have HZ0 := Lib.hid hz0
              clear cF hEl hdz hz0
              subst hc2 hc1
              go_wp2_with fail
              ((with_reducible refine cE.mono ?_))
              rintro e wk ⟨⟨yy, rfl, hy, hE⟩, haw⟩
              try rw [← HZ0.out] at hy
              have G2 := Lib.hid hE
              have G1 := Lib.hid (HR1l.out.other HR2l.out haw hE ⟨by omega, by omega, by omega, by omega⟩)
              have G3 := Lib.hid (HR3l.out.other HR2l.out haw hE ⟨by omega, by omega, by omega, by omega⟩)
              have G4 := Lib.hid (HR4l.out.other HR2l.out haw hE ⟨by omega, by omega, by omega, by omega⟩)
              have G5 := Lib.hid (HTl.out.away haw (fun b o e => by first | (cases e; done) | (have := hTlt b o e; omega)))
              have G6 : Hid (Below w.heap.size w wk) := Lib.hid (below_away HBl.out haw (by omega) (by omega) HBl.out.size)
              have G7 := Lib.hid (HXl.out.away HR2l.out haw)
              have G8 := Lib.hid hy
              have G9 := haw.size
              clear hy hE haw
              go_wp2_with fail
              go_meet
              case rel => (first | exact ⟨rfl, G1, G2, G3, G4, G5, G6, G7, G8, G9⟩ | ((repeat apply Exists.intro); exact ⟨⟨rfl, G1, G2, G3, G4, G5, G6, G7, G8, G9⟩, rfl⟩))
            · have hdz : tv.drop k = [] := List.drop_eq_nil_of_le (by rw [HTl.out.inn.1.1]; show tn ≤ k; omega)
              have cE := cF (some ⟨b, o + tn, none⟩) 0 (by rw [hdz]; exact Elems.nil_ _ _ _) (by omega) (by omega) (fun b' o' e => by cases e; omega) (tcap - k)
              have hz0 : tn - k = 0 := by omega
              have HZ0 := Lib.hid hz0
              clear cF hEl hdz hz0
              subst hc1
              have hk4 : ¬ tcap = k := by omega
              go_wp2_with fail
              ((with_reducible refine cE.mono ?_))
              rintro e wk ⟨⟨yy, rfl, hy, hE⟩, haw⟩
              try rw [← HZ0.out] at hy
              have G2 := Lib.hid hE
              have G1 := Lib.hid (HR1l.out.other HR2l.out haw hE ⟨by omega, by omega, by omega, by omega⟩)
              have G3 := Lib.hid (HR3l.out.other HR2l.out haw hE ⟨by omega, by omega, by omega, by omega⟩)
              have G4 := Lib.hid (HR4l.out.other HR2l.out haw hE ⟨by omega, by omega, by omega, by omega⟩)
              have G5 := Lib.hid (HTl.out.away haw (fun b o e => by first | (cases e; done) | (have := hTlt b o e; omega)))
              have G6 : Hid (Below w.heap.size w wk) := Lib.hid (below_away HBl.out haw (by omega) (by omega) HBl.out.size)
              have G7 := Lib.hid (HXl.out.away HR2l.out haw)
              have G8 := Lib.hid hy
              have G9 := haw.size
              clear hy hE haw
              go_wp2_with fail
              go_meet
              case rel => (first | exact ⟨rfl, G1, G2, G3, G4, G5, G6, G7, G8, G9⟩ | ((repeat apply Exists.intro); exact ⟨⟨rfl, G1, G2, G3, G4, G5, G6, G7, G8, G9⟩, rfl⟩))
        case rest =>
          clear HR1l HR2l HR3l HR4l HTl HBl HXl
          obtain ⟨rfl, HR1m, HR2m, HR3m, HR4m, HTm, HBm, HXm, HYm, sm⟩ := hcut
          go_upto_region 15 with (fail)
          go_cut [19, 20] from 113 to 120 (fun u f wx => f = .int .i64 0 ∧ Hid (RunE wx r1 m mb1 s V tv) ∧ Hid (RunE wx r2 m mb2 s V tv) ∧ Hid (RunE wx r3 m mb3 s V []) ∧ Hid (RunE wx r4 m mb4 s V tv) ∧ Hid (TsR wx s ta tn tcap tv) ∧ Hid (Below w.heap.size w wx) ∧ Hid (XV wx s V tv tn xv) ∧ Hid (XV wx s V tv (tn - k) u17) ∧ Hid (XV wx s V tv (tn - k) u) ∧ wc.heap.size ≤ wx.heap.size)
          case first =>
            have cF := fun (a' : Option Addr) (n' : Nat) (hE : Elems .i64 wc a' n' (tv.drop k)) (hn' : n' ≤ 20) (hq : k + n' ≤ s.p) (hne : ∀ b o, a' = some ⟨b, o, none⟩ → b ≠ r4 ∧ b ≠ mb4) (cap' : Nat) => fedE r4 m mb4 n' cap' s OK.out V (tv.take k) (tv.drop k) wc HR4m.out (by omega) a' hE (by omega) hne (fun x hx => HTm.out.bd x (List.mem_of_mem_drop hx)) (by rw [hTK.out]; exact hq)
            have hform := HTm.out.form
            have hEl := HTm.out.inn.1
            have hk2 : (k : Int) ≤ (tn : Int) := by omega
            have hk3 : (tn : Int) ≤ (tcap : Int) := by omega
            rw [hTL.out] at cF
            rcases hform with ⟨rfl, h00, h01⟩ | ⟨h00, b, o, rfl⟩
            · have hsl := fun W => (run_slice_nil k tn tcap h00 h01 hk W).2
              have hdz : tv.drop k = [] := List.drop_eq_nil_of_le (by have := hEl.1; simp only at this; omega)
              have cE := cF none (tn - k) (by rw [hdz, show tn - k = 0 by omega]; exact Elems.nil_ _ _ _) (by omega) (by omega) (fun b o e => by cases e) (tcap - k)
              clear cF hEl hdz h00 h01
              go_wp2_with fail
              ((with_reducible refine cE.mono ?_))
              rintro e wk ⟨⟨yy, rfl, hy, hE⟩, haw⟩
              have G4 := Lib.hid hE
              have G1 := Lib.hid (HR1m.out.other HR4m.out haw hE ⟨by omega, by omega, by omega, by omega⟩)
              have G3 := Lib.hid (HR3m.out.other HR4m.out haw hE ⟨by omega, by omega, by omega, by omega⟩)
              have G2 := Lib.hid (HR2m.out.other HR4m.out haw hE ⟨by omega, by omega, by omega, by omega⟩)
              have G5 := Lib.hid (HTm.out.away haw (fun b o e => by first | (cases e; done) | (have := hTlt b o e; omega)))
              have G6 : Hid (Below w.heap.size w wk) := Lib.hid (below_away HBm.out haw (by omega) (by omega) HBm.out.size)
              have G7 := Lib.hid (HXm.out.away HR4m.out haw)
              have G10 := Lib.hid (HYm.out.away HR4m.out haw)
              have G8 := Lib.hid hy
              have G9 := haw.size
              clear hy hE haw
              go_wp2_with fail
              go_meet
              case rel => (first | exact ⟨rfl, G1, G2, G3, G4, G5, G6, G7, G10, G8, G9⟩ | ((repeat apply Exists.intro); exact ⟨⟨rfl, G1, G2, G3, G4, G5, G6, G7, G10, G8, G9⟩, rfl⟩))
            · have hb9 := hTlt b o rfl
              have hcase : k < tn ∨ (k = tn ∧ tcap = tn) ∨ (k = tn ∧ tn < tcap) := by omega
              rcases hcase with hc | ⟨hc1, hc2⟩ | ⟨hc1, hc2⟩
              · have cE := cF (some ⟨b, o + k, none⟩) (tn - k) (hEl.drop k (by omega)) (by omega) (by omega) (fun b' o' e => by cases e; omega) (tcap - k)
                have hk4 : ¬ tcap = k := by omega
                clear cF hEl
                go_wp2_with fail
                ((with_reducible refine cE.mono ?_))
                rintro e wk ⟨⟨yy, rfl, hy, hE⟩, haw⟩
                have G4 := Lib.hid hE
                have G1 := Lib.hid (HR1m.out.other HR4m.out haw hE ⟨by omega, by omega, by omega, by omega⟩)
                have G3 := Lib.hid (HR3m.out.other HR4m.out haw hE ⟨by omega, by omega, by omega, by omega⟩)
                have G2 := Lib.hid (HR2m.out.other HR4m.out haw hE ⟨by omega, by omega, by omega, by omega⟩)
                have G5 := Lib.hid (HTm.out.away haw (fun b o e => by first | (cases e; done) | (have := hTlt b o e; omega)))
                have G6 : Hid (Below w.heap.size w wk) := Lib.hid (below_away HBm.out haw (by omega) (by omega) HBm.out.size)
                have G7 := Lib.hid (HXm.out.away HR4m.out haw)
                have G10 := Lib.hid (HYm.out.away HR4m.out haw)
                have G8 := Lib.hid hy
                have G9 := haw.size
                clear hy hE haw
                go_wp2_with fail
                go_meet
                case rel => (first | exact ⟨rfl, G1, G2, G3, G4, G5, G6, G7, G10, G8, G9⟩ | ((repeat apply Exists.intro); exact ⟨⟨rfl, G1, G2, G3, G4, G5, G6, G7, G10, G8, G9⟩, rfl⟩))
              · have hdz : tv.drop k = [] := List.drop_eq_nil_of_le (by rw [HTm.out.inn.1.1]; show tn ≤ k; omega)
                have cE := cF (some ⟨b, o, none⟩) 0 (by rw [hdz]; exact Elems.nil_ _ _ _) (by omega) (by omega) (fun b' o' e => by cases e; omega) 0
                have hz0 : tn - k = 0 := by omega
                have HZ0 := Lib.hid hz0
                clear cF hEl hdz hz0
                subst hc2 hc1
                go_wp2_with fail
                ((with_reducible refine cE.mono ?_))
                rintro e wk ⟨⟨yy, rfl, hy, hE⟩, haw⟩
                try rw [← HZ0.out] at hy
                have G4 := Lib.hid hE
                have G1 := Lib.hid (HR1m.out.other HR4m.out haw hE ⟨by omega, by omega, by omega, by omega⟩)
                have G3 := Lib.hid (HR3m.out.other HR4m.out haw hE ⟨by omega, by omega, by omega, by omega⟩)
                have G2 := Lib.hid (HR2m.out.other HR4m.out haw hE ⟨by omega, by omega, by omega, by omega⟩)
                have G5 := Lib.hid (HTm.out.away haw (fun b o e => by first | (cases e; done) | (have := hTlt b o e; omega)))
                have G6 : Hid (Below w.heap.size w wk) := Lib.hid (below_away HBm.out haw (by omega) (by omega) HBm.out.size)
                have G7 := Lib.hid (HXm.out.away HR4m.out haw)
                have G10 := Lib.hid (HYm.out.away HR4m.out haw)
                have G8 := Lib.hid hy
                have G9 := haw.size
                clear hy hE haw
                go_wp2_with fail
                go_meet
                case rel => (first | exact ⟨rfl, G1, G2, G3, G4, G5, G6, G7, G10, G8, G9⟩ | ((repeat apply Exists.intro); exact ⟨⟨rfl, G1, G2, G3, G4, G5, G6, G7, G10, G8, G9⟩, rfl⟩))
              · have hdz : tv.drop k = [] := List.drop_eq_nil_of_le (by rw [HTm.out.inn.1.1]; show tn ≤ k; omega)
                have cE := cF (some ⟨b, o + tn, none⟩) 0 (by rw [hdz]; exact Elems.nil_ _ _ _) (by omega) (by omega) (fun b' o' e => by cases e; omega) (tcap - k)
                have hz0 : tn - k = 0 := by omega
                have HZ0 := Lib.hid hz0
                clear cF hEl hdz hz0
                subst hc1
                have hk4 : ¬ tcap = k := by omega
                go_wp2_with fail
                ((with_reducible refine cE.mono ?_))
                rintro e wk ⟨⟨yy, rfl, hy, hE⟩, haw⟩
                try rw [← HZ0.out] at hy
                have G4 := Lib.hid hE
                have G1 := Lib.hid (HR1m.out.other HR4m.out haw hE ⟨by omega, by omega, by omega, by omega⟩)
                have G3 := Lib.hid (HR3m.out.other HR4m.out haw hE ⟨by omega, by omega, by omega, by omega⟩)
                have G2 := Lib.hid (HR2m.out.other HR4m.out haw hE ⟨by omega, by omega, by omega, by omega⟩)
                have G5 := Lib.hid (HTm.out.away haw (fun b o e => by first | (cases e; done) | (have := hTlt b o e; omega)))
                have G6 : Hid (Below w.heap.size w wk) := Lib.hid (below_away HBm.out haw (by omega) (by omega) HBm.out.size)
                have G7 := Lib.hid (HXm.out.away HR4m.out haw)
                have G10 := Lib.hid (HYm.out.away HR4m.out haw)
                have G8 := Lib.hid hy
                have G9 := haw.size
                clear hy hE haw
                go_wp2_with fail
                go_meet
                case rel => (first | exact ⟨rfl, G1, G2, G3, G4, G5, G6, G7, G10, G8, G9⟩ | ((repeat apply Exists.intro); exact ⟨⟨rfl, G1, G2, G3, G4, G5, G6, G7, G10, G8, G9⟩, rfl⟩))
          case rest =>
            clear HR1m HR2m HR3m HR4m HTm HBm HXm HYm
            obtain ⟨rfl, HR1n, HR2n, HR3n, HR4n, HTn, HBn, HXn, HYn0, HYz, sn⟩ := hcut
            have htl : Hid (tv.length = tn) := Lib.hid HTn.out.inn.1.1
            have H30 : Hid (RunE wc r3 m mb3 s V (tv.take 0)) := HR3n
            have HO0 : Hid (XV wc s V (tv.take 0) 0 (.slice none 0 0)) := Lib.hid ⟨fun _ => rfl, fun h => absurd h (by omega)⟩
            have l3n := HR3n.out.lts
            clear HR3n HR2n
            go_wp2_with fail
            go_loopw [21, 22] (fun o i wr => ∃ j : Nat, j ≤ tn ∧ i = .int .i64 j ∧ Hid (RunE wr r3 m mb3 s V (tv.take j)) ∧ Hid (XV wr s V (tv.take j) j o) ∧ Hid (RunE wr r1 m mb1 s V tv) ∧ Hid (RunE wr r4 m mb4 s V tv) ∧ Hid (TsR wr s ta tn tcap tv) ∧ Hid (XV wr s V tv tn xv) ∧ Hid (XV wr s V tv (tn - k) u17) ∧ Hid (XV wr s V tv (tn - k) u19) ∧ Hid (Below w.heap.size w wr)) (fun _ i _ => tn - (intOf i).toNat)
            case atStart => exact ⟨0, by omega, rfl, H30, HO0, HR1n, HR4n, HTn, HXn, HYn0, HYz, HBn⟩
            case round =>
              clear H30 HO0 HR1n HR4n HTn HXn HYn0 HYz HBn
              obtain ⟨j, hj, rfl, hR3, hO, hR1, hR4, hTr, hX, hY, hZ, hB⟩ := hrel
              by_cases hlt : j < tn
              · obtain ⟨bb, off, x, hta, hc, HXj, -⟩ := hTr.out.inn.1.at_ hlt
                simp only at hta hc HXj
                subst hta
                have hjl : j < tv.length := by rw [htl.out]; exact hlt
                have hxm : tv[j] = x := by
                  have h8 := HXj.out
                  rw [List.getD_eq_getElem?_getD, List.getElem?_eq_getElem hjl] at h8
                  simpa using h8
                have hxb := hTr.out.bd x (by rw [← hxm]; exact List.getElem_mem hjl)
                have hpl := hTr.out.le
                have hTK : (tv.take j).length = j := by rw [List.length_take]; omega
                have htk : Hid (tv.take j ++ [x] = tv.take (j + 1)) := Lib.hid (by rw [List.take_add_one, List.getElem?_eq_getElem hjl, hxm]; rfl)
                have hl3 := hR3.out.lts
                have hbb := hTlt bb off rfl
                have hszA : ∀ T, wr.heap.size ≤ (wr.alloc (.cells #[.int .i64 x] T)).heap.size := fun T => (B1 _ _).size
                have cF := fun (T : TypeId) => fedE r3 m mb3 1 1 s OK.out V (tv.take j) [x] (wr.alloc (.cells #[.int .i64 x] T)) (hR3.out.bel (B1 _ _)) (by omega) (some ⟨wr.heap.size, 0, none⟩) (elems_litK [x] rfl rfl (fun y hy => by
                  rw [List.mem_singleton.1 hy]
                  obtain ⟨z, hz⟩ : ∃ z : Nat, x = z := ⟨x.toNat, by omega⟩
                  rw [hz]; exact wf_n (by omega)) (by simp) rfl) (by omega) (fun b o e => by cases e; omega) (fun y hy => by rw [List.mem_singleton.1 hy]; exact hxb) (by rw [hTK]; omega)
                rw [htk.out] at cF
                have HCF := Lib.hid cF
                clear hTK hxm HXj cF
                go_wp2_with fail
                refine (HCF.out _).mono ?_
                rintro e wy ⟨⟨ov, rfl, hy, hE⟩, haw⟩
                have G1 := Lib.hid hE
                have G2 : Hid (XV wy s V (tv.take (j + 1)) (j + 1) ov) := Lib.hid ⟨fun h => absurd h (by omega), fun _ => hy.2 (by omega)⟩
                have G3 := Lib.hid ((hR1.out.bel (B1 _ _)).other (hR3.out.bel (B1 _ _)) haw hE ⟨by omega, by omega, by omega, by omega⟩)
                have G4 := Lib.hid ((hR4.out.bel (B1 _ _)).other (hR3.out.bel (B1 _ _)) haw hE ⟨by omega, by omega, by omega, by omega⟩)
                have G5 := Lib.hid ((hTr.out.bel (B1 _ _)).away haw (fun b o e => by cases e; omega))
                have G6 := Lib.hid ((hX.out.bel (B1 _ _)).away (hR3.out.bel (B1 _ _)) haw)
                have G7 := Lib.hid ((hY.out.bel (B1 _ _)).away (hR3.out.bel (B1 _ _)) haw)
                have G8 := Lib.hid ((hZ.out.bel (B1 _ _)).away (hR3.out.bel (B1 _ _)) haw)
                have G9 : Hid (Below w.heap.size w wy) := Lib.hid (below_away (below_two hB.out (B1 _ _)) haw (by omega) (by omega) (below_two hB.out (B1 _ _)).size)
                clear HCF hy hE haw hR3 hO hR1 hR4 hTr hX hY hZ hB hszA htk
                go_wp2
                go_roundw
                case rel => exact ⟨j + 1, by omega, by go_num, G1, G2, G3, G4, G5, G6, G7, G8, G9⟩
                case measure => simp [intOf]; omega
              · obtain rfl : j = tn := by omega
                have htk : tv.take j = tv := List.take_of_length_le (by rw [htl.out]; exact Nat.le_refl _)
                rw [htk] at hR3 hO
                clear htk hTr
                go_upto_region 21 with (fail)
                go_cut [170] from 137 to 170 (fun u wx => u = .bool false ∧ Hid (RunE wx r1 m mb1 s V tv) ∧ Hid (RunE wx r3 m mb3 s V tv) ∧ Hid (RunE wx r4 m mb4 s V tv) ∧ Hid (Below w.heap.size w wx))
                case first =>
                  have hj0 : j = 0 ∨ (0 < j ∧ k = j) ∨ (0 < j ∧ k < j) := by omega
                  rcases hj0 with h0 | ⟨h0, h1⟩ | ⟨h0, h1⟩
                  · have hx := hX.out.1 h0
                    have ho := hO.out.1 h0
                    subst hx ho
                    have cI : Calls Tryd.prog 14 #[.slice none 0 0, .slice none 0 0] wr fun e w' => e = .returned (.bool true) ∧ Below wr.heap.size wr w' := intsB none none 0 0 0 [] wr (Elems.nil_ _ _ _) (Elems.nil_ _ _ _)
                    have hk5 : ¬ (k : Int) < (j : Int) := by omega
                    have hk6 : decide (k < j) = false := by simp; omega
                    clear h0 hX hO hY hZ
                    go_wp2_with fail
                    refine cI.mono ?_
                    rintro e wz ⟨rfl, hb⟩
                    have HC := Lib.hid hb
                    have G1 := Lib.hid (hR1.out.bel HC.out)
                    have G2 := Lib.hid (hR3.out.bel HC.out)
                    have G3 := Lib.hid (hR4.out.bel HC.out)
                    have G4 := Lib.hid (below_two hB.out HC.out)
                    clear HC cI hb
                    go_wp2_with fail
                    go_meet
                    case rel => exact ⟨rfl, G1, G2, G3, G4⟩
                  · obtain ⟨g1, c1, rfl, x1, x2, e1⟩ := hX.out.2 h0
                    obtain ⟨g2, c2, rfl, x3, x4, e2⟩ := hO.out.2 h0
                    have cI := intsB (some ⟨g1, 0, none⟩) (some ⟨g2, 0, none⟩) s.v c1 c2 _ wr e1 e2
                    have hk5 : ¬ (k : Int) < (j : Int) := by omega
                    have hk6 : decide (k < j) = false := by simp; omega
                    clear h0 h1 hX hO hY hZ e1 e2
                    go_wp2_with fail
                    refine cI.mono ?_
                    rintro e wz ⟨rfl, hb⟩
                    have HC := Lib.hid hb
                    have G1 := Lib.hid (hR1.out.bel HC.out)
                    have G2 := Lib.hid (hR3.out.bel HC.out)
                    have G3 := Lib.hid (hR4.out.bel HC.out)
                    have G4 := Lib.hid (below_two hB.out HC.out)
                    clear HC cI hb
                    go_wp2_with fail
                    go_meet
                    case rel => exact ⟨rfl, G1, G2, G3, G4⟩
                  · obtain ⟨g1, c1, rfl, x1, x2, e1⟩ := hX.out.2 h0
                    obtain ⟨g2, c2, rfl, x3, x4, e2⟩ := hO.out.2 h0
                    obtain ⟨g3, c3, rfl, x5, x6, e3⟩ := hY.out.2 (by omega)
                    obtain ⟨g4, c4, rfl, x7, x8, e4⟩ := hZ.out.2 (by omega)
                    have cI := intsB (some ⟨g1, 0, none⟩) (some ⟨g2, 0, none⟩) s.v c1 c2 _ wr e1 e2
                    have E1 := Lib.hid e1
                    have E3 := Lib.hid e3
                    have E4 := Lib.hid e4
                    have hk5 : (k : Int) < (j : Int) := by omega
                    clear h0 hX hO hY hZ e1 e2 e3 e4
                    go_wp2_with fail
                    refine cI.mono ?_
                    rintro e wz ⟨rfl, hb⟩
                    have HBz := Lib.hid hb
                    have cJ := intsB (some ⟨g1, 0, none⟩) (some ⟨g3, 0, none⟩) s.v c1 c3 _ wz (E1.out.below hb) (E3.out.below hb)
                    clear cI hb
                    go_wp2_with fail
                    refine cJ.mono ?_
                    rintro e wy ⟨rfl, hb⟩
                    have HBy := Lib.hid (below_two HBz.out hb)
                    have cL := intsB (some ⟨g1, 0, none⟩) (some ⟨g4, 0, none⟩) s.v c1 c4 _ wy (E1.out.below HBy.out) (E4.out.below HBy.out)
                    clear cJ hb
                    go_wp2_with fail
                    refine cL.mono ?_
                    rintro e wx ⟨rfl, hb⟩
                    have HC := Lib.hid (below_two HBy.out hb)
                    have G1 := Lib.hid (hR1.out.bel HC.out)
                    have G2 := Lib.hid (hR3.out.bel HC.out)
                    have G3 := Lib.hid (hR4.out.bel HC.out)
                    have G4 := Lib.hid (below_two hB.out HC.out)
                    clear HC cL hb
                    go_wp2_with fail
                    go_meet
                    case rel => exact ⟨rfl, G1, G2, G3, G4⟩
                case rest =>
                  clear hR3 hR1 hR4 hO hX hY hZ hB
                  obtain ⟨rfl, hR1, hR3, hR4, hB⟩ := hcut
                  obtain ⟨wo, rfl⟩ : ∃ wo, wo = wc := ⟨_, rfl⟩
                  go_wp2_with fail
                  go_loopw [23] (fun i wr => ∃ q : Nat, q ≤ j ∧ i = .int .i64 q ∧ Hid (Below wo.heap.size wo wr)) (fun i _ => j - (intOf i).toNat)
                  case atStart => exact ⟨0, by omega, rfl, Lib.hid (Below.refl _ _)⟩
                  case round =>
                    obtain ⟨q, hq, rfl, hb⟩ := hrel
                    by_cases hlt2 : q < j
                    · go_wp2_with fail
                      go_loopw [24] (fun i wr2 => ∃ l : Nat, l ≤ s.l ∧ i = .int .i64 l ∧ Hid (Below wo.heap.size wo wr2)) (fun i _ => s.l - (intOf i).toNat)
                      case atStart => exact ⟨0, by omega, rfl, hb⟩
                      case round =>
                        clear hb
                        obtain ⟨l, hl, rfl, hb⟩ := hrel
                        have cS := shape8 m s V wr (hR1.out.bel hb.out).mod
                        unfold Sz.val shv at cS
                        by_cases hll : l < s.l
                        · go_wp2_with fail
                          refine cS.mono ?_
                          rintro e wy ⟨rfl, hb2⟩
                          have hb3 := below_two hb.out hb2
                          have cK := keptE r1 m mb1 l q s OK.out V tv wy (hR1.out.bel hb3) hll (by rw [htl.out]; exact hlt2) (by rw [htl.out]; omega)
                          have HB3 := Lib.hid hb3
                          clear cS hb2 hb3 hb
                          go_wp2_with fail
                          refine cK.mono ?_
                          rintro e w5 ⟨⟨⟨ga, gn, gc, gv⟩, ⟨ha, hn9, hc9, hv9'⟩, rfl, gi, hi, ge, he, gne, hne9⟩, hb2⟩
                          simp only at gi hi ge he gne hne9
                          subst gne hne9
                          have HB5 := Lib.hid (below_two HB3.out hb2)
                          have HG := Lib.hid (And.intro gi hi)
                          have HGE := Lib.hid (And.intro ge he)
                          have cK := keptE r4 m mb4 l q s OK.out V tv w5 (hR4.out.bel HB5.out) hll (by rw [htl.out]; exact hlt2) (by rw [htl.out]; omega)
                          clear hb2 gi hi ge he HB3
                          go_wp2_with fail
                          refine cK.mono ?_
                          rintro e w6 ⟨⟨⟨ga2, gn2, gc2, gv2⟩, ⟨ha2, hn2, hc2, hv2⟩, rfl, gi2, hi2, ge2, he2, gne2, hne2⟩, hb2⟩
                          simp only at gi2 hi2 ge2 he2 gne2 hne2
                          subst gne2 hne2
                          rw [← HGE.out.1] at ge2
                          rw [← HGE.out.2] at he2
                          subst ge2 he2
                          have HB6 := Lib.hid (below_two HB5.out hb2)
                          have hgi := gi2.1
                          have hgi0 := HG.out.1.1.below hb2
                          (try simp only at hgi); (try simp only at hgi0)
                          have cB := bytesB ga ga2 s.w gc gc2 _ w6 hgi0 hgi
                          have HH := Lib.hid (And.intro (HG.out.2.1.below hb2) hi2.1)
                          clear cK hb2 gi2 hi2 hgi hgi0
                          go_wp2_with fail
                          refine cB.mono ?_
                          rintro e w7 ⟨rfl, hb2⟩
                          have hh1 := HH.out.1.below hb2
                          have hh2 := HH.out.2.below hb2
                          (try simp only at hh1); (try simp only at hh2)
                          have cC := bytesB ha ha2 s.w hc9 hc2 _ w7 hh1 hh2
                          have HB7 := Lib.hid (below_two HB6.out hb2)
                          clear cB hb2 hh1 hh2
                          go_wp2_with fail
                          refine cC.mono ?_
                          rintro e w8 ⟨rfl, hb2⟩
                          have HB8 := Lib.hid (below_two HB7.out hb2)
                          clear cC hb2
                          go_wp2
                          go_roundw
                          case rel => exact ⟨l + 1, by omega, by go_num, HB8⟩
                          case measure => simp [intOf]; omega
                        · obtain rfl : l = s.l := by omega
                          go_wp2_with fail
                          refine cS.mono ?_
                          rintro e wy ⟨rfl, hb2⟩
                          have HB3 := Lib.hid (below_two hb.out hb2)
                          clear cS hb2 hb
                          go_wp2
                          go_roundw
                          case rel => exact ⟨q + 1, by omega, by go_num, HB3⟩
                          case measure => simp [intOf]; omega
                    · obtain rfl : q = j := by omega
                      have cP1 := placeE r1 m mb1 q s V tv wr (hR1.out.bel hb.out) htl.out
                      have cP4 := placeE r4 m mb4 q s V tv wr (hR4.out.bel hb.out) htl.out
                      have cP3 := placeE r3 m mb3 q s V tv wr (hR3.out.bel hb.out) htl.out
                      have HBF := Lib.hid (below_two hB.out hb.out)
                      clear hb hB
                      go_wp2_with fail
                      refine cP1.mono ?_
                      rintro e w5 ⟨rfl, rfl⟩
                      go_wp2_with fail
                      refine cP4.mono ?_
                      rintro e w5 ⟨rfl, rfl⟩
                      go_wp2_with fail
                      refine cP3.mono ?_
                      rintro e w5 ⟨rfl, rfl⟩
                      clear cP1 cP3 cP4
                      go_wp2
                      go_ret
                      exact ⟨rfl, HBF.out⟩
  · have hcase : 20 < q1.n ∨ (q1.n ≤ 20 ∧ 2000 < q0.n) := by omega
    clear hn
    rcases hcase with hn | ⟨hn, hn2⟩
    all_goals
      go_wp2_with fail
      refine cA.mono ?_
      rintro e wb ⟨rfl, hb⟩
      have HXSb := Lib.hid (HXS.out.bel hb)
      have z7 : wb.cell? ⟨w.heap.size, 7, none⟩ = some (.slice q0.a q0.n q0.cap) := HXSb.out.cell 7
      have HBb := Lib.hid (below_two HBA.out hb)
      have cA2 := awake8 wb (HT.out.bel HBb.out)
      clear cA hb HXS HBA
      go_wp2_with fail
      refine cA2.mono ?_
      rintro e wc ⟨rfl, hb⟩
      have HBc := Lib.hid (below_two HBb.out hb)
      clear cA2 hb z7
      go_wp2
      go_ret
      exact ⟨rfl, HBc.out⟩

set_option maxRecDepth 100000 in
theorem lifted (os : Os) (started : os.Started) (H : Type) (enc : TypeId × Value → H) :
    ReturnsInHanded {} Tryd.checked os 3 .any (fun w args => (Rows.modelPartsSpec.pre enc Tryd.prog Tryd.f3 [] false w args ∧ laidMetH Tryd.prog laidList9 w) ∧ sizedMet enc Tryd.prog Tryd.f3 (OpenSpec.ofChange Rows.modelPartsSpec) false w args) (Rows.modelPartsSpec.post enc Tryd.prog Tryd.f3 false true false false) := by
  refine returnsInHanded_of_change_and (C := Tryd.checked) (X := fun w _ => laidMetH Tryd.prog laidList9 w) (fun _ _ _ hh h => h.of_heap hh) own started (by kernel_rfl) Tryd.func3
    (ChangeSpec.witness_shaped (enc := enc) (C := Tryd.checked) (os := os) (X := fun w _ => laidMetH Tryd.prog laidList9 w) false (World.doorLaid Tryd.prog 400 os) #[.agg #[.int .i64 0, .int .i64 0, .int .i64 0, .int .i64 0, .int .i64 0, .int .i64 0, .int .u64 0, .slice none 0 0], .slice none 0 0, .int .i64 0] 8 rfl (World.shaped_of_RefB (by kernel_rfl) (by kernel_rfl)) (by kernel_rfl) (by kernel_rfl) (by kernel_rfl) (door_met9 os _)) ?_
  intro W base args ds gs before hval0 hW _ _ hL _
  have hval : ∀ (j : Nat) t v, Tryd.f3.params[j]? = some t → args[j]? = some v → Value.okWide Tryd.prog W .any base t v := hval0
  have hW' := hW
  obtain ⟨p, q, hA0, hV, rfl, hfz, hnd⟩ := hW
  have hA : DataW.TrodAll enc Tryd.prog W 0 (fun _ => true) true Tryd.f3.params.toList args.toList ds p := hA0
  rw [Tryd.params3] at hA hval
  obtain ⟨v0, vs0, d0, ds0, p0, q0, hargs, rfl, rfl, h0, r0⟩ := trodAll_cons hA
  obtain ⟨v1, vs1, d1, ds1, p1, q1, rfl, rfl, rfl, h1, r1⟩ := trodAll_cons r0
  obtain ⟨v2, vs2, d2, ds2, p2, q2, rfl, rfl, rfl, h2, r2⟩ := trodAll_cons r1
  obtain ⟨rfl, rfl, rfl⟩ := trodAll_nil r2
  obtain rfl : args = #[v0, v1, v2] := by cases args; simp_all
  obtain ⟨rfl, rfl⟩ := trodVars_none hV
  have k0 := h0
  have lt0 : ∀ x ∈ p0, x.block < W.heap.size := by obtain ⟨m, hm⟩ := k0; exact DataW.trod_lt m _ _ _ hm
  obtain ⟨xl0, xw0, xh0, xi0, xv0, xp0, sd0, q0, rfl, w0⟩ := open_seeds8 (hval 0 26 v0 rfl rfl) h0
  have k1 := h1
  have lt1 : ∀ x ∈ p1, x.block < W.heap.size := by obtain ⟨m, hm⟩ := k1; exact DataW.trod_lt m _ _ _ hm
  obtain ⟨q1, rfl, w1⟩ := open_rw Tryd.underlying27 Tryd.underlying3 (by kernel_rfl) (hval 1 27 v1 rfl rfl) h1
  obtain ⟨a2, rfl, rfl, rfl, w2⟩ := open_int Tryd.underlying3 (hval 2 3 v2 rfl rfl) h2
  clear hA0 hval0
  have hT := tabs_of_laid hL
  refine (walk xl0 xw0 xh0 xi0 xv0 xp0 sd0 q0 q1 a2 W w0 w1 w2 hT).mono fun e W' ⟨he, bel⟩ => ?_
  subst he
  exact ⟨_, rfl, _, _, _, [], _, [], hW', trodAll_mk1 (shut_bool Tryd.underlying4 _), (trodAll_cons_mk (Below.trod laidOut (by kernel_rfl) (of_decide_eq_true (by kernel_rfl)) k0 bel lt0) (trodAll_cons_mk (Below.trod laidOut (by kernel_rfl) (of_decide_eq_true (by kernel_rfl)) k1 bel lt1) (trodAll_cons_mk (shut_int Tryd.underlying3 w2) trodAll_mk0))), rfl, bel.frame _, fun h => by cases h⟩

theorem over : Rows.modelPartsRow.holds Tryd.pinned (OpenSpec.ofChange Rows.modelPartsSpec) :=
  OpenClaim.holds_of_wide 3 Tryd.f3 rfl rfl rfl rfl rfl rfl rfl ⟨rfl, rfl, rfl, rfl, rfl⟩ rfl rfl rfl rfl rfl (by kernel_rfl) Tryd.func3 (by kernel_rfl)
    (of_decide_eq_true (by kernel_rfl)) (by unfold Func.isWrapper; first | (rw [if_pos (by decide +kernel)]; kernel_rfl) | (rw [if_neg (by decide +kernel)]; exact ⟨rfl, rfl⟩))
    (fun os started H enc _ => lifted os started H enc)

/-- the row's statement -/
theorem said : Rows.ModelPartsSaid := over

/-- THE STATEMENT: the tied card -/
theorem proved : Rows.ModelPartsCardSaid :=
  Claim7.holds_tied_plain_at .later [] [.data, .data] true (true, "af47729238bd4eb6deba0d8dacfa67202db43c79d262ee87be7b2fd57e2adb8c") true
    said (fun _ h => by cases h) (by kernel_rfl) (fun _ h => by cases h) modelParts_row_tie rfl ⟨rfl, rfl⟩ (by kernel_rfl) rfl
    (fun f fn hf hfn => by
      obtain rfl : f = 3 := Option.some.inj ((show Tryd.prog.funcNamed "peloton/pelotonlaw08.ModelParts" = some 3 by kernel_rfl).symm.trans hf) |>.symm
      obtain rfl : fn = Tryd.f3 := (Option.some.inj (Tryd.func3.symm.trans hfn)).symm
      exact ⟨by kernel_rfl, fun j t ht => by
        rw [Tryd.params3] at ht
        have hm : t ∈ [26, 27, 3] := by simpa using Array.mem_of_getElem? ht
        have hall : ([26, 27, 3].all fun u => !Tryd.prog.wantsStandIn u) = true := by kernel_rfl
        exact (show Tryd.prog.wantsStandIn t = false by simpa using List.all_eq_true.1 hall t hm)⟩)
    (by kernel_rfl)
#print axioms proved
end Go.Proofs.YtdclfcfdadkmeaaDoor.modelParts
