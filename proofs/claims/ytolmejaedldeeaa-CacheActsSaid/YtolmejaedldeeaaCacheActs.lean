/-
  Layer 12, acts: whatever is laid, dropped and cleared, each answer and all that a store tells is the document's; there are never more spots than the room, and lines have no gaps: proved for every room and all acts.
-/
import Derived.Test.YtolmejaedldeeaaRows
import Derived.WalkKit
import Derived.ProofKit
import Derived.OpenShut
import Derived.ShutString
import Derived.ChangeOld
import Derived.Below
import Derived.Test.YtolmejaedldeeaaActRow12
import Derived.Test.YtolmejaedldeeaaActRow12
import Derived.Test.YtolmejaedldeeaaActs12
import Derived.Deep.CutRange
import Derived.Deep.CutBlock
import Derived.BigQuiet
namespace Go.Proofs.Ytolmejaedldeeaa.cacheActs
open Go.ChangeShapes Go.WideShapes Go.ChangeAt Go.RowKit
open Go.ChangeMaps (open_string shut_string)
set_option linter.unusedVariables false

theorem own : ownKnob Try.prog.godebug = none := by kernel_rfl
theorem laidOut : laidOutB Try.prog = true := by kernel_rfl

set_option maxHeartbeats 12800000 in
set_option maxRecDepth 100000 in
theorem walk (a0 : Int) (x1 : RowOf Act12) (w : World) (h0 : (Lit.int .i64 a0).wf = true) (h1 : x1.In Act12.cells (fun w x => Act12.In w x) 6 w) :
    Calls Try.prog 3 #[.int .i64 a0, .slice x1.a x1.n x1.cap] w fun e w' => e = .returned (.bool true) ∧ Below w.heap.size w w' := by
  have cA := awake12 w
  obtain ⟨xa, xn, xcap, xs⟩ := x1
  have H0 := Lib.hid h1
  have hcap : xn ≤ 9223372036854775807 := Nat.le_trans h1.2.1 h1.2.2.1
  simp only
  clear h1
  by_cases hbig : 60 < xn
  · --<A
    have hx1 : decide ((60 : Int) < (xn : Int)) = true := by simp; omega
    go_enter Try.func3, Try.ntmps3
    go_upto_region 2 with (refine cA.mono ?_; (first | rintro e wa rfl hb | rintro e wa ⟨rfl, hb⟩))
    have HB := Lib.hid hb
    have cB := awake12 wa
    clear hb cA
    go_wp2_with (refine cB.mono ?_)
    (first | rintro e wb rfl hb | rintro e wb ⟨rfl, hb⟩)
    go_wp2
    go_ret
    exact ⟨rfl, below_two HB.out hb⟩
    -->A
  have hx1 : decide ((60 : Int) < (xn : Int)) = false := by simp; omega
  have HXN : Hid (xn ≤ 60) := Lib.hid (by omega)
  clear hbig
  by_cases hneg : a0 < 0 ∨ 1048576 < a0
  · --<B
    have cN := new12_no a0 hneg
    by_cases hn1 : a0 < 0
    · have hd1 : decide (a0 < 0) = true := by simpa using hn1
      clear hneg hn1
      go_enter Try.func3, Try.ntmps3
      go_upto_region 3 with (refine cA.mono ?_; (first | rintro e wa rfl hb | rintro e wa ⟨rfl, hb⟩))
      have HB := Lib.hid hb
      clear hb cA
      go_wp2_with (refine (cN _).mono ?_)
      (first | rintro e wb rfl rfl | rintro e wb ⟨rfl, rfl⟩)
      go_wp2
      go_ret
      exact ⟨rfl, HB.out⟩
    · have hd1 : decide (a0 < 0) = false := by simpa using hn1
      have hd2 : decide (1048576 < a0) = true := by simp; omega
      clear hneg hn1
      go_enter Try.func3, Try.ntmps3
      go_upto_region 3 with (refine cA.mono ?_; (first | rintro e wa rfl hb | rintro e wa ⟨rfl, hb⟩))
      have HB := Lib.hid hb
      clear hb cA
      go_wp2_with (refine (cN _).mono ?_)
      (first | rintro e wb rfl rfl | rintro e wb ⟨rfl, rfl⟩)
      go_wp2
      go_ret
      exact ⟨rfl, HB.out⟩
    -->B
  obtain ⟨room, rfl⟩ : ∃ room : Nat, a0 = (room : Int) := ⟨a0.toNat, by omega⟩
  have hrm : room ≤ 1048576 := by omega
  have hd1 : decide ((room : Int) < 0) = false := by simp
  have hd2 : decide ((1048576 : Int) < (room : Int)) = false := by simp; omega
  have hd3 : decide (1048576 < room) = false := by simp; omega
  clear hneg
  go_enter Try.func3, Try.ntmps3
  go_upto_region 3 with (refine cA.mono ?_; (first | rintro e wa rfl hb | rintro e wa ⟨rfl, hb⟩))
  have HB := Lib.hid hb
  have cN := new12_yes room hrm wa
  clear hb cA
  go_wp2_with (with_reducible refine cN.mono ?_)
  (first | rintro e wb ⟨sb, rfl, mb, hS, hsb, hmb, hb⟩ | rintro e wb sb rfl mb hS hsb hmb hb)
  have HB2 := Lib.hid (below_two HB.out hb)
  have HS := Lib.hid hS
  have HM := Lib.hid (Nat.le_trans HB.out.size hmb)
  have HRM := Lib.hid hrm
  clear hS hsb hmb hb cN hrm HB
  go_upto_region 9 with (fail)
  generalize hwc : World.alloc wb _ = wc
  have HI0 : Hid (ActsI w sb mb wb.heap.size (wb.heap.size + 1) room [] (.slice none 0 0) [] wc) := Lib.hid (by
    have hbc : Below wb.heap.size wb wc := by rw [← hwc]; exact (Below.refl _ _).alloc (Nat.le_refl _) _
    refine ⟨HS.out.bel hbc, ⟨?_, listAt_nil _ _ _ _ _, fun x hx => (by cases hx), Nat.lt_succ_self _, ?_⟩, HB2.out.trans (hbc.mono HB2.out.size), HM.out, HB2.out.size⟩
    · rw [← hwc]; exact box_new _ _ _
    · rw [← hwc]; simp)
  clear hwc HS HB2 HM
  go_upto_region 10 with (fail)
  obtain ⟨db, hdb⟩ : ∃ db, wb.heap.size = db := ⟨_, rfl⟩
  obtain ⟨base, hbase⟩ : ∃ base, db + 1 = base := ⟨_, rfl⟩
  rw [hdb, hbase] at HI0
  rw [hdb]
  clear hdb hbase
  go_loopw [8, 9, 10, 11, 12, 13, 14, 15, 16, 17, 18, 19] (fun iv _ _ _ _ _ _ _ _ _ _ _ wr => ∃ (i : Nat) (L : List Ent) (v : Value) (D : List De), i ≤ xn ∧ iv = .int .i64 i ∧ Hid (ActsI w sb mb db base room L v D wr ∧ docL D = L)) (fun iv _ _ _ _ _ _ _ _ _ _ _ _ => xn - (intOf iv).toNat)
  case atStart => exact ⟨0, _, _, _, by omega, rfl, Lib.hid ⟨HI0.out, rfl⟩⟩
  case round =>
    obtain ⟨i, L, v, D, hi, rfl, HI⟩ := hrel
    clear HI0
    by_cases hlt : i < xn
    · have hlt2 : (i : Int) < (xn : Int) := by omega
      have hi1 : IntKind.i64.wrap ((i : Int) + 1) = ((i + 1 : Nat) : Int) := by rw [IntWalk.i64_in _ (by omega)]; rfl
      have hB := HI.out.1.bel
      obtain ⟨b, off, x, ha, -, hmem, hx, hc⟩ := (H0.out.below Act12.len hB (fun x hx => hx.below hB)).at_ hlt
      simp only at ha
      subst ha
      have d0 : wr.cell? ⟨b, off + i * 6, none⟩ = some (.int .i64 x.kind) := hc 0 (by omega)
      have d1 : wr.cell? ⟨b, off + i * 6 + 1, none⟩ = some (.int .i64 x.at_.r) := hc 1 (by omega)
      have d2 : wr.cell? ⟨b, off + i * 6 + 2, none⟩ = some (.int .i64 x.at_.l) := hc 2 (by omega)
      have d3 : wr.cell? ⟨b, off + i * 6 + 3, none⟩ = some (.int .i64 x.at_.p) := hc 3 (by omega)
      have d4 : wr.cell? ⟨b, off + i * 6 + 4, none⟩ = some (.slice x.k.a x.k.n x.k.cap) := hc 4 (by omega)
      have d5 : wr.cell? ⟨b, off + i * 6 + 5, none⟩ = some (.slice x.v.a x.v.n x.v.cap) := hc 5 (by omega)
      have HXin0 : Hid (Act12.In w x) := Lib.hid (H0.out.2.2.2.1 x hmem)
      clear hc hx hmem
      go_upto_region 13 with (fail)
      generalize hwA : World.alloc wr _ = wA
      have XA : Box wA wr.heap.size 36 #[.int .i64 x.kind, .int .i64 x.at_.r, .int .i64 x.at_.l, .int .i64 x.at_.p, .slice x.k.a x.k.n x.k.cap, .slice x.v.a x.v.n x.v.cap] := by rw [← hwA]; exact box_new _ _ _
      have hBA : Below wr.heap.size wr wA := by rw [← hwA]; exact (Below.refl _ _).alloc (Nat.le_refl _) _
      have HIA := Lib.hid (HI.out.1.to hBA)
      have HXA := Lib.hid XA
      have a0 : wA.cell? ⟨wr.heap.size, 0, none⟩ = some (.int .i64 x.kind) := XA.cell 0
      have a1 : wA.cell? ⟨wr.heap.size, 1, none⟩ = some (.int .i64 x.at_.r) := XA.cell 1
      have a2 : wA.cell? ⟨wr.heap.size, 2, none⟩ = some (.int .i64 x.at_.l) := XA.cell 2
      have a3 : wA.cell? ⟨wr.heap.size, 3, none⟩ = some (.int .i64 x.at_.p) := XA.cell 3
      have a4 : wA.cell? ⟨wr.heap.size, 4, none⟩ = some (.slice x.k.a x.k.n x.k.cap) := XA.cell 4
      have a5 : wA.cell? ⟨wr.heap.size, 5, none⟩ = some (.slice x.v.a x.v.n x.v.cap) := XA.cell 5
      have HXI : Hid (Act12.In wA x) := Lib.hid (HXin0.out.below HIA.out.bel)
      have HEQ := Lib.hid HI.out.2
      obtain ⟨ab, hab⟩ : ∃ ab, wr.heap.size = ab := ⟨_, rfl⟩
      rw [hab] at a0 a1 a2 a3 a4 a5 HXA ⊢
      have HAB : Hid (w.heap.size ≤ ab) := Lib.hid (by rw [← hab]; exact hB.size)
      clear hwA XA hBA hB d0 d1 d2 d3 d4 d5 hab HI
      by_cases hk1 : 100 < x.k.n
      · --<D
        have hk2 : decide ((100 : Int) < (x.k.n : Int)) = true := by simp; omega
        go_wp2
        go_ret
        exact ⟨rfl, HIA.out.bel⟩
        -->D
      by_cases hv1 : 100 < x.v.n
      · --<E
        have hk2 : decide ((100 : Int) < (x.k.n : Int)) = false := by simp; omega
        have hv2 : decide ((100 : Int) < (x.v.n : Int)) = true := by simp; omega
        go_wp2
        go_ret
        exact ⟨rfl, HIA.out.bel⟩
        -->E
      have hk2 : decide ((100 : Int) < (x.k.n : Int)) = false := by simp; omega
      have hv2 : decide ((100 : Int) < (x.v.n : Int)) = false := by simp; omega
      have HKV : Hid (x.k.n ≤ 65536 ∧ x.v.n ≤ 65536) := Lib.hid ⟨by omega, by omega⟩
      clear hk1 hv1
      go_upto_block 2 with (fail)
      go_cut [79] from 77 to 137 (fun v79 wx => ∃ L' v' D', Hid ((ActsI w sb mb db base room L' v' D' wx ∧ docL D' = L') ∧ Box wx ab 36 #[.int .i64 x.kind, .int .i64 x.at_.r, .int .i64 x.at_.l, .int .i64 x.at_.p, .slice x.k.a x.k.n x.k.cap, .slice x.v.a x.v.n x.v.cap]))
      case first =>
        have hEQ := HEQ.out
        subst hEQ
        by_cases hkd : x.kind = 0
        · --<F
          have hkd2 : (x.kind == 0) = true := by simpa using hkd
          clear hkd
          go_upto_region 17 with (fail)
          go_cut [10, 11] from 81 to 89 (fun v10 v11 wx => ∃ g h : Rw, v10 = .slice g.a g.n g.cap ∧ v11 = .slice h.a h.n h.cap ∧ Hid (Below wA.heap.size wA wx ∧ (g.In .i8 wx ∧ g.v = x.k.v ∧ g.n = x.k.n ∧ ThA wx g.a ∧ ∀ y, g.a = some y → wA.heap.size ≤ y.block) ∧ (h.In .i8 wx ∧ h.v = x.v.v ∧ h.n = x.v.n)))
          case first =>
            --<G
            go_region_held3 (fun W => W.cell? ⟨ab, 4, none⟩ = some (.slice x.k.a x.k.n x.k.cap) ∧ W.cell? ⟨ab, 5, none⟩ = some (.slice x.v.a x.v.n x.v.cap))
              (first | go_keep | (go_split_ands; refine ⟨?_, ?_⟩ <;> assumption))
              (first
                | (refine step_append_lit2 rfl (.tmp 81) (.tmp 83) 34 rfl rfl .i8 39 1 (by omega) Try.underlying34 info_i8 wA x.k HXI.out.2.2.1 HKV.out.1 _ rfl rfl ?_ ?_ ?_ ?_
                   · (first
                     | exact Box.drew (box_new _ _ _)
                     | exact Box.drew (Box.alloc (box_new _ _ _) _)
                     | exact Box.drew (box_at (World.size_alloc _ _).symm _ _)
                     | exact box_new _ _ _)
                   · (first
                     | exact ((Below.refl _ _).alloc (Nat.le_refl _) _).drew
                     | exact (((Below.refl _ _).alloc (Nat.le_refl _) _).alloc (by simp) _).drew)
                   · (first
                     | exact Nat.le_refl _
                     | exact Nat.le_succ _)
                   intro g w1 hL hb1 ha1
                   have HB1 := Lib.hid hb1
                   have HA1 := Lib.hid ha1
                   have HX1 : Hid (∀ b, Box _ b 39 #[] → Box w1 b 39 #[]) := Lib.hid (fun b h => h.bel hL.2.2.2.2.1)
                   have HL1 := Lib.hid (And.intro hL.1 (And.intro hL.2.1 (And.intro hL.2.2.1 hL.2.2.2.1)))
                   have HX := Lib.hid (HXA.out.bel hb1)
                   have v4 : w1.cell? ⟨ab, 4, none⟩ = some (.slice x.k.a x.k.n x.k.cap) := HX.out.cell 4
                   have v5 : w1.cell? ⟨ab, 5, none⟩ = some (.slice x.v.a x.v.n x.v.cap) := HX.out.cell 5
                   clear hL hb1 ha1)
                | (refine step_append_lit2 rfl (.tmp 85) (.tmp 87) 34 rfl rfl .i8 39 1 (by omega) Try.underlying34 info_i8 wA x.v HXI.out.2.2.2 HKV.out.2 _ rfl rfl ?_ ?_ ?_ ?_
                   · (first
                     | exact box_new _ _ _
                     | exact HX1.out _ (Box.drew (box_new _ _ _))
                     | exact HX1.out _ (Box.drew (Box.alloc (box_new _ _ _) _))
                     | exact HX1.out _ (Box.drew (box_at (World.size_alloc _ _).symm _ _)))
                   · (first
                     | exact HB1.out
                     | exact HB1.out.alloc HB1.out.size _)
                   · (first
                     | exact Nat.le_refl _
                     | exact Nat.le_succ _
                     | exact HB1.out.size)
                   intro h w2 hL hb2 ha2
                   have HB2 := Lib.hid hb2
                   have HL2 := Lib.hid (And.intro hL.1 (And.intro hL.2.1 hL.2.2.1))
                   have HR2 : Hid (g.In .i8 w2 ∧ ThA w2 g.a) := Lib.hid (by
                     have h1 := HL1.out
                     first
                       | exact ⟨h1.1.below hL.2.2.2.2.1, h1.2.2.2.bel hL.2.2.2.2.1⟩
                       | exact ⟨(h1.1.below ((Below.refl _ _).alloc (Nat.le_refl _) _)).below hL.2.2.2.2.1, (h1.2.2.2.bel ((Below.refl _ _).alloc (Nat.le_refl _) _)).bel hL.2.2.2.2.1⟩)
                   have u4 : w2.cell? ⟨ab, 4, none⟩ = some (.slice x.k.a x.k.n x.k.cap) := (HXA.out.bel hb2).cell 4
                   have u5 : w2.cell? ⟨ab, 5, none⟩ = some (.slice x.v.a x.v.n x.v.cap) := (HXA.out.bel hb2).cell 5
                   clear hL hb2 ha2))
            all_goals (go_wp2_with fail)
            all_goals go_meet
            all_goals (case rel => exact ⟨g, h, rfl, rfl, Lib.hid ⟨HB2.out, ⟨HR2.out.1, HL1.out.2.1, HL1.out.2.2.1, HR2.out.2, HA1.out⟩, HL2.out⟩⟩)
            -->G
          case rest =>
            obtain ⟨⟨ga, gn, gc, gv⟩, ⟨ha, hn, hc, hv⟩, rfl, rfl, HC⟩ := hcut
            obtain ⟨e, he⟩ : ∃ e : Ent, (⟨x.at_.r, x.at_.l, x.at_.p, x.k.v, x.v.v⟩ : Ent) = e := ⟨_, rfl⟩
            obtain ⟨res, hres⟩ : ∃ res, putE room (docL D) e = res := ⟨_, rfl⟩
            have hC := HC.out
            have hIC := HIA.out.to hC.1
            have hXC := HXA.out.bel hC.1
            have HIC := Lib.hid hIC
            have HXC := Lib.hid hXC
            have HRES := Lib.hid hres
            have HE := Lib.hid he
            have c1 : wc.cell? ⟨ab, 1, none⟩ = some (.int .i64 x.at_.r) := hXC.cell 1
            have c2 : wc.cell? ⟨ab, 2, none⟩ = some (.int .i64 x.at_.l) := hXC.cell 2
            have c3 : wc.cell? ⟨ab, 3, none⟩ = some (.int .i64 x.at_.p) := hXC.cell 3
            have c4 : wc.cell? ⟨ab, 4, none⟩ = some (.slice x.k.a x.k.n x.k.cap) := hXC.cell 4
            have c5 : wc.cell? ⟨ab, 5, none⟩ = some (.slice x.v.a x.v.n x.v.cap) := hXC.cell 5
            have hRC : RowsE wc e ⟨ga, gn, gc, gv⟩ ⟨ha, hn, hc, hv⟩ := by
              rw [← he]
              exact ⟨hC.2.1.1, hC.2.2.1, hC.2.1.2.1, hC.2.2.2.1, by have h1 := hC.2.1.2.2.1; have h2 := HKV.out; simp only at h1 ⊢; omega, by have h1 := hC.2.2.2.2; have h2 := HKV.out; simp only at h1 ⊢; omega⟩
            have hw3 : w64 e.r ∧ w64 e.l ∧ w64 e.p := by rw [← he]; exact ⟨HXI.out.2.1.1, HXI.out.2.1.2.1, HXI.out.2.1.2.2⟩
            have HW3 := Lib.hid hw3
            have hPc := put12F (hIC.to (Below.refl _ _).drew).st e ⟨ga, gn, gc, gv⟩ ⟨ha, hn, hc, hv⟩ ⟨hRC.1, hRC.2.1, hRC.2.2⟩ hw3
            have HXK : Hid (x.k.In .i8 wc ∧ x.v.In .i8 wc) := Lib.hid ⟨HXI.out.2.2.1.below hC.1, HXI.out.2.2.2.below hC.1⟩
            have her : e.r = x.at_.r ∧ e.l = x.at_.l ∧ e.p = x.at_.p := by rw [← he]; exact ⟨rfl, rfl, rfl⟩
            have HER := Lib.hid her
            rw [hres, her.1, her.2.1, her.2.2] at hPc
            unfold spotV at hPc
            simp only at hPc
            clear hC hIC hXC hres he hRC hw3 her a0 a1 a2 a3 a4 a5
            go_upto_region 18 with (fail)
            go_cut [103] from 89 to 104 (fun v103 wx => v103 = .bool false ∧ ∃ v' D', Hid (MutI w sb mb db base room res.2 v' D' ga gn wx ∧ docL D' = res.2 ∧ Box wx ab 36 #[.int .i64 x.kind, .int .i64 x.at_.r, .int .i64 x.at_.l, .int .i64 x.at_.p, .slice x.k.a x.k.n x.k.cap, .slice x.v.a x.v.n x.v.cap]))
            case first =>
              --<M
              go_region_held3 (fun W => W.cell? ⟨ab, 1, none⟩ = some (.int .i64 x.at_.r) ∧ W.cell? ⟨ab, 2, none⟩ = some (.int .i64 x.at_.l) ∧ W.cell? ⟨ab, 3, none⟩ = some (.int .i64 x.at_.p) ∧ W.cell? ⟨ab, 4, none⟩ = some (.slice x.k.a x.k.n x.k.cap) ∧ W.cell? ⟨ab, 5, none⟩ = some (.slice x.v.a x.v.n x.v.cap))
                (first | go_keep | (go_split_ands; refine ⟨?_, ?_, ?_, ?_, ?_⟩ <;> assumption))
                (first
                  | (go_at_call 7; (with_reducible refine hPc.mono ?_); (first | rintro en w1 rfl hS hg hof | rintro en w1 ⟨rfl, hS, hg, hof⟩)
                     have HS1 := Lib.hid (And.intro hS (And.intro hg hof))
                     have hX1 := (HIC.out.to (Below.refl _ _).drew).st.bx (HXC.out.bel (Below.refl _ _).drew) hg
                     have HX1 := Lib.hid hX1
                     have e1 : w1.cell? ⟨ab, 1, none⟩ = some (.int .i64 x.at_.r) := hX1.cell 1
                     have e2 : w1.cell? ⟨ab, 2, none⟩ = some (.int .i64 x.at_.l) := hX1.cell 2
                     have e3 : w1.cell? ⟨ab, 3, none⟩ = some (.int .i64 x.at_.p) := hX1.cell 3
                     have e4 : w1.cell? ⟨ab, 4, none⟩ = some (.slice x.k.a x.k.n x.k.cap) := hX1.cell 4
                     have e5 : w1.cell? ⟨ab, 5, none⟩ = some (.slice x.v.a x.v.n x.v.cap) := hX1.cell 5
                     have hI1 := (HIC.out.to (Below.refl _ _).drew).code hS hg
                     have hPd := dput12 hI1.doc (HIC.out.st.good) (by have := HIC.out.st.room; rw [docL_len] at this; exact this) e x.k x.v
                       (by
                         rw [← HE.out]
                         exact ⟨(HIC.out.to (Below.refl _ _).drew).st.rw (HXK.out.1.below (Below.refl _ _).drew) hg, (HIC.out.to (Below.refl _ _).drew).st.rw (HXK.out.2.below (Below.refl _ _).drew) hg, rfl, rfl, HKV.out.1, HKV.out.2⟩) HW3.out
                     rw [HRES.out, HER.out.1, HER.out.2.1, HER.out.2.2] at hPd
                     unfold spotV at hPd
                     clear hS hg hof hX1 hI1)
                  | (go_at_call 8; (with_reducible refine hPd.mono ?_); (first | rintro en w2 rfl hR | rintro en w2 ⟨rfl, hR⟩)
                     have HX2 := Lib.hid (hR.2.1.box _ _ _ HX1.out (by decide) (by decide))
                     have HM2 : Hid (∃ v' D', MutI w sb mb db base room res.2 v' D' ga gn w2 ∧ docL D' = res.2) := Lib.hid (by
                       have h1 := HS1.out
                       have h2 := HC.out
                       rw [← HRES.out] at h1 ⊢
                       exact put_mut (g := ⟨ga, gn, gc, gv⟩) HIA.out (h2.1.trans ((Below.refl _ _).drew.mono h2.1.size)) h2.2.1.1 h2.2.1.2.2.2.1 h2.2.1.2.2.2.2 h1.1 h1.2.1 h1.2.2 hR)
                     have f1 : w2.cell? ⟨ab, 1, none⟩ = some (.int .i64 x.at_.r) := HX2.out.cell 1
                     have f2 : w2.cell? ⟨ab, 2, none⟩ = some (.int .i64 x.at_.l) := HX2.out.cell 2
                     have f3 : w2.cell? ⟨ab, 3, none⟩ = some (.int .i64 x.at_.p) := HX2.out.cell 3
                     have f4 : w2.cell? ⟨ab, 4, none⟩ = some (.slice x.k.a x.k.n x.k.cap) := HX2.out.cell 4
                     have f5 : w2.cell? ⟨ab, 5, none⟩ = some (.slice x.v.a x.v.n x.v.cap) := HX2.out.cell 5
                     clear hR))
              go_wp2_with fail
              go_meet
              case rel =>
                obtain ⟨v', D', hM, hE⟩ := HM2.out
                exact ⟨by simp, v', D', Lib.hid ⟨hM, hE, HX2.out⟩⟩
              -->M
            case rest =>
              obtain ⟨rfl, v', D', HM⟩ := hcut
              have hgn : gn ≤ 65536 := by have h1 := HC.out.2.1.2.2.1; have h2 := HKV.out.1; simp only at h1; omega
              clear hPc HC HIC HXC HRES c1 c2 c3 c4 c5 HXK HW3
              go_upto_region 21 with (fail)
              go_loopw [12] (fun jv wx => ∃ j : Nat, j ≤ gn ∧ jv = .int .i64 j ∧ Hid (MutI w sb mb db base room res.2 v' D' ga gn wx ∧ docL D' = res.2 ∧ Box wx ab 36 #[.int .i64 x.kind, .int .i64 x.at_.r, .int .i64 x.at_.l, .int .i64 x.at_.p, .slice x.k.a x.k.n x.k.cap, .slice x.v.a x.v.n x.v.cap])) (fun jv _ => gn - (intOf jv).toNat)
              case atStart => exact ⟨0, by omega, rfl, HM⟩
              case round =>
                obtain ⟨j, hj, rfl, HJ⟩ := hrel
                clear HM
                by_cases hjl : j < gn
                · --<N
                  have hjl2 : (j : Int) < (gn : Int) := by omega
                  have hj1 : IntKind.i64.wrap ((j : Int) + 1) = ((j + 1 : Nat) : Int) := by rw [IntWalk.i64_in _ (by omega)]; rfl
                  obtain ⟨b1, o1, z1, e1, y1, f1⟩ := HJ.out.1.op.at_ hjl
                  subst e1
                  have HST : Hid (∀ z : Int, MutI w sb mb db base room res.2 v' D' (some ⟨b1, o1, none⟩) gn (wr.setCell ⟨b1, o1 + j, none⟩ (.int .i8 z)) ∧ docL D' = res.2 ∧ Box (wr.setCell ⟨b1, o1 + j, none⟩ (.int .i8 z)) ab 36 #[.int .i64 x.kind, .int .i64 x.at_.r, .int .i64 x.at_.l, .int .i64 x.at_.p, .slice x.k.a x.k.n x.k.cap, .slice x.v.a x.v.n x.v.cap]) := Lib.hid (fun z => by
                    obtain ⟨b', o', cs, e, hB, _⟩ := HJ.out.1.op (by omega)
                    cases e
                    refine ⟨HJ.out.1.set (by omega) _, HJ.out.2.1, HJ.out.2.2.other _ (fun e => ?_)⟩
                    subst e
                    have := hB.symm.trans HJ.out.2.2
                    simp at this)
                  go_wp2
                  go_roundw
                  case rel => exact ⟨j + 1, by omega, rfl, Lib.hid (HST.out _)⟩
                  case measure => simp [intOf]; omega
                  -->N
                · obtain rfl : j = gn := by omega
                  have HN := Lib.hid (And.intro (And.intro HJ.out.1.a HJ.out.2.1) HJ.out.2.2)
                  clear hjl
                  go_wp2
                  go_meet
                  case rel => exact ⟨_, _, _, HN⟩
          -->F
        · have hkd2 : (x.kind == 0) = false := by simpa using hkd
          by_cases hk3 : x.kind = 1
          · have hk4 : (x.kind == 1) = true := by simpa using hk3
            clear hkd hk3
            --<O
            obtain ⟨N, hN⟩ : ∃ N : Int, ((docL D).length : Int) - (((docL D).filter fun y => !(y.r == x.at_.r)).length : Int) = N := ⟨_, rfl⟩
            have HNN := Lib.hid hN
            have HWR : Hid (w64 x.at_.r) := Lib.hid HXI.out.2.1.1
            have HDR : Hid (∀ W : World, Below W.heap.size W W.drew) := Lib.hid (fun W => (Below.refl _ _).drew)
            have HPC : Hid (∀ W (h : Nat), Below wA.heap.size wA W → Elems .i64 W (some ⟨h, 0, none⟩) 1 [x.at_.r] → Calls Try.prog 9 #[.pointer (some ⟨sb, 0, none⟩), .slice (some ⟨h, 0, none⟩) 1 1] W
                fun e w' => e = .returned (.int .i64 N) ∧ Hid (ActsI w sb mb db base room ((docL D).filter fun y => !(y.r == x.at_.r)) v D w' ∧ Box w' ab 36 #[.int .i64 x.kind, .int .i64 x.at_.r, .int .i64 x.at_.l, .int .i64 x.at_.p, .slice x.k.a x.k.n x.k.cap, .slice x.v.a x.v.n x.v.cap])) := Lib.hid (fun W h hW hE => by
              have hI := HIA.out.to hW
              have := drop12 hI.st (c := 1) hE
              rw [HNN.out] at this
              refine this.mono ?_
              rintro e w' ⟨rfl, hs, hg⟩
              exact ⟨rfl, Lib.hid ⟨hI.code hs hg, hI.st.bx (HXA.out.bel hW) hg⟩⟩)
            clear hN
            go_upto_region 25 with (fail)
            go_cut [129] from 118 to 130 (fun v129 wx => v129 = .bool false ∧ ∃ L' v' D', Hid ((ActsI w sb mb db base room L' v' D' wx ∧ docL D' = L') ∧ Box wx ab 36 #[.int .i64 x.kind, .int .i64 x.at_.r, .int .i64 x.at_.l, .int .i64 x.at_.p, .slice x.k.a x.k.n x.k.cap, .slice x.v.a x.v.n x.v.cap]))
            case first =>
              go_region_held3 (fun W => W.cell? ⟨ab, 1, none⟩ = some (.int .i64 x.at_.r))
                (first | go_keep | assumption)
                (first
                  | (go_at_call 9; (with_reducible refine (HPC.out _ _ ?h1 ?h2).mono ?_)
                     case h1 => (first | exact ((Below.refl _ _).alloc (Nat.le_refl _) _).drew | exact HDR.out _ | (trace_state; fail))
                     case h2 => (first | exact lit64 rfl HWR.out | exact lit64 (World.size_alloc _ _).symm HWR.out | (trace_state; fail))
                     (first | rintro e w1 rfl hQ | rintro e w1 ⟨rfl, hQ⟩)
                     have e1 : w1.cell? ⟨ab, 1, none⟩ = some (.int .i64 x.at_.r) := hQ.out.2.cell 1
                     have hPd := ddrop12 hQ.out.1.doc (by have := HIA.out.st.room; rw [docL_len] at this; omega) x.at_.r
                     rw [HNN.out] at hPd)
                  | (go_at_call 10; (with_reducible refine hPd.mono ?_); (first | rintro e w2 rfl hR | rintro e w2 ⟨rfl, hR⟩)
                     have HRR := Lib.hid hR
                     have HX2 := Lib.hid (hR.2.1.box _ _ _ hQ.out.2 (by decide) (by decide))
                     have f1 : w2.cell? ⟨ab, 1, none⟩ = some (.int .i64 x.at_.r) := HX2.out.cell 1
                     clear hR))
              go_wp2_with fail
              go_meet
              case rel =>
                obtain ⟨⟨v', D', hd, he⟩, hK, hB⟩ := HRR.out
                exact ⟨by simp, _, v', D', Lib.hid ⟨⟨hQ.out.1.docs hd hK hB, he⟩, HX2.out⟩⟩
            case rest =>
              obtain ⟨rfl, L', v', D', HN⟩ := hcut
              clear HNN HPC
              go_wp2
              go_meet
              case rel => exact ⟨_, _, _, HN⟩
            -->O
          · have hk4 : (x.kind == 1) = false := by simpa using hk3
            by_cases hk5 : x.kind = 2
            · have hk6 : (x.kind == 2) = true := by simpa using hk5
              clear hkd hk3 hk5
              --<J
              have cC := clear12 HIA.out.st
              go_wp2_with (with_reducible refine cC.mono ?_)
              (first | rintro e wx rfl hS hg | rintro e wx ⟨rfl, hS, hg⟩)
              have hcl := HIA.out.clear hS hg
              have hDx := HIA.out.doc.store HIA.out.st hg
              have s1 : wx.cell? ⟨db, 1, none⟩ = some v := hDx.box.cell 1
              have sf : wx.frozen? ⟨db, 1, none⟩ = false := hDx.box.frozen 1
              have HN : Hid ((ActsI w sb mb db base room [] (.slice none 0 0) [] (wx.setCell ⟨db, 1, none⟩ (.slice none 0 0)) ∧ docL [] = []) ∧ Box (wx.setCell ⟨db, 1, none⟩ (.slice none 0 0)) ab 36 #[.int .i64 x.kind, .int .i64 x.at_.r, .int .i64 x.at_.l, .int .i64 x.at_.p, .slice x.k.a x.k.n x.k.cap, .slice x.v.a x.v.n x.v.cap]) :=
                Lib.hid ⟨⟨hcl.1, rfl⟩, hcl.2.box _ _ _ (HIA.out.st.bx HXA.out hg) (by decide) (by decide)⟩
              clear hS hg cC hcl hDx a0 a1 a2 a3 a4 a5
              go_wp2
              go_meet
              case rel => exact ⟨_, _, _, HN⟩
              -->J
            · --<K
              have hk6 : (x.kind == 2) = false := by simpa using hk5
              have HN := Lib.hid (And.intro (And.intro HIA.out (rfl : docL D = docL D)) HXA.out)
              clear hkd hk3 hk5
              go_wp2
              go_meet
              case rel => exact ⟨_, _, _, Lib.hid ⟨⟨HN.out.1.1, rfl⟩, HN.out.2⟩⟩
              -->K
      case rest =>
        obtain ⟨L', v', D', HC⟩ := hcut
        obtain ⟨wk, rfl⟩ : ∃ wk, wk = wc := ⟨_, rfl⟩
        clear HIA HXA HEQ HKV a0 a1 a2 a3 a4 a5 hk2 hv2
        have hEQ := HC.out.1.2
        subst hEQ
        have hlenD : D'.length ≤ 1048576 := by have := HC.out.1.1.st.room; rw [docL_len] at this; omega
        have HLD : Hid (D'.length ≤ 1048576) := Lib.hid hlenD
        have hrD : D'.length ≤ room := by have := HC.out.1.1.st.room; rw [docL_len] at this; omega
        obtain ⟨dva, dvc, rfl⟩ := HC.out.1.1.doc.row.shape
        have HIC : Hid (∀ W, Below wk.heap.size wk W → ActsI w sb mb db base room (docL D') (.slice dva D'.length dvc) D' W ∧ Box W ab 36 #[.int .i64 x.kind, .int .i64 x.at_.r, .int .i64 x.at_.l, .int .i64 x.at_.p, .slice x.k.a x.k.n x.k.cap, .slice x.v.a x.v.n x.v.cap]) := Lib.hid (fun W hW => ⟨HC.out.1.1.to hW, HC.out.2.bel hW⟩)
        have HWX : Hid (w64 x.at_.r ∧ w64 x.at_.l ∧ w64 x.at_.p) := Lib.hid ⟨HXI.out.2.1.1, HXI.out.2.1.2.1, HXI.out.2.1.2.2⟩
        have HBW : Hid (Below w.heap.size w wk) := Lib.hid HC.out.1.1.bel
        clear HXI HXin0 HC
        go_upto_region 30 with (fail)
        go_cut [156] from 137 to 157 (fun v156 wx => v156 = .bool false ∧ Hid (Below wk.heap.size wk wx))
        case first =>
          --<P
          have hIw := (HIC.out wk.drew (Below.refl _ _).drew).1
          have cLn := len12 hIw.st
          rw [docL_len] at cLn
          have cRm := room12 hIw.st
          have s1 : wk.cell? ⟨db, 1, none⟩ = some (.slice dva D'.length dvc) := hIw.doc.box.cell 1
          have hgt : decide (room < D'.length) = false := by simp; omega
          have hne1 : ((D'.length : Int) != (D'.length : Int)) = false := by simp
          have hne2 : ((room : Int) != (room : Int)) = false := by simp
          have hgt2 : decide ((room : Int) < (D'.length : Int)) = false := by simp; omega
          clear hlenD hrD hIw
          go_region_held3 (fun W => W.cell? ⟨db, 1, none⟩ = some (.slice dva D'.length dvc))
            (first | go_keep | assumption)
            (first
              | (go_at_call 12; (with_reducible refine cLn.mono ?_); (first | rintro e w1 rfl rfl | rintro e w1 ⟨rfl, rfl⟩))
              | (go_at_call 13; (with_reducible refine cRm.mono ?_); (first | rintro e w1 rfl rfl | rintro e w1 ⟨rfl, rfl⟩)))
          go_wp2_with fail
          go_meet
          case rel => exact ⟨rfl, Lib.hid (Below.refl _ _).drew⟩
          -->P
        case rest =>
          obtain ⟨rfl, HB1⟩ := hcut
          clear hrD
          go_upto_region 33 with (fail)
          go_loopw [13, 14, 15, 16] (fun jv _ _ _ wx => ∃ j : Nat, j ≤ D'.length ∧ jv = .int .i64 j ∧ Hid (Below wk.heap.size wk wx)) (fun jv _ _ _ _ => D'.length - (intOf jv).toNat)
          case atStart => exact ⟨0, by omega, rfl, HB1⟩
          case round =>
            obtain ⟨j, hj, rfl, HJ⟩ := hrel
            clear HB1
            have hDr := (HIC.out wr HJ.out).1.doc
            have s1 : wr.cell? ⟨db, 1, none⟩ = some (.slice dva D'.length dvc) := hDr.box.cell 1
            by_cases hjl : j < D'.length
            · --<Q
              have hjl2 : (j : Int) < (D'.length : Int) := by omega
              have hj1 : IntKind.i64.wrap ((j : Int) + 1) = ((j + 1 : Nat) : Int) := by rw [IntWalk.i64_in _ (by omega)]; rfl
              obtain ⟨g, c', e, hc1, hc2, hg, hcells⟩ := hDr.cells (by omega)
              obtain ⟨z0, z1, z2, z3, z4⟩ := hcells j hjl
              simp only [Value.slice.injEq] at e
              obtain ⟨rfl, -, rfl⟩ := e
              have hSr := (HIC.out wr HJ.out).1.st
              have hent := hDr.ent D'[j] (List.getElem_mem hjl)
              have hmem : D'[j].e ∈ docL D' := List.mem_map.2 ⟨D'[j], List.getElem_mem hjl, rfl⟩
              obtain ⟨de, hde⟩ : ∃ de, D'[j] = de := ⟨_, rfl⟩
              rw [hde] at z0 z1 z2 z3 z4 hent hmem
              have hbd := (hSr.good.bd de.e hmem).2
              obtain ⟨k1, k2, k3⟩ := keysE_mem hSr.good hmem
              have cG := get12 hSr hbd.1 hbd.2.1 hbd.2.2
              unfold GetR spotV at cG
              rw [k1, k2, k3] at cG
              have HKP : Hid (∀ W, Below wr.heap.size wr W → W.cell? ⟨db, 1, none⟩ = some (.slice (some ⟨g, 0, none⟩) D'.length dvc) ∧ W.cell? ⟨g, j * 5 + 3, none⟩ = some (.slice de.k.a de.k.n de.k.cap) ∧ W.cell? ⟨g, j * 5 + 4, none⟩ = some (.slice de.v.a de.v.n de.v.cap) ∧ RowsE W de.e de.k de.v) := Lib.hid (fun W hW =>
                ⟨(hDr.bel hW).box.cell 1, (hW.cell (p := ⟨g, j * 5 + 3, none⟩) hg).trans z3, (hW.cell (p := ⟨g, j * 5 + 4, none⟩) hg).trans z4, hent.bel hW⟩)
              clear hDr hcells hc1 hc2 hg hSr hent hmem hde hbd k1 k2 k3 z3 z4
              go_wp2_with (with_reducible refine cG.mono ?_)
              rintro e wG ⟨⟨ga, ha, rfl, hgi, hhi, hgv, hhv, -, -, -, -, -⟩, hbG⟩
              obtain ⟨t1, t2, t3, hR⟩ := HKP.out wG hbG
              have cB1 := bytes_eqB hgi hR.1 (hgv.trans hR.2.2.1.symm)
              have HHI := Lib.hid (And.intro hhi hhv)
              have HBG := Lib.hid hbG
              clear hgi hhi hgv hhv hR hbG cG s1 z0 z1 z2
              go_wp2_with (with_reducible refine cB1.mono ?_)
              (first | rintro e wM rfl hb | rintro e wM ⟨rfl, hb⟩)
              obtain ⟨u1, u2, u3, hR2⟩ := HKP.out wM (below_two HBG.out hb)
              have cB2 := bytes_eqB (HHI.out.1.below hb) hR2.2.1 (HHI.out.2.trans hR2.2.2.2.1.symm)
              have HBM := Lib.hid (below_two HBG.out hb)
              clear hb cB1 t1 t2 t3 hR2
              go_wp2_with (with_reducible refine cB2.mono ?_)
              (first | rintro e wN rfl hb | rintro e wN ⟨rfl, hb⟩)
              have HN := Lib.hid (below_two HJ.out (below_two HBM.out hb))
              clear hb cB2 u1 u2 u3 HKP
              go_wp2
              go_roundw
              case rel => exact ⟨j + 1, by omega, rfl, HN⟩
              case measure => simp [intOf]; omega
              -->Q
            · obtain rfl : j = D'.length := by omega
              --<R
              clear hDr hjl
              have hXr := (HIC.out wr HJ.out).2
              have c1 : wr.cell? ⟨ab, 1, none⟩ = some (.int .i64 x.at_.r) := hXr.cell 1
              have c2 : wr.cell? ⟨ab, 2, none⟩ = some (.int .i64 x.at_.l) := hXr.cell 2
              have c3 : wr.cell? ⟨ab, 3, none⟩ = some (.int .i64 x.at_.p) := hXr.cell 3
              have cG := get12 (HIC.out wr HJ.out).1.st HWX.out.1 HWX.out.2.1 HWX.out.2.2
              obtain ⟨bv, hbv⟩ : ∃ bv, hasE (docL D') x.at_.r x.at_.l x.at_.p = bv := ⟨_, rfl⟩
              have HBV := Lib.hid hbv
              unfold GetR spotV at cG
              rw [hbv] at cG
              clear hXr hbv
              go_wp2_with (with_reducible refine cG.mono ?_)
              rintro e wG ⟨⟨ga, ha, rfl, -, -, -, -, -, -, -, -, -⟩, hbG⟩
              have hG2 := below_two HJ.out hbG
              have hXG := (HIC.out wG hG2).2
              have d1 : wG.cell? ⟨ab, 1, none⟩ = some (.int .i64 x.at_.r) := hXG.cell 1
              have d2 : wG.cell? ⟨ab, 2, none⟩ = some (.int .i64 x.at_.l) := hXG.cell 2
              have d3 : wG.cell? ⟨ab, 3, none⟩ = some (.int .i64 x.at_.p) := hXG.cell 3
              have cF := find12 (HIC.out wG hG2).1.doc HLD.out x.at_.r x.at_.l x.at_.p
              have HBG := Lib.hid hG2
              unfold spotV at cF
              clear hbG hG2 hXG cG c1 c2 c3 s1
              go_wp2_with (with_reducible refine cF.mono ?_)
              (first | rintro en wf y rfl hy hb | rintro en wf ⟨y, rfl, hy⟩ hb | rintro en wf ⟨⟨y, rfl, hy⟩, hb⟩)
              have hyb : decide (0 ≤ y) = bv := by
                have h1 := hy.has.1
                rw [HBV.out] at h1
                cases bv with
                | true => exact decide_eq_true (h1.2 rfl)
                | false => exact decide_eq_false (fun h => by have := h1.1 h; cases this)
              have hbb : (bv != bv) = false := by cases bv <;> rfl
              have hF2 := below_two HBG.out hb
              have hXF := (HIC.out wf hF2).2
              have e1 : wf.cell? ⟨ab, 1, none⟩ = some (.int .i64 x.at_.r) := hXF.cell 1
              have e2 : wf.cell? ⟨ab, 2, none⟩ = some (.int .i64 x.at_.l) := hXF.cell 2
              have e3 : wf.cell? ⟨ab, 3, none⟩ = some (.int .i64 x.at_.p) := hXF.cell 3
              have cL := lines12 (p := x.at_.p) (HIC.out wf hF2).1.st (HIC.out wf hF2).1.doc rfl HWX.out.1 HWX.out.2.1
              have HBF := Lib.hid hF2
              unfold spotV at cL
              clear hy hb hF2 hXF cF d1 d2 d3 HBV
              go_wp2_with (with_reducible refine cL.mono ?_)
              (first | rintro e wN rfl hb | rintro e wN ⟨rfl, hb⟩)
              have HN := Lib.hid (And.intro (HIC.out wN (below_two HBF.out hb)).1 (rfl : docL D' = docL D'))
              clear hb cL e1 e2 e3 hyb hbb
              go_wp2
              go_roundw
              case rel => exact ⟨i + 1, _, _, _, by omega, rfl, Lib.hid ⟨HN.out.1, rfl⟩⟩
              case measure => simp [intOf]; omega
              -->R
    · obtain rfl : i = xn := by omega
      --<S
      have hEQ := HI.out.2
      subst hEQ
      have hI := HI.out.1
      have cR := reqs12 hI.st
      have HIW := Lib.hid hI
      have hlenD : D.length ≤ 1048576 := by have := hI.st.room; rw [docL_len] at this; omega
      clear hlt hI
      go_wp2_with (with_reducible refine cR.mono ?_)
      rintro e wx ⟨⟨a, n, c, zs, rfl, hE, hO, hm, hn⟩, hb⟩
      have cD := dreqs12 (HIW.out.to hb).doc HIW.out.st.good hlenD
      have HE := Lib.hid (And.intro hE (And.intro hO hm))
      have HBX := Lib.hid (HIW.out.to hb).bel
      have hn2 : n ≤ 1048576 := by rw [docL_len] at hn; omega
      clear hE hO hm hn hb cR
      go_wp2_with (with_reducible refine cD.mono ?_)
      rintro e wy ⟨⟨a2, n2, c2, zs2, rfl, hE2, hO2, hm2, -⟩, hb⟩
      have hzz : zs2 = zs := hO2.eq HE.out.2.1 (fun z => (hm2 z).trans (HE.out.2.2 z).symm)
      subst hzz
      have hE1 := HE.out.1.below hb
      obtain rfl : n2 = n := hE2.1.symm.trans hE1.1
      have HEE := Lib.hid (And.intro hE1 hE2)
      have HBY := Lib.hid (below_two HBX.out hb)
      have hnn : ((n2 : Int) != (n2 : Int)) = false := by simp
      clear hE1 hE2 hO2 hm2 hb cD HE
      go_upto_region 45 with (fail)
      go_loopw [22] (fun jv wz => ∃ j : Nat, j ≤ n2 ∧ jv = .int .i64 j ∧ Hid (Below wy.heap.size wy wz)) (fun jv _ => n2 - (intOf jv).toNat)
      case atStart => exact ⟨0, by omega, rfl, Lib.hid (Below.refl _ _)⟩
      case round =>
        obtain ⟨j, hj, rfl, HJ⟩ := hrel
        by_cases hjl : j < n2
        · have hjl2 : (j : Int) < (n2 : Int) := by omega
          have hj1 : IntKind.i64.wrap ((j : Int) + 1) = ((j + 1 : Nat) : Int) := by rw [IntWalk.i64_in _ (by omega)]; rfl
          obtain ⟨b1, o1, y1, rfl, f1, hy1, -⟩ := (HEE.out.1.below HJ.out).at_ hjl
          obtain ⟨b2, o2, y2, rfl, f2, hy2, -⟩ := (HEE.out.2.below HJ.out).at_ hjl
          obtain rfl : y1 = y2 := hy1.out.symm.trans hy2.out
          have hyy : (y1 != y1) = false := by simp
          clear hy1 hy2
          go_wp2_with fail
          go_quiet (fail)
          go_wp2
          go_roundw
          case rel => exact ⟨j + 1, by omega, rfl, Lib.hid (below_drewN HJ.out _)⟩
          case measure => simp [intOf]; omega
        · obtain rfl : j = n2 := by omega
          have HF := Lib.hid (below_two HBY.out HJ.out)
          clear hjl
          go_wp2
          go_ret
          exact ⟨rfl, HF.out⟩
      -->S

set_option maxRecDepth 100000 in
theorem lifted (os : Os) (started : os.Started) (H : Type) (enc : TypeId × Value → H) :
    ReturnsInHanded {} Try.checked os 3 .any (Rows.cacheActsSpec.pre6 enc Try.prog Try.f3 Rows.cacheActsRow.domain false) (Rows.cacheActsSpec.post enc Try.prog Try.f3 false true false false) := by
  refine returnsInHanded_of_change (C := Try.checked) own started (by kernel_rfl) Try.func3
    (ChangeSpec.witness6 (enc := enc) (C := Try.checked) false ⟨#[], #[.int .i64 0, .slice none 0 0], []⟩ 8 (by kernel_rfl) (by kernel_rfl) (by kernel_rfl) (by kernel_rfl)) ?_
  intro W base args ds gs before hval0 hW hcnd _
  have hval : ∀ (j : Nat) t v, Try.f3.params[j]? = some t → args[j]? = some v → Value.okWide Try.prog W .any base t v := hval0
  have hW' := hW
  obtain ⟨p, q, hA0, hV, rfl, hfz, hnd⟩ := hW
  have hA : DataW.TrodAll enc Try.prog W 0 (fun _ => true) true Try.f3.params.toList args.toList ds p := hA0
  rw [Try.params3] at hA hval
  obtain ⟨v0, vs0, d0, ds0, p0, q0, hargs, rfl, rfl, h0, r0⟩ := trodAll_cons hA
  obtain ⟨v1, vs1, d1, ds1, p1, q1, rfl, rfl, rfl, h1, r1⟩ := trodAll_cons r0
  obtain ⟨rfl, rfl, rfl⟩ := trodAll_nil r1
  obtain rfl : args = #[v0, v1] := by cases args; simp_all
  obtain ⟨rfl, rfl⟩ := trodVars_none hV
  obtain ⟨a0, rfl, rfl, rfl, w0⟩ := open_int Try.underlying3 (hval 0 3 v0 rfl rfl) h0
  have k1 := h1
  have lt1 : ∀ x ∈ p1, x.block < W.heap.size := by obtain ⟨m, hm⟩ := k1; exact DataW.trod_lt m _ _ _ hm
  obtain ⟨x1, rfl, w1⟩ := open_rowAct12 (hval 1 22 v1 rfl rfl) h1
  clear hA0 hval0
  refine (walk a0 x1 W w0 w1).mono fun e W' ⟨he, bel⟩ => ?_
  subst he
  exact ⟨_, rfl, _, _, _, [], _, [], hW', trodAll_mk1 (shut_bool Try.underlying4 _), (trodAll_cons_mk (shut_int Try.underlying3 w0) (trodAll_cons_mk (Below.trod laidOut (by kernel_rfl) (of_decide_eq_true (by kernel_rfl)) k1 bel lt1) trodAll_mk0)), rfl, bel.frame _, fun h => by cases h⟩

theorem over : Rows.cacheActsRow.holds Try.pinned (OpenSpec.ofChange Rows.cacheActsSpec) :=
  OpenClaim.holds_of_wide 3 Try.f3 rfl rfl rfl rfl rfl rfl rfl ⟨rfl, rfl, rfl, rfl, rfl⟩ rfl rfl rfl rfl rfl (by kernel_rfl) Try.func3 (by kernel_rfl)
    (of_decide_eq_true (by kernel_rfl)) (by unfold Func.isWrapper; first | (rw [if_pos (by decide +kernel)]; kernel_rfl) | (rw [if_neg (by decide +kernel)]; exact ⟨rfl, rfl⟩))
    (fun os started H enc _ => lifted os started H enc)

/-- ████ THE STATEMENT ████ -/
theorem proved : Rows.CacheActsSaid := over
#print axioms proved
end Go.Proofs.Ytolmejaedldeeaa.cacheActs
