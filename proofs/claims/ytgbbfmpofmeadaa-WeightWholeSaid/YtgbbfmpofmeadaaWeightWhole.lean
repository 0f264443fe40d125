/-
  Proved: for any six numbers, any way of the twelve and any place WeightWhole returns true (weights of which one thing isn't right have no file, and neither side calls them right) and nothing that was in memory turns. No condition.
-/
import Derived.Test.YtgbbfmpofmeadaaRows
import Derived.WalkKit
import Derived.ProofKit
import Derived.OpenShut
import Derived.ShutString
import Derived.ChangeOld
import Derived.Below
import Derived.Test.YtgbbfmpofmeadaaShapeRow
import Derived.Test.YtgbbfmpofmeadaaAwake7
import Derived.Test.YtgbbfmpofmeadaaTiny
import Derived.Test.YtgbbfmpofmeadaaGrowF
import Derived.Test.YtgbbfmpofmeadaaDocWholeB
import Derived.Test.YtgbbfmpofmeadaaBytes7
import Derived.Test.YtgbbfmpofmeadaaSpoil7
import Derived.Deep.RegionHeld3
import Derived.Deep.QuietTactic
import Derived.BigQuiet
import Derived.Deep.CutRange
namespace Go.Proofs.Ytgbbfmpofmeadaa.weightWhole
open Go.ChangeShapes Go.WideShapes Go.ChangeAt Go.RowKit
open Go.ChangeMaps (open_string shut_string)
set_option linter.unusedVariables false

theorem own : ownKnob Try.prog.godebug = none := by kernel_rfl
theorem laidOut : laidOutB Try.prog = true := by kernel_rfl

set_option maxHeartbeats 12800000 in
set_option maxRecDepth 100000 in
theorem walk (sl0 sw0 sh0 si0 sv0 sp0 : Int) (a1 : Int) (a2 : Int) (w : World) (h0 : Six sl0 sw0 sh0 si0 sv0 sp0) (h1 : (Lit.int .i64 a1).wf = true) (h2 : (Lit.int .i64 a2).wf = true) :
    Calls Try.prog 3 #[.agg #[.int .i64 sl0, .int .i64 sw0, .int .i64 sh0, .int .i64 si0, .int .i64 sv0, .int .i64 sp0], .int .i64 a1, .int .i64 a2] w fun e w' => e = .returned (.bool true) ∧ Below w.heap.size w w' := by
  have hi1 := wf64 h1
  have hi2 := wf64 h2
  clear h0 h1 h2
  go_enter Try.func3, Try.ntmps3
  go_wp2_with fail
  refine (awake7 _).mono ?_
  rintro e w1 ⟨rfl, hb1⟩
  have HX1 : Hid (Box w1 w.heap.size 22 #[.int .i64 sl0, .int .i64 sw0, .int .i64 sh0, .int .i64 si0, .int .i64 sv0, .int .i64 sp0]) := Lib.hid ((box_new w _ _).bel hb1)
  have HB1 := Lib.hid (below_two ((Below.refl w.heap.size w).alloc (Nat.le_refl _) _) hb1)
  clear hb1
  obtain ⟨z0, z1, z2, z3, z4, z5⟩ := HX1.out.cells6
  go_wp2_with fail
  refine (tiny_any sl0 sw0 sh0 si0 sv0 sp0 _).mono ?_
  rintro e w2 ⟨⟨s, hs, rfl⟩, hb⟩
  have HB2 := Lib.hid (below_two HB1.out hb)
  have HOK := Lib.hid hs.1
  clear hb z0 z1 z2 z3 z4 z5 HX1 hs
  go_upto_region 4 with fail
  generalize hw3 : World.alloc _ _ = w3
  have hb3 : Below w2.heap.size w2 w3 := by rw [← hw3]; exact (Below.refl _ _).alloc (Nat.le_refl _) _
  have X3 : Box w3 w2.heap.size 25 #[.int .i64 s.l, .int .i64 s.w, .int .i64 s.h, .int .i64 s.i, .int .i64 s.v, .int .i64 s.p] := by rw [← hw3]; exact box_new _ _ _
  obtain ⟨n7, hn7⟩ : ∃ n, w2.heap.size = n := ⟨_, rfl⟩
  have HB3 := Lib.hid (below_two HB2.out hb3)
  have HN7 : Hid (w.heap.size ≤ n7) := Lib.hid (by rw [← hn7]; exact HB2.out.size)
  rw [hn7] at X3 ⊢
  have HX3 := Lib.hid X3
  obtain ⟨k0, k1, k2, k3, k4, k5⟩ := X3.cells6
  have HG := grow_fresh s HOK.out 3 (by omega) w3
  unfold Sz.val at HG
  clear hw3 hb3 X3 hn7
  go_wp2_with fail
  refine HG.mono ?_
  rintro e w4 ⟨⟨G, b, rfl, hP, hfr⟩, hb4⟩
  have HX4 := Lib.hid (HX3.out.bel hb4)
  have HB4 := Lib.hid (below_two HB3.out hb4)
  have hIn := hP.in_ HOK.out (grownF_wf s 3 (by decide))
  obtain ⟨_, cs, hBox, hcs⟩ := hP
  obtain ⟨V, hV⟩ : ∃ V, fillV s (grownF s 3) (cnt s) = V := ⟨_, rfl⟩
  rw [hV] at hIn ⊢
  have HBF : Hid (w.heap.size ≤ b) := Lib.hid (by have := HB3.out.size; omega)
  have HAR : Hid (ArrB w4 b cs s.l (mkW s G b V).bs) := Lib.hid ⟨hBox, by simp [mkW], hIn.2.2.2.1.2.2.1, fun c hc k hk => by rw [hcs c hc k hk, ← blkG_cells s G V c]; simp [mkW, List.getD, hc]⟩
  obtain ⟨W, hW⟩ : ∃ W, mkW s G b V = W := ⟨_, rfl⟩
  have HWD : Hid (W = mkW s G b V) := Lib.hid hW.symm
  rw [hW] at hIn HAR ⊢
  have HIN := Lib.hid hIn
  have hbd := HOK.out.bd
  have bl1 : 1 ≤ s.l := hbd.1.1
  have bl2 : s.l ≤ 16 := hbd.1.2
  have HBD := Lib.hid hbd
  clear HG hb4 hfr hIn hBox hcs hV k0 k1 k2 k3 k4 k5 hW hbd
  go_upto_region 5 with (first
    | (refine wpList_store_row (o := ⟨none, .store _ _ _, _, _, _, _⟩) rfl 32 _ _ rfl w4.heap.size W.cells rfl rfl 32 _ (box_new _ _ _) (by kernel_rfl) rfl (wt_one W) ?_))
  generalize hw5 : World.setRow _ _ _ = w5
  have XW5 : Box w5 w4.heap.size 32 W.cells := by rw [← hw5]; exact (box_new _ _ _).setRow
  have hb5 : Below w4.heap.size w4 w5 := by rw [← hw5]; exact below_setRow ((Below.refl _ _).alloc (Nat.le_refl _) _) (Nat.le_refl _) (by simp)
  obtain ⟨n8, hn8⟩ : ∃ n, w4.heap.size = n := ⟨_, rfl⟩
  have HN8 : Hid (w.heap.size ≤ n8 ∧ b < n8) := Lib.hid ⟨by rw [← hn8]; exact HB4.out.size, by rw [← hn8]; exact HAR.out.1.lt⟩
  have HB5 := Lib.hid (below_two HB4.out hb5)
  have HIN5 := Lib.hid (HIN.out.bel hb5)
  have HAR5 : Hid (ArrB w5 b cs s.l W.bs) := Lib.hid (HAR.out.keep (hb5.block b HAR.out.1.lt) (K8.below hb5))
  have HX5 := Lib.hid (HX4.out.bel hb5)
  rw [hn8] at XW5 ⊢
  have HXW := Lib.hid XW5
  clear hw5 hb5 HIN HAR HX4 hn8
  have x9 : w5.cell? ⟨n8, 9, none⟩ = some (.slice (some ⟨b, 0, none⟩) s.l s.l) := by have := XW5.cell 9; rw [HWD.out] at this; exact this
  have k0 : w5.cell? ⟨n7, 0, none⟩ = some (.int .i64 s.l) := HX5.out.cell 0
  clear XW5
  obtain ⟨r, ci, hr, hr1, hr2, hc1, hc2, hci⟩ := rest7 a2 s.l (by omega)
  obtain ⟨r12, kk, hq, hq1, hq2, hk1, hk2, hkk⟩ := rest7 a1 12 (by omega)
  go_upto_region 7 with fail
  have t1 : IntKind.i64.wrap r = r := IntWalk.i64_in _ (by omega)
  have t2 : IntKind.i64.wrap (r + (s.l : Int)) = r + (s.l : Int) := IntWalk.i64_in _ (by omega)
  have t3 : IntKind.i64.wrap (ci : Int) = (ci : Int) := IntWalk.i64_in _ (by omega)
  have t4 : (ci : Int) < (s.l : Int) := by omega
  have t5 : (0 : Int) ≤ (ci : Int) := by omega
  have t6 : ¬ (s.l : Int) = 0 := by omega
  have t7 : ¬ (s.l : Int) = -1 := by omega
  have t8 : ¬ s.l = 0 := by omega
  go_quiet (fail)
  have hb6 : Below w5.heap.size w5 (w5.drewN nq) := below_drewN (Below.refl _ _) _
  obtain ⟨w6, hw6⟩ : ∃ w6, w5.drewN nq = w6 := ⟨_, rfl⟩
  rw [hw6] at hb6 ⊢
  have HB6 := Lib.hid (below_two HB5.out hb6)
  have HIN6 := Lib.hid (HIN5.out.bel hb6)
  have HAR6 : Hid (ArrB w6 b cs s.l W.bs) := Lib.hid (HAR5.out.keep (hb6.block b HAR5.out.1.lt) (K8.below hb6))
  have HXW6 := Lib.hid (HXW.out.bel hb6)
  have HSX : Hid (Six64 W) := Lib.hid HIN6.out.2.2.2.2.2.2
  have HF : Hid (W.l = s.l ∧ W.w = s.w ∧ W.h = s.h ∧ W.i = s.i ∧ W.v = s.v ∧ W.p = s.p) := Lib.hid (by rw [HWD.out]; exact ⟨rfl, rfl, rfl, rfl, rfl, rfl⟩)
  have HF2 : Hid (W.e.n = s.v * s.w ∧ W.hd.r = s.v ∧ W.t.n = s.w ∧ W.bn = s.l ∧ W.bcap = s.l ∧ W.ba = some ⟨b, 0, none⟩) := Lib.hid (by rw [HWD.out]; exact ⟨rfl, rfl, rfl, rfl, rfl, rfl⟩)
  obtain ⟨B, hB⟩ : ∃ B, W.bs.getD ci default = B := ⟨_, rfl⟩
  have HBD2 : Hid (B.x.n = s.w ∧ B.y.n = s.w ∧ B.q.c = s.w ∧ B.o.n = s.w * s.w ∧ B.u.r = s.i ∧ B.d.n = s.w * s.i) := Lib.hid (by
    rw [← hB, HWD.out, show (mkW s G b V).bs.getD ci default = blkG s G V ci by simp [mkW, List.getD, hci]]
    exact ⟨rfl, rfl, rfl, rfl, rfl, rfl⟩)
  have HBI : Hid (B.In w6) := Lib.hid (HAR6.out.2.2.1 B (by rw [← hB, List.getD_eq_getElem?_getD, List.getElem?_eq_getElem (by rw [HAR6.out.2.1]; exact hci)]; exact List.getElem_mem _))
  have HBc : Hid (∀ k, k < 20 → w6.cell? ⟨b, ci * 20 + k, none⟩ = B.cells[k]?) := Lib.hid (fun k hk => by rw [HAR6.out.1.cell, HAR6.out.2.2.2 ci hci k hk, hB])
  have HCI : Hid (ci < s.l ∧ ci < W.bs.length) := Lib.hid ⟨hci, by rw [HAR6.out.2.1]; exact hci⟩
  have HBB := Lib.hid hB
  have q1 : a1.tmod 12 = r12 := by simpa using hq
  have q2 : (r12 + 12).tmod 12 = (kk : Int) := by simpa using hk1
  have q3 : (r12 + 12) % 12 = (kk : Int) := by simpa using hk2
  have q4 : IntKind.i64.wrap r12 = r12 := IntWalk.i64_in _ (by omega)
  have q5 : IntKind.i64.wrap (r12 + 12) = r12 + 12 := IntWalk.i64_in _ (by omega)
  have q6 : IntKind.i64.wrap (kk : Int) = (kk : Int) := IntWalk.i64_in _ (by omega)
  have HMB : Hid ((1 ≤ s.v * s.w ∧ s.v * s.w ≤ 65536) ∧ (1 ≤ s.w * s.w ∧ s.w * s.w ≤ 16384) ∧ (1 ≤ s.w * s.i ∧ s.w * s.i ≤ 32768)) := Lib.hid (by
    obtain ⟨_, _, hw, hi, hv, _⟩ := HBD.out
    have m1 := Nat.mul_le_mul hv.2 hw.2
    have m2 := Nat.mul_le_mul hw.2 hw.2
    have m3 := Nat.mul_le_mul hw.2 hi.2
    have p1 := Nat.mul_pos (show 0 < s.v by omega) (show 0 < s.w by omega)
    have p2 := Nat.mul_pos (show 0 < s.w by omega) (show 0 < s.w by omega)
    have p3 := Nat.mul_pos (show 0 < s.w by omega) (show 0 < s.i by omega)
    omega)
  have hsv := HBD.out.2.2.2.2.1
  have hsw := HBD.out.2.2.1
  have hsi := HBD.out.2.2.2.1
  clear hb6 hw6 t1 t2 t3 t4 t5 t6 t7 t8 hr hr1 hr2 hc1 hc2 x9 k0 hq hq1 hq2 hk1 hk2 HB5 HIN5 HAR5 HXW HX5 hB hi1 hi2 hci
  have hcases : kk = 0 ∨ kk = 1 ∨ kk = 2 ∨ kk = 3 ∨ kk = 4 ∨ kk = 5 ∨ kk = 6 ∨ kk = 7 ∨ kk = 8 ∨ kk = 9 ∨ kk = 10 ∨ kk = 11 := by omega
  rcases hcases with rfl | rfl | rfl | rfl | rfl | rfl | rfl | rfl | rfl | rfl | rfl | rfl
  · have x0 : w6.cell? ⟨n8, 8, none⟩ = some (.slice W.e.a W.e.n W.e.cap) := HXW6.out.cell 8
    go_wp2_with fail
    refine (less7 ⟨W.e.a, W.e.n, W.e.cap, W.e.v⟩ w6 ⟨HIN6.out.1.1, HIN6.out.1.2.1, HIN6.out.1.2.2.1, HIN6.out.1.2.2.2.1⟩ (by show 1 ≤ W.e.n; have := HF2.out.1; have := HMB.out; omega) (by show W.e.n ≤ _; have := HF2.out.1; have := HMB.out; omega)).mono ?_
    rintro e w7 ⟨g, rfl, hg, hgn, hb7⟩
    obtain ⟨ga, gn, gcap, gv⟩ := g
    simp only at hgn
    have HGN := Lib.hid hgn
    clear hgn
    have HB7 := Lib.hid (below_two HB6.out hb7)
    have K7 := K8.below hb7
    have X7 := HXW6.out.bel hb7
    have A7 := HAR6.out.keep (hb7.block b HAR6.out.1.lt) K7
    have f7 : w7.frozen? ⟨n8, 8, none⟩ = false := X7.frozen 8
    have c7 : w7.cell? ⟨n8, 8, none⟩ = some (.slice W.e.a W.e.n W.e.cap) := X7.cell 8
    have K9 : K8 w7 (w7.setCell ⟨n8, 8, none⟩ (.slice ga gn gcap)) := K8.set c7 (fun z e => by cases e)
    have XZ : Hid (Box (w7.setCell ⟨n8, 8, none⟩ (.slice ga gn gcap)) n8 32 ({ W with e := ⟨W.e.r, W.e.c, ga, gn, gcap, gv⟩ } : Wt7).cells) := Lib.hid (X7.set 8 _)
    have A9 := A7.keep (w' := w7.setCell ⟨n8, 8, none⟩ (.slice ga gn gcap)) (heap_setCell_other w7 ⟨n8, 8, none⟩ b (.slice ga gn gcap) (by show b ≠ n8; have := HN8.out; omega)) K9
    have HIZ : Hid (({ W with e := ⟨W.e.r, W.e.c, ga, gn, gcap, gv⟩ } : Wt7).In (w7.setCell ⟨n8, 8, none⟩ (.slice ga gn gcap))) := Lib.hid (wt_in ⟨elems_k8 hg.1 K9, hg.2.1, hg.2.2.1, hg.2.2.2, HIN6.out.1.2.2.2.2⟩ (gr_k8 (gr_k8 HIN6.out.2.1 K7) K9) (rw_k8 (rw_k8 HIN6.out.2.2.1 K7) K9) (by have h := HF2.out; show BksAt _ W.ba W.bn W.bs; rw [h.2.2.2.2.2, h.2.2.2.1]; exact A9.bks (by omega)) HIN6.out.2.2.2.2.1 HIN6.out.2.2.2.2.2.1 HSX.out)
    have HNO : Hid (wholeB ({ W with e := ⟨W.e.r, W.e.c, ga, gn, gcap, gv⟩ } : Wt7) = false) := Lib.hid (wt_no HOK.out HF.out (.inl (mat_no (.inr (.inr (by show gn ≠ _; have h := HF2.out.1; have := HMB.out; have := HGN.out; omega))))))
    have HBZ : Hid (Below w.heap.size w (w7.setCell ⟨n8, 8, none⟩ (.slice ga gn gcap))) := Lib.hid (HB7.out.setCell (p := ⟨n8, 8, none⟩) (by show w.heap.size ≤ n8; exact HN8.out.1) _)
    clear x0
    go_upto_region 34 with fail
    clear q1 q2 q3 q4 q5 q6
    have XZ0 := XZ.out
    go_wp2_with (refine wpList_load_row rfl 32 _ rfl n8 rfl 32 _ (0, 0) _ XZ0 Try.underlying32 rfl (by kernel_rfl) ?_)
    refine (file_no _ _ HIZ.out HNO.out).mono ?_
    rintro e wf ⟨rfl, hbf⟩
    have HIF := Lib.hid (HIZ.out.bel hbf)
    have XF := XZ.out.bel hbf
    have HBF2 := Lib.hid (below_two HBZ.out hbf)
    have HXF := Lib.hid XF
    have hC := fun T => code_no (T := T) HIF.out HNO.out
    simp only [Wt7.cells] at XF hC
    clear XZ0 hbf
    go_wp2_with (refine wpList_load_row rfl 32 _ rfl n8 rfl 32 _ (0, 0) _ XF Try.underlying32 rfl (by kernel_rfl) ?_)
    refine (hC _).mono ?_
    rintro e wg ⟨rfl, hbg⟩
    have HIG := Lib.hid (HIF.out.bel hbg)
    have XG := HXF.out.bel hbg
    have HBG := Lib.hid (below_two HBF2.out hbg)
    clear XF hbg hC
    obtain ⟨y0, y1, y2, y3, y4, y5, y6, y7, y8, y9, y10, y11, y12, y13⟩ := box_wt XG
    simp only at y0 y1 y2 y3 y4 y5 y6 y7 y8 y9 y10 y11 y12 y13
    go_wp2_with fail
    have hD := doc_wholeB _ _ HIG.out
    rw [HNO.out] at hD
    simp only [Wt7.cells] at hD
    refine hD.mono ?_
    rintro e wh ⟨rfl, hbh⟩
    have HBH := Lib.hid (below_two HBG.out hbh)
    clear hbh hD XG
    go_wp2_with fail
    go_ret
    exact ⟨rfl, HBH.out⟩
  · have HB7 := HB6
    have K7 : K8 w6 w6 := fun _ _ h => h
    have X7 := HXW6.out
    have A7 := HAR6.out
    have f7 : w6.frozen? ⟨n8, 11, none⟩ = false := X7.frozen 11
    have c7 : w6.cell? ⟨n8, 11, none⟩ = some (.int .i64 (s.v : Int)) := (X7.cell 11).trans (by rw [← HF2.out.2.1]; rfl)
    have K9 : K8 w6 (w6.setCell ⟨n8, 11, none⟩ (.int .i64 ((s.v : Int) + 1))) := K8.set c7 (fun z e => by cases e)
    have XZ : Hid (Box (w6.setCell ⟨n8, 11, none⟩ (.int .i64 ((s.v : Int) + 1))) n8 32 ({ W with hd := ⟨(s.v : Int) + 1, W.hd.c, W.hd.a, W.hd.n, W.hd.cap, W.hd.v⟩ } : Wt7).cells) := Lib.hid (X7.set 11 _)
    have A9 := A7.keep (w' := w6.setCell ⟨n8, 11, none⟩ (.int .i64 ((s.v : Int) + 1))) (heap_setCell_other w6 ⟨n8, 11, none⟩ b (.int .i64 ((s.v : Int) + 1)) (by show b ≠ n8; have := HN8.out; omega)) K9
    have HIZ : Hid (({ W with hd := ⟨(s.v : Int) + 1, W.hd.c, W.hd.a, W.hd.n, W.hd.cap, W.hd.v⟩ } : Wt7).In (w6.setCell ⟨n8, 11, none⟩ (.int .i64 ((s.v : Int) + 1)))) := Lib.hid (wt_in (gr_k8 (gr_k8 HIN6.out.1 K7) K9) ⟨elems_k8 HIN6.out.2.1.1 K9, HIN6.out.2.1.2.1, HIN6.out.2.1.2.2.1, HIN6.out.2.1.2.2.2.1, by show _ ≤ (s.v : Int) + 1; omega, by show (s.v : Int) + 1 ≤ _; omega, HIN6.out.2.1.2.2.2.2.2.2⟩ (rw_k8 (rw_k8 HIN6.out.2.2.1 K7) K9) (by have h := HF2.out; show BksAt _ W.ba W.bn W.bs; rw [h.2.2.2.2.2, h.2.2.2.1]; exact A9.bks (by omega)) HIN6.out.2.2.2.2.1 HIN6.out.2.2.2.2.2.1 HSX.out)
    have HNO : Hid (wholeB ({ W with hd := ⟨(s.v : Int) + 1, W.hd.c, W.hd.a, W.hd.n, W.hd.cap, W.hd.v⟩ } : Wt7) = false) := Lib.hid (wt_no HOK.out HF.out (.inr (.inl (mat_no (.inl (by show (s.v : Int) + 1 ≠ (s.v : Int); omega))))))
    have HBZ : Hid (Below w.heap.size w (w6.setCell ⟨n8, 11, none⟩ (.int .i64 ((s.v : Int) + 1)))) := Lib.hid (HB7.out.setCell (p := ⟨n8, 11, none⟩) (by show w.heap.size ≤ n8; exact HN8.out.1) _)
    have u1 : IntKind.i64.wrap ((s.v : Int) + 1) = (s.v : Int) + 1 := IntWalk.i64_in _ (by omega)
    go_upto_region 34 with fail
    clear q1 q2 q3 q4 q5 q6
    have XZ0 := XZ.out
    go_wp2_with (refine wpList_load_row rfl 32 _ rfl n8 rfl 32 _ (0, 0) _ XZ0 Try.underlying32 rfl (by kernel_rfl) ?_)
    refine (file_no _ _ HIZ.out HNO.out).mono ?_
    rintro e wf ⟨rfl, hbf⟩
    have HIF := Lib.hid (HIZ.out.bel hbf)
    have XF := XZ.out.bel hbf
    have HBF2 := Lib.hid (below_two HBZ.out hbf)
    have HXF := Lib.hid XF
    have hC := fun T => code_no (T := T) HIF.out HNO.out
    simp only [Wt7.cells] at XF hC
    clear XZ0 hbf
    go_wp2_with (refine wpList_load_row rfl 32 _ rfl n8 rfl 32 _ (0, 0) _ XF Try.underlying32 rfl (by kernel_rfl) ?_)
    refine (hC _).mono ?_
    rintro e wg ⟨rfl, hbg⟩
    have HIG := Lib.hid (HIF.out.bel hbg)
    have XG := HXF.out.bel hbg
    have HBG := Lib.hid (below_two HBF2.out hbg)
    clear XF hbg hC
    obtain ⟨y0, y1, y2, y3, y4, y5, y6, y7, y8, y9, y10, y11, y12, y13⟩ := box_wt XG
    simp only at y0 y1 y2 y3 y4 y5 y6 y7 y8 y9 y10 y11 y12 y13
    go_wp2_with fail
    have hD := doc_wholeB _ _ HIG.out
    rw [HNO.out] at hD
    simp only [Wt7.cells] at hD
    refine hD.mono ?_
    rintro e wh ⟨rfl, hbh⟩
    have HBH := Lib.hid (below_two HBG.out hbh)
    clear hbh hD XG
    go_wp2_with fail
    go_ret
    exact ⟨rfl, HBH.out⟩
  · have x0 : w6.cell? ⟨n8, 10, none⟩ = some (.slice W.t.a W.t.n W.t.cap) := HXW6.out.cell 10
    go_wp2_with fail
    refine (less7 W.t w6 HIN6.out.2.2.1 (by show 1 ≤ W.t.n; have := HF2.out.2.2.1; have := HMB.out; omega) (by show W.t.n ≤ _; have := HF2.out.2.2.1; have := HMB.out; omega)).mono ?_
    rintro e w7 ⟨g, rfl, hg, hgn, hb7⟩
    obtain ⟨ga, gn, gcap, gv⟩ := g
    simp only at hgn
    have HGN := Lib.hid hgn
    clear hgn
    have HB7 := Lib.hid (below_two HB6.out hb7)
    have K7 := K8.below hb7
    have X7 := HXW6.out.bel hb7
    have A7 := HAR6.out.keep (hb7.block b HAR6.out.1.lt) K7
    have f7 : w7.frozen? ⟨n8, 10, none⟩ = false := X7.frozen 10
    have c7 : w7.cell? ⟨n8, 10, none⟩ = some (.slice W.t.a W.t.n W.t.cap) := X7.cell 10
    have K9 : K8 w7 (w7.setCell ⟨n8, 10, none⟩ (.slice ga gn gcap)) := K8.set c7 (fun z e => by cases e)
    have XZ : Hid (Box (w7.setCell ⟨n8, 10, none⟩ (.slice ga gn gcap)) n8 32 ({ W with t := ⟨ga, gn, gcap, gv⟩ } : Wt7).cells) := Lib.hid (X7.set 10 _)
    have A9 := A7.keep (w' := w7.setCell ⟨n8, 10, none⟩ (.slice ga gn gcap)) (heap_setCell_other w7 ⟨n8, 10, none⟩ b (.slice ga gn gcap) (by show b ≠ n8; have := HN8.out; omega)) K9
    have HIZ : Hid (({ W with t := ⟨ga, gn, gcap, gv⟩ } : Wt7).In (w7.setCell ⟨n8, 10, none⟩ (.slice ga gn gcap))) := Lib.hid (wt_in (gr_k8 (gr_k8 HIN6.out.1 K7) K9) (gr_k8 (gr_k8 HIN6.out.2.1 K7) K9) (rw_k8 hg K9) (by have h := HF2.out; show BksAt _ W.ba W.bn W.bs; rw [h.2.2.2.2.2, h.2.2.2.1]; exact A9.bks (by omega)) HIN6.out.2.2.2.2.1 HIN6.out.2.2.2.2.2.1 HSX.out)
    have HNO : Hid (wholeB ({ W with t := ⟨ga, gn, gcap, gv⟩ } : Wt7) = false) := Lib.hid (wt_no HOK.out HF.out (.inr (.inr (.inl (by show gn ≠ _; have h := HF2.out.2.2.1; have := HGN.out; omega)))))
    have HBZ : Hid (Below w.heap.size w (w7.setCell ⟨n8, 10, none⟩ (.slice ga gn gcap))) := Lib.hid (HB7.out.setCell (p := ⟨n8, 10, none⟩) (by show w.heap.size ≤ n8; exact HN8.out.1) _)
    clear x0
    go_upto_region 34 with fail
    clear q1 q2 q3 q4 q5 q6
    have XZ0 := XZ.out
    go_wp2_with (refine wpList_load_row rfl 32 _ rfl n8 rfl 32 _ (0, 0) _ XZ0 Try.underlying32 rfl (by kernel_rfl) ?_)
    refine (file_no _ _ HIZ.out HNO.out).mono ?_
    rintro e wf ⟨rfl, hbf⟩
    have HIF := Lib.hid (HIZ.out.bel hbf)
    have XF := XZ.out.bel hbf
    have HBF2 := Lib.hid (below_two HBZ.out hbf)
    have HXF := Lib.hid XF
    have hC := fun T => code_no (T := T) HIF.out HNO.out
    simp only [Wt7.cells] at XF hC
    clear XZ0 hbf
    go_wp2_with (refine wpList_load_row rfl 32 _ rfl n8 rfl 32 _ (0, 0) _ XF Try.underlying32 rfl (by kernel_rfl) ?_)
    refine (hC _).mono ?_
    rintro e wg ⟨rfl, hbg⟩
    have HIG := Lib.hid (HIF.out.bel hbg)
    have XG := HXF.out.bel hbg
    have HBG := Lib.hid (below_two HBF2.out hbg)
    clear XF hbg hC
    obtain ⟨y0, y1, y2, y3, y4, y5, y6, y7, y8, y9, y10, y11, y12, y13⟩ := box_wt XG
    simp only at y0 y1 y2 y3 y4 y5 y6 y7 y8 y9 y10 y11 y12 y13
    go_wp2_with fail
    have hD := doc_wholeB _ _ HIG.out
    rw [HNO.out] at hD
    simp only [Wt7.cells] at hD
    refine hD.mono ?_
    rintro e wh ⟨rfl, hbh⟩
    have HBH := Lib.hid (below_two HBG.out hbh)
    clear hbh hD XG
    go_wp2_with fail
    go_ret
    exact ⟨rfl, HBH.out⟩
  · by_cases hl1 : s.l = 1
    · have HB7 := HB6
      have K7 : K8 w6 w6 := fun _ _ h => h
      have X7 := HXW6.out
      have A7 := HAR6.out
      have f7 : w6.frozen? ⟨n8, 9, none⟩ = false := X7.frozen 9
      have c7 : w6.cell? ⟨n8, 9, none⟩ = some (.slice (some ⟨b, 0, none⟩) s.l s.l) := (X7.cell 9).trans (by have h := HF2.out; show some (Value.slice W.ba W.bn W.bcap) = _; rw [h.2.2.2.2.2, h.2.2.2.2.1, h.2.2.2.1])
      have K9 : K8 w6 (w6.setCell ⟨n8, 9, none⟩ (.slice (some ⟨b, 0, none⟩) 0 0)) := K8.set c7 (fun z e => by cases e)
      have XZ : Hid (Box (w6.setCell ⟨n8, 9, none⟩ (.slice (some ⟨b, 0, none⟩) 0 0)) n8 32 ({ W with ba := some ⟨b, 0, none⟩, bn := 0, bcap := 0, bs := [] } : Wt7).cells) := Lib.hid (X7.set 9 _)
      have A9 := A7.keep (w' := w6.setCell ⟨n8, 9, none⟩ (.slice (some ⟨b, 0, none⟩) 0 0)) (heap_setCell_other w6 ⟨n8, 9, none⟩ b (.slice (some ⟨b, 0, none⟩) 0 0) (by show b ≠ n8; have := HN8.out; omega)) K9
      have HIZ : Hid (({ W with ba := some ⟨b, 0, none⟩, bn := 0, bcap := 0, bs := [] } : Wt7).In (w6.setCell ⟨n8, 9, none⟩ (.slice (some ⟨b, 0, none⟩) 0 0))) := Lib.hid (wt_in (gr_k8 (gr_k8 HIN6.out.1 K7) K9) (gr_k8 (gr_k8 HIN6.out.2.1 K7) K9) (rw_k8 (rw_k8 HIN6.out.2.2.1 K7) K9) ⟨rfl, by show 0 ≤ _; omega, fun _ h => by simp at h, fun h => absurd h (by show ¬ 0 < 0; omega)⟩ (by show 0 ≤ 0; omega) (by show 0 ≤ _; omega) HSX.out)
      have HNO : Hid (wholeB ({ W with ba := some ⟨b, 0, none⟩, bn := 0, bcap := 0, bs := [] } : Wt7) = false) := Lib.hid (wt_no HOK.out HF.out (.inr (.inr (.inr (.inl (by show 0 ≠ s.l; omega))))))
      have HBZ : Hid (Below w.heap.size w (w6.setCell ⟨n8, 9, none⟩ (.slice (some ⟨b, 0, none⟩) 0 0))) := Lib.hid (HB7.out.setCell (p := ⟨n8, 9, none⟩) (by show w.heap.size ≤ n8; exact HN8.out.1) _)
      have u1 : (1 : Int) ≤ (s.l : Int) := by omega
      have u2 : s.l - 1 = 0 := by omega
      go_upto_region 34 with fail
      clear q1 q2 q3 q4 q5 q6
      have XZ0 := XZ.out
      go_wp2_with (refine wpList_load_row rfl 32 _ rfl n8 rfl 32 _ (0, 0) _ XZ0 Try.underlying32 rfl (by kernel_rfl) ?_)
      refine (file_no _ _ HIZ.out HNO.out).mono ?_
      rintro e wf ⟨rfl, hbf⟩
      have HIF := Lib.hid (HIZ.out.bel hbf)
      have XF := XZ.out.bel hbf
      have HBF2 := Lib.hid (below_two HBZ.out hbf)
      have HXF := Lib.hid XF
      have hC := fun T => code_no (T := T) HIF.out HNO.out
      simp only [Wt7.cells] at XF hC
      clear XZ0 hbf
      go_wp2_with (refine wpList_load_row rfl 32 _ rfl n8 rfl 32 _ (0, 0) _ XF Try.underlying32 rfl (by kernel_rfl) ?_)
      refine (hC _).mono ?_
      rintro e wg ⟨rfl, hbg⟩
      have HIG := Lib.hid (HIF.out.bel hbg)
      have XG := HXF.out.bel hbg
      have HBG := Lib.hid (below_two HBF2.out hbg)
      clear XF hbg hC
      obtain ⟨y0, y1, y2, y3, y4, y5, y6, y7, y8, y9, y10, y11, y12, y13⟩ := box_wt XG
      simp only at y0 y1 y2 y3 y4 y5 y6 y7 y8 y9 y10 y11 y12 y13
      go_wp2_with fail
      have hD := doc_wholeB _ _ HIG.out
      rw [HNO.out] at hD
      simp only [Wt7.cells] at hD
      refine hD.mono ?_
      rintro e wh ⟨rfl, hbh⟩
      have HBH := Lib.hid (below_two HBG.out hbh)
      clear hbh hD XG
      go_wp2_with fail
      go_ret
      exact ⟨rfl, HBH.out⟩
    · have HB7 := HB6
      have K7 : K8 w6 w6 := fun _ _ h => h
      have X7 := HXW6.out
      have A7 := HAR6.out
      have f7 : w6.frozen? ⟨n8, 9, none⟩ = false := X7.frozen 9
      have c7 : w6.cell? ⟨n8, 9, none⟩ = some (.slice (some ⟨b, 0, none⟩) s.l s.l) := (X7.cell 9).trans (by have h := HF2.out; show some (Value.slice W.ba W.bn W.bcap) = _; rw [h.2.2.2.2.2, h.2.2.2.2.1, h.2.2.2.1])
      have K9 : K8 w6 (w6.setCell ⟨n8, 9, none⟩ (.slice (some ⟨b, 20, none⟩) (s.l - 1) (s.l - 1))) := K8.set c7 (fun z e => by cases e)
      have XZ : Hid (Box (w6.setCell ⟨n8, 9, none⟩ (.slice (some ⟨b, 20, none⟩) (s.l - 1) (s.l - 1))) n8 32 ({ W with ba := some ⟨b, 20, none⟩, bn := s.l - 1, bcap := s.l - 1, bs := W.bs.drop 1 } : Wt7).cells) := Lib.hid (X7.set 9 _)
      have A9 := A7.keep (w' := w6.setCell ⟨n8, 9, none⟩ (.slice (some ⟨b, 20, none⟩) (s.l - 1) (s.l - 1))) (heap_setCell_other w6 ⟨n8, 9, none⟩ b (.slice (some ⟨b, 20, none⟩) (s.l - 1) (s.l - 1)) (by show b ≠ n8; have := HN8.out; omega)) K9
      have HIZ : Hid (({ W with ba := some ⟨b, 20, none⟩, bn := s.l - 1, bcap := s.l - 1, bs := W.bs.drop 1 } : Wt7).In (w6.setCell ⟨n8, 9, none⟩ (.slice (some ⟨b, 20, none⟩) (s.l - 1) (s.l - 1)))) := Lib.hid (wt_in (gr_k8 (gr_k8 HIN6.out.1 K7) K9) (gr_k8 (gr_k8 HIN6.out.2.1 K7) K9) (rw_k8 (rw_k8 HIN6.out.2.2.1 K7) K9) (A9.bks1 (by omega) _ (fun _ => rfl)) (by show s.l - 1 ≤ s.l - 1; omega) (by show s.l - 1 ≤ _; omega) HSX.out)
      have HNO : Hid (wholeB ({ W with ba := some ⟨b, 20, none⟩, bn := s.l - 1, bcap := s.l - 1, bs := W.bs.drop 1 } : Wt7) = false) := Lib.hid (wt_no HOK.out HF.out (.inr (.inr (.inr (.inl (by show s.l - 1 ≠ s.l; omega))))))
      have HBZ : Hid (Below w.heap.size w (w6.setCell ⟨n8, 9, none⟩ (.slice (some ⟨b, 20, none⟩) (s.l - 1) (s.l - 1)))) := Lib.hid (HB7.out.setCell (p := ⟨n8, 9, none⟩) (by show w.heap.size ≤ n8; exact HN8.out.1) _)
      have u1 : (1 : Int) ≤ (s.l : Int) := by omega
      have u2 : ¬ 1 = s.l := by omega
      have u3 : 1 ≤ s.l := by omega
      go_upto_region 34 with fail
      clear q1 q2 q3 q4 q5 q6
      have XZ0 := XZ.out
      go_wp2_with (refine wpList_load_row rfl 32 _ rfl n8 rfl 32 _ (0, 0) _ XZ0 Try.underlying32 rfl (by kernel_rfl) ?_)
      refine (file_no _ _ HIZ.out HNO.out).mono ?_
      rintro e wf ⟨rfl, hbf⟩
      have HIF := Lib.hid (HIZ.out.bel hbf)
      have XF := XZ.out.bel hbf
      have HBF2 := Lib.hid (below_two HBZ.out hbf)
      have HXF := Lib.hid XF
      have hC := fun T => code_no (T := T) HIF.out HNO.out
      simp only [Wt7.cells] at XF hC
      clear XZ0 hbf
      go_wp2_with (refine wpList_load_row rfl 32 _ rfl n8 rfl 32 _ (0, 0) _ XF Try.underlying32 rfl (by kernel_rfl) ?_)
      refine (hC _).mono ?_
      rintro e wg ⟨rfl, hbg⟩
      have HIG := Lib.hid (HIF.out.bel hbg)
      have XG := HXF.out.bel hbg
      have HBG := Lib.hid (below_two HBF2.out hbg)
      clear XF hbg hC
      obtain ⟨y0, y1, y2, y3, y4, y5, y6, y7, y8, y9, y10, y11, y12, y13⟩ := box_wt XG
      simp only at y0 y1 y2 y3 y4 y5 y6 y7 y8 y9 y10 y11 y12 y13
      go_wp2_with fail
      have hD := doc_wholeB _ _ HIG.out
      rw [HNO.out] at hD
      simp only [Wt7.cells] at hD
      refine hD.mono ?_
      rintro e wh ⟨rfl, hbh⟩
      have HBH := Lib.hid (below_two HBG.out hbh)
      clear hbh hD XG
      go_wp2_with fail
      go_ret
      exact ⟨rfl, HBH.out⟩
  · have x0 : w6.cell? ⟨b, ci * 20, none⟩ = some (.slice B.x.a B.x.n B.x.cap) := HBc.out 0 (by omega)
    go_wp2_with fail
    refine (less7 B.x w6 HBI.out.1 (by show 1 ≤ B.x.n; have := HBD2.out.1; have := HMB.out; omega) (by show B.x.n ≤ _; have := HBD2.out.1; have := HMB.out; omega)).mono ?_
    rintro e w7 ⟨g, rfl, hg, hgn, hb7⟩
    obtain ⟨ga, gn, gcap, gv⟩ := g
    simp only at hgn
    have HGN := Lib.hid hgn
    clear hgn
    have HB7 := Lib.hid (below_two HB6.out hb7)
    have K7 := K8.below hb7
    have X7 := HXW6.out.bel hb7
    have A7 := HAR6.out.keep (hb7.block b HAR6.out.1.lt) K7
    have f7 : w7.frozen? ⟨b, ci * 20, none⟩ = false := A7.1.frozen _
    have c7 : w7.cell? ⟨b, ci * 20, none⟩ = some (.slice B.x.a B.x.n B.x.cap) := (A7.1.cell (ci * 20 + 0)).trans (by rw [A7.2.2.2 ci HCI.out.1 0 (by omega), HBB.out]; rfl)
    have K9 : K8 w7 (w7.setCell ⟨b, ci * 20, none⟩ (.slice ga gn gcap)) := K8.set c7 (fun z e => by cases e)
    have A9 : ArrB (w7.setCell ⟨b, ci * 20, none⟩ (.slice ga gn gcap)) b _ s.l (W.bs.set ci ({ B with x := ⟨ga, gn, gcap, gv⟩ })) := (A7.set HCI.out.1 (show 0 < 20 by omega) (.slice ga gn gcap) ({ B with x := ⟨ga, gn, gcap, gv⟩ }) (fun z e => by rw [HBB.out] at e; simp [Bk7.cells] at e) (⟨rw_k8 hg K9, rw_k8 (rw_k8 (HBI.out.2.1) K7) K9, gr_k8 (gr_k8 (HBI.out.2.2.1) K7) K9, gr_k8 (gr_k8 (HBI.out.2.2.2.1) K7) K9, gr_k8 (gr_k8 (HBI.out.2.2.2.2.1) K7) K9, gr_k8 (gr_k8 (HBI.out.2.2.2.2.2.1) K7) K9, gr_k8 (gr_k8 (HBI.out.2.2.2.2.2.2.1) K7) K9, gr_k8 (gr_k8 (HBI.out.2.2.2.2.2.2.2) K7) K9⟩) (
      fun k' hk' => by
        rw [HBB.out]
        exact match k', hk' with
        | 0, _ => rfl
        | 1, _ => rfl
        | 2, _ => rfl
        | 3, _ => rfl
        | 4, _ => rfl
        | 5, _ => rfl
        | 6, _ => rfl
        | 7, _ => rfl
        | 8, _ => rfl
        | 9, _ => rfl
        | 10, _ => rfl
        | 11, _ => rfl
        | 12, _ => rfl
        | 13, _ => rfl
        | 14, _ => rfl
        | 15, _ => rfl
        | 16, _ => rfl
        | 17, _ => rfl
        | 18, _ => rfl
        | 19, _ => rfl
        | n + 20, h => absurd h (by omega))).1
    have XZ : Hid (Box (w7.setCell ⟨b, ci * 20, none⟩ (.slice ga gn gcap)) n8 32 ({ W with bs := W.bs.set ci ({ B with x := ⟨ga, gn, gcap, gv⟩ }) } : Wt7).cells) := Lib.hid (X7.other _ (by have := HN8.out; omega))
    have HIZ : Hid (({ W with bs := W.bs.set ci ({ B with x := ⟨ga, gn, gcap, gv⟩ }) } : Wt7).In (w7.setCell ⟨b, ci * 20, none⟩ (.slice ga gn gcap))) := Lib.hid (wt_in (gr_k8 (gr_k8 HIN6.out.1 K7) K9) (gr_k8 (gr_k8 HIN6.out.2.1 K7) K9) (rw_k8 (rw_k8 HIN6.out.2.2.1 K7) K9) (by have h := HF2.out; show BksAt _ W.ba W.bn _; rw [h.2.2.2.2.2, h.2.2.2.1]; exact A9.bks (by omega)) HIN6.out.2.2.2.2.1 HIN6.out.2.2.2.2.2.1 HSX.out)
    have HNO : Hid (wholeB ({ W with bs := W.bs.set ci ({ B with x := ⟨ga, gn, gcap, gv⟩ }) } : Wt7) = false) := Lib.hid (wt_no HOK.out HF.out (.inr (.inr (.inr (.inr ⟨{ B with x := ⟨ga, gn, gcap, gv⟩ }, List.mem_set HCI.out.2 _, by
      unfold bkB; rw [decide_eq_false (show ¬ gn = s.w by have := HGN.out; have := HBD2.out; have := HMB.out; omega)]; rfl⟩)))))
    have HBZ : Hid (Below w.heap.size w (w7.setCell ⟨b, ci * 20, none⟩ (.slice ga gn gcap))) := Lib.hid (HB7.out.setCell (p := ⟨b, ci * 20, none⟩) (by show w.heap.size ≤ b; exact HBF.out) _)
    clear x0
    go_upto_region 34 with fail
    clear q1 q2 q3 q4 q5 q6
    have XZ0 := XZ.out
    go_wp2_with (refine wpList_load_row rfl 32 _ rfl n8 rfl 32 _ (0, 0) _ XZ0 Try.underlying32 rfl (by kernel_rfl) ?_)
    refine (file_no _ _ HIZ.out HNO.out).mono ?_
    rintro e wf ⟨rfl, hbf⟩
    have HIF := Lib.hid (HIZ.out.bel hbf)
    have XF := XZ.out.bel hbf
    have HBF2 := Lib.hid (below_two HBZ.out hbf)
    have HXF := Lib.hid XF
    have hC := fun T => code_no (T := T) HIF.out HNO.out
    simp only [Wt7.cells] at XF hC
    clear XZ0 hbf
    go_wp2_with (refine wpList_load_row rfl 32 _ rfl n8 rfl 32 _ (0, 0) _ XF Try.underlying32 rfl (by kernel_rfl) ?_)
    refine (hC _).mono ?_
    rintro e wg ⟨rfl, hbg⟩
    have HIG := Lib.hid (HIF.out.bel hbg)
    have XG := HXF.out.bel hbg
    have HBG := Lib.hid (below_two HBF2.out hbg)
    clear XF hbg hC
    obtain ⟨y0, y1, y2, y3, y4, y5, y6, y7, y8, y9, y10, y11, y12, y13⟩ := box_wt XG
    simp only at y0 y1 y2 y3 y4 y5 y6 y7 y8 y9 y10 y11 y12 y13
    go_wp2_with fail
    have hD := doc_wholeB _ _ HIG.out
    rw [HNO.out] at hD
    simp only [Wt7.cells] at hD
    refine hD.mono ?_
    rintro e wh ⟨rfl, hbh⟩
    have HBH := Lib.hid (below_two HBG.out hbh)
    clear hbh hD XG
    go_wp2_with fail
    go_ret
    exact ⟨rfl, HBH.out⟩
  · have x0 : w6.cell? ⟨b, ci * 20 + 1, none⟩ = some (.slice B.y.a B.y.n B.y.cap) := HBc.out 1 (by omega)
    go_wp2_with fail
    refine (less7 B.y w6 HBI.out.2.1 (by show 1 ≤ B.y.n; have := HBD2.out.2.1; have := HMB.out; omega) (by show B.y.n ≤ _; have := HBD2.out.2.1; have := HMB.out; omega)).mono ?_
    rintro e w7 ⟨g, rfl, hg, hgn, hb7⟩
    obtain ⟨ga, gn, gcap, gv⟩ := g
    simp only at hgn
    have HGN := Lib.hid hgn
    clear hgn
    have HB7 := Lib.hid (below_two HB6.out hb7)
    have K7 := K8.below hb7
    have X7 := HXW6.out.bel hb7
    have A7 := HAR6.out.keep (hb7.block b HAR6.out.1.lt) K7
    have f7 : w7.frozen? ⟨b, ci * 20 + 1, none⟩ = false := A7.1.frozen _
    have c7 : w7.cell? ⟨b, ci * 20 + 1, none⟩ = some (.slice B.y.a B.y.n B.y.cap) := (A7.1.cell (ci * 20 + 1)).trans (by rw [A7.2.2.2 ci HCI.out.1 1 (by omega), HBB.out]; rfl)
    have K9 : K8 w7 (w7.setCell ⟨b, ci * 20 + 1, none⟩ (.slice ga gn gcap)) := K8.set c7 (fun z e => by cases e)
    have A9 : ArrB (w7.setCell ⟨b, ci * 20 + 1, none⟩ (.slice ga gn gcap)) b _ s.l (W.bs.set ci ({ B with y := ⟨ga, gn, gcap, gv⟩ })) := (A7.set HCI.out.1 (show 1 < 20 by omega) (.slice ga gn gcap) ({ B with y := ⟨ga, gn, gcap, gv⟩ }) (fun z e => by rw [HBB.out] at e; simp [Bk7.cells] at e) (⟨rw_k8 (rw_k8 (HBI.out.1) K7) K9, rw_k8 hg K9, gr_k8 (gr_k8 (HBI.out.2.2.1) K7) K9, gr_k8 (gr_k8 (HBI.out.2.2.2.1) K7) K9, gr_k8 (gr_k8 (HBI.out.2.2.2.2.1) K7) K9, gr_k8 (gr_k8 (HBI.out.2.2.2.2.2.1) K7) K9, gr_k8 (gr_k8 (HBI.out.2.2.2.2.2.2.1) K7) K9, gr_k8 (gr_k8 (HBI.out.2.2.2.2.2.2.2) K7) K9⟩) (
      fun k' hk' => by
        rw [HBB.out]
        exact match k', hk' with
        | 0, _ => rfl
        | 1, _ => rfl
        | 2, _ => rfl
        | 3, _ => rfl
        | 4, _ => rfl
        | 5, _ => rfl
        | 6, _ => rfl
        | 7, _ => rfl
        | 8, _ => rfl
        | 9, _ => rfl
        | 10, _ => rfl
        | 11, _ => rfl
        | 12, _ => rfl
        | 13, _ => rfl
        | 14, _ => rfl
        | 15, _ => rfl
        | 16, _ => rfl
        | 17, _ => rfl
        | 18, _ => rfl
        | 19, _ => rfl
        | n + 20, h => absurd h (by omega))).1
    have XZ : Hid (Box (w7.setCell ⟨b, ci * 20 + 1, none⟩ (.slice ga gn gcap)) n8 32 ({ W with bs := W.bs.set ci ({ B with y := ⟨ga, gn, gcap, gv⟩ }) } : Wt7).cells) := Lib.hid (X7.other _ (by have := HN8.out; omega))
    have HIZ : Hid (({ W with bs := W.bs.set ci ({ B with y := ⟨ga, gn, gcap, gv⟩ }) } : Wt7).In (w7.setCell ⟨b, ci * 20 + 1, none⟩ (.slice ga gn gcap))) := Lib.hid (wt_in (gr_k8 (gr_k8 HIN6.out.1 K7) K9) (gr_k8 (gr_k8 HIN6.out.2.1 K7) K9) (rw_k8 (rw_k8 HIN6.out.2.2.1 K7) K9) (by have h := HF2.out; show BksAt _ W.ba W.bn _; rw [h.2.2.2.2.2, h.2.2.2.1]; exact A9.bks (by omega)) HIN6.out.2.2.2.2.1 HIN6.out.2.2.2.2.2.1 HSX.out)
    have HNO : Hid (wholeB ({ W with bs := W.bs.set ci ({ B with y := ⟨ga, gn, gcap, gv⟩ }) } : Wt7) = false) := Lib.hid (wt_no HOK.out HF.out (.inr (.inr (.inr (.inr ⟨{ B with y := ⟨ga, gn, gcap, gv⟩ }, List.mem_set HCI.out.2 _, by
      unfold bkB; rw [decide_eq_false (show ¬ gn = s.w by have := HGN.out; have := HBD2.out; have := HMB.out; omega)]; simp⟩)))))
    have HBZ : Hid (Below w.heap.size w (w7.setCell ⟨b, ci * 20 + 1, none⟩ (.slice ga gn gcap))) := Lib.hid (HB7.out.setCell (p := ⟨b, ci * 20 + 1, none⟩) (by show w.heap.size ≤ b; exact HBF.out) _)
    clear x0
    go_upto_region 34 with fail
    clear q1 q2 q3 q4 q5 q6
    have XZ0 := XZ.out
    go_wp2_with (refine wpList_load_row rfl 32 _ rfl n8 rfl 32 _ (0, 0) _ XZ0 Try.underlying32 rfl (by kernel_rfl) ?_)
    refine (file_no _ _ HIZ.out HNO.out).mono ?_
    rintro e wf ⟨rfl, hbf⟩
    have HIF := Lib.hid (HIZ.out.bel hbf)
    have XF := XZ.out.bel hbf
    have HBF2 := Lib.hid (below_two HBZ.out hbf)
    have HXF := Lib.hid XF
    have hC := fun T => code_no (T := T) HIF.out HNO.out
    simp only [Wt7.cells] at XF hC
    clear XZ0 hbf
    go_wp2_with (refine wpList_load_row rfl 32 _ rfl n8 rfl 32 _ (0, 0) _ XF Try.underlying32 rfl (by kernel_rfl) ?_)
    refine (hC _).mono ?_
    rintro e wg ⟨rfl, hbg⟩
    have HIG := Lib.hid (HIF.out.bel hbg)
    have XG := HXF.out.bel hbg
    have HBG := Lib.hid (below_two HBF2.out hbg)
    clear XF hbg hC
    obtain ⟨y0, y1, y2, y3, y4, y5, y6, y7, y8, y9, y10, y11, y12, y13⟩ := box_wt XG
    simp only at y0 y1 y2 y3 y4 y5 y6 y7 y8 y9 y10 y11 y12 y13
    go_wp2_with fail
    have hD := doc_wholeB _ _ HIG.out
    rw [HNO.out] at hD
    simp only [Wt7.cells] at hD
    refine hD.mono ?_
    rintro e wh ⟨rfl, hbh⟩
    have HBH := Lib.hid (below_two HBG.out hbh)
    clear hbh hD XG
    go_wp2_with fail
    go_ret
    exact ⟨rfl, HBH.out⟩
  · have HB7 := HB6
    have K7 : K8 w6 w6 := fun _ _ h => h
    have X7 := HXW6.out
    have A7 := HAR6.out
    have f7 : w6.frozen? ⟨b, ci * 20 + 3, none⟩ = false := A7.1.frozen _
    have c7 : w6.cell? ⟨b, ci * 20 + 3, none⟩ = some (.int .i64 (s.w : Int)) := (A7.1.cell (ci * 20 + 3)).trans (by rw [A7.2.2.2 ci HCI.out.1 3 (by omega), HBB.out]; rw [← HBD2.out.2.2.1]; rfl)
    have K9 : K8 w6 (w6.setCell ⟨b, ci * 20 + 3, none⟩ (.int .i64 ((s.w : Int) - 1))) := K8.set c7 (fun z e => by cases e)
    have A9 : ArrB (w6.setCell ⟨b, ci * 20 + 3, none⟩ (.int .i64 ((s.w : Int) - 1))) b _ s.l (W.bs.set ci ({ B with q := ⟨B.q.r, (s.w : Int) - 1, B.q.a, B.q.n, B.q.cap, B.q.v⟩ })) := (A7.set HCI.out.1 (show 3 < 20 by omega) (.int .i64 ((s.w : Int) - 1)) ({ B with q := ⟨B.q.r, (s.w : Int) - 1, B.q.a, B.q.n, B.q.cap, B.q.v⟩ }) (fun z e => by rw [HBB.out] at e; simp [Bk7.cells] at e) (⟨rw_k8 (rw_k8 (HBI.out.1) K7) K9, rw_k8 (rw_k8 (HBI.out.2.1) K7) K9, ⟨elems_k8 HBI.out.2.2.1.1 K9, HBI.out.2.2.1.2.1, HBI.out.2.2.1.2.2.1, HBI.out.2.2.1.2.2.2.1, HBI.out.2.2.1.2.2.2.2.1, HBI.out.2.2.1.2.2.2.2.2.1, by show _ ≤ (s.w : Int) - 1; omega, by show (s.w : Int) - 1 ≤ _; omega⟩, gr_k8 (gr_k8 (HBI.out.2.2.2.1) K7) K9, gr_k8 (gr_k8 (HBI.out.2.2.2.2.1) K7) K9, gr_k8 (gr_k8 (HBI.out.2.2.2.2.2.1) K7) K9, gr_k8 (gr_k8 (HBI.out.2.2.2.2.2.2.1) K7) K9, gr_k8 (gr_k8 (HBI.out.2.2.2.2.2.2.2) K7) K9⟩) (
      fun k' hk' => by
        rw [HBB.out]
        exact match k', hk' with
        | 0, _ => rfl
        | 1, _ => rfl
        | 2, _ => rfl
        | 3, _ => rfl
        | 4, _ => rfl
        | 5, _ => rfl
        | 6, _ => rfl
        | 7, _ => rfl
        | 8, _ => rfl
        | 9, _ => rfl
        | 10, _ => rfl
        | 11, _ => rfl
        | 12, _ => rfl
        | 13, _ => rfl
        | 14, _ => rfl
        | 15, _ => rfl
        | 16, _ => rfl
        | 17, _ => rfl
        | 18, _ => rfl
        | 19, _ => rfl
        | n + 20, h => absurd h (by omega))).1
    have XZ : Hid (Box (w6.setCell ⟨b, ci * 20 + 3, none⟩ (.int .i64 ((s.w : Int) - 1))) n8 32 ({ W with bs := W.bs.set ci ({ B with q := ⟨B.q.r, (s.w : Int) - 1, B.q.a, B.q.n, B.q.cap, B.q.v⟩ }) } : Wt7).cells) := Lib.hid (X7.other _ (by have := HN8.out; omega))
    have HIZ : Hid (({ W with bs := W.bs.set ci ({ B with q := ⟨B.q.r, (s.w : Int) - 1, B.q.a, B.q.n, B.q.cap, B.q.v⟩ }) } : Wt7).In (w6.setCell ⟨b, ci * 20 + 3, none⟩ (.int .i64 ((s.w : Int) - 1)))) := Lib.hid (wt_in (gr_k8 (gr_k8 HIN6.out.1 K7) K9) (gr_k8 (gr_k8 HIN6.out.2.1 K7) K9) (rw_k8 (rw_k8 HIN6.out.2.2.1 K7) K9) (by have h := HF2.out; show BksAt _ W.ba W.bn _; rw [h.2.2.2.2.2, h.2.2.2.1]; exact A9.bks (by omega)) HIN6.out.2.2.2.2.1 HIN6.out.2.2.2.2.2.1 HSX.out)
    have HNO : Hid (wholeB ({ W with bs := W.bs.set ci ({ B with q := ⟨B.q.r, (s.w : Int) - 1, B.q.a, B.q.n, B.q.cap, B.q.v⟩ }) } : Wt7) = false) := Lib.hid (wt_no HOK.out HF.out (.inr (.inr (.inr (.inr ⟨{ B with q := ⟨B.q.r, (s.w : Int) - 1, B.q.a, B.q.n, B.q.cap, B.q.v⟩ }, List.mem_set HCI.out.2 _, by
      have h := mat_no (r := s.w) (c := s.w) (g := ⟨B.q.r, (s.w : Int) - 1, B.q.a, B.q.n, B.q.cap, B.q.v⟩) (.inr (.inl (show (s.w : Int) - 1 ≠ (s.w : Int) by omega))); simp [bkB, h]⟩)))))
    have HBZ : Hid (Below w.heap.size w (w6.setCell ⟨b, ci * 20 + 3, none⟩ (.int .i64 ((s.w : Int) - 1)))) := Lib.hid (HB7.out.setCell (p := ⟨b, ci * 20 + 3, none⟩) (by show w.heap.size ≤ b; exact HBF.out) _)
    have u1 : IntKind.i64.wrap ((s.w : Int) - 1) = (s.w : Int) - 1 := IntWalk.i64_in _ (by omega)
    go_upto_region 34 with fail
    clear q1 q2 q3 q4 q5 q6
    have XZ0 := XZ.out
    go_wp2_with (refine wpList_load_row rfl 32 _ rfl n8 rfl 32 _ (0, 0) _ XZ0 Try.underlying32 rfl (by kernel_rfl) ?_)
    refine (file_no _ _ HIZ.out HNO.out).mono ?_
    rintro e wf ⟨rfl, hbf⟩
    have HIF := Lib.hid (HIZ.out.bel hbf)
    have XF := XZ.out.bel hbf
    have HBF2 := Lib.hid (below_two HBZ.out hbf)
    have HXF := Lib.hid XF
    have hC := fun T => code_no (T := T) HIF.out HNO.out
    simp only [Wt7.cells] at XF hC
    clear XZ0 hbf
    go_wp2_with (refine wpList_load_row rfl 32 _ rfl n8 rfl 32 _ (0, 0) _ XF Try.underlying32 rfl (by kernel_rfl) ?_)
    refine (hC _).mono ?_
    rintro e wg ⟨rfl, hbg⟩
    have HIG := Lib.hid (HIF.out.bel hbg)
    have XG := HXF.out.bel hbg
    have HBG := Lib.hid (below_two HBF2.out hbg)
    clear XF hbg hC
    obtain ⟨y0, y1, y2, y3, y4, y5, y6, y7, y8, y9, y10, y11, y12, y13⟩ := box_wt XG
    simp only at y0 y1 y2 y3 y4 y5 y6 y7 y8 y9 y10 y11 y12 y13
    go_wp2_with fail
    have hD := doc_wholeB _ _ HIG.out
    rw [HNO.out] at hD
    simp only [Wt7.cells] at hD
    refine hD.mono ?_
    rintro e wh ⟨rfl, hbh⟩
    have HBH := Lib.hid (below_two HBG.out hbh)
    clear hbh hD XG
    go_wp2_with fail
    go_ret
    exact ⟨rfl, HBH.out⟩
  · have x0 : w6.cell? ⟨b, ci * 20 + 13, none⟩ = some (.slice B.o.a B.o.n B.o.cap) := HBc.out 13 (by omega)
    go_wp2_with fail
    refine (less7 ⟨B.o.a, B.o.n, B.o.cap, B.o.v⟩ w6 ⟨HBI.out.2.2.2.2.2.1.1, HBI.out.2.2.2.2.2.1.2.1, HBI.out.2.2.2.2.2.1.2.2.1, HBI.out.2.2.2.2.2.1.2.2.2.1⟩ (by show 1 ≤ B.o.n; have := HBD2.out.2.2.2.1; have := HMB.out; omega) (by show B.o.n ≤ _; have := HBD2.out.2.2.2.1; have := HMB.out; omega)).mono ?_
    rintro e w7 ⟨g, rfl, hg, hgn, hb7⟩
    obtain ⟨ga, gn, gcap, gv⟩ := g
    simp only at hgn
    have HGN := Lib.hid hgn
    clear hgn
    have HB7 := Lib.hid (below_two HB6.out hb7)
    have K7 := K8.below hb7
    have X7 := HXW6.out.bel hb7
    have A7 := HAR6.out.keep (hb7.block b HAR6.out.1.lt) K7
    have f7 : w7.frozen? ⟨b, ci * 20 + 13, none⟩ = false := A7.1.frozen _
    have c7 : w7.cell? ⟨b, ci * 20 + 13, none⟩ = some (.slice B.o.a B.o.n B.o.cap) := (A7.1.cell (ci * 20 + 13)).trans (by rw [A7.2.2.2 ci HCI.out.1 13 (by omega), HBB.out]; rfl)
    have K9 : K8 w7 (w7.setCell ⟨b, ci * 20 + 13, none⟩ (.slice ga gn gcap)) := K8.set c7 (fun z e => by cases e)
    have A9 : ArrB (w7.setCell ⟨b, ci * 20 + 13, none⟩ (.slice ga gn gcap)) b _ s.l (W.bs.set ci ({ B with o := ⟨B.o.r, B.o.c, ga, gn, gcap, gv⟩ })) := (A7.set HCI.out.1 (show 13 < 20 by omega) (.slice ga gn gcap) ({ B with o := ⟨B.o.r, B.o.c, ga, gn, gcap, gv⟩ }) (fun z e => by rw [HBB.out] at e; simp [Bk7.cells] at e) (⟨rw_k8 (rw_k8 (HBI.out.1) K7) K9, rw_k8 (rw_k8 (HBI.out.2.1) K7) K9, gr_k8 (gr_k8 (HBI.out.2.2.1) K7) K9, gr_k8 (gr_k8 (HBI.out.2.2.2.1) K7) K9, gr_k8 (gr_k8 (HBI.out.2.2.2.2.1) K7) K9, ⟨elems_k8 hg.1 K9, hg.2.1, hg.2.2.1, hg.2.2.2, HBI.out.2.2.2.2.2.1.2.2.2.2⟩, gr_k8 (gr_k8 (HBI.out.2.2.2.2.2.2.1) K7) K9, gr_k8 (gr_k8 (HBI.out.2.2.2.2.2.2.2) K7) K9⟩) (
      fun k' hk' => by
        rw [HBB.out]
        exact match k', hk' with
        | 0, _ => rfl
        | 1, _ => rfl
        | 2, _ => rfl
        | 3, _ => rfl
        | 4, _ => rfl
        | 5, _ => rfl
        | 6, _ => rfl
        | 7, _ => rfl
        | 8, _ => rfl
        | 9, _ => rfl
        | 10, _ => rfl
        | 11, _ => rfl
        | 12, _ => rfl
        | 13, _ => rfl
        | 14, _ => rfl
        | 15, _ => rfl
        | 16, _ => rfl
        | 17, _ => rfl
        | 18, _ => rfl
        | 19, _ => rfl
        | n + 20, h => absurd h (by omega))).1
    have XZ : Hid (Box (w7.setCell ⟨b, ci * 20 + 13, none⟩ (.slice ga gn gcap)) n8 32 ({ W with bs := W.bs.set ci ({ B with o := ⟨B.o.r, B.o.c, ga, gn, gcap, gv⟩ }) } : Wt7).cells) := Lib.hid (X7.other _ (by have := HN8.out; omega))
    have HIZ : Hid (({ W with bs := W.bs.set ci ({ B with o := ⟨B.o.r, B.o.c, ga, gn, gcap, gv⟩ }) } : Wt7).In (w7.setCell ⟨b, ci * 20 + 13, none⟩ (.slice ga gn gcap))) := Lib.hid (wt_in (gr_k8 (gr_k8 HIN6.out.1 K7) K9) (gr_k8 (gr_k8 HIN6.out.2.1 K7) K9) (rw_k8 (rw_k8 HIN6.out.2.2.1 K7) K9) (by have h := HF2.out; show BksAt _ W.ba W.bn _; rw [h.2.2.2.2.2, h.2.2.2.1]; exact A9.bks (by omega)) HIN6.out.2.2.2.2.1 HIN6.out.2.2.2.2.2.1 HSX.out)
    have HNO : Hid (wholeB ({ W with bs := W.bs.set ci ({ B with o := ⟨B.o.r, B.o.c, ga, gn, gcap, gv⟩ }) } : Wt7) = false) := Lib.hid (wt_no HOK.out HF.out (.inr (.inr (.inr (.inr ⟨{ B with o := ⟨B.o.r, B.o.c, ga, gn, gcap, gv⟩ }, List.mem_set HCI.out.2 _, by
      have h := mat_no (r := s.w) (c := s.w) (g := ⟨B.o.r, B.o.c, ga, gn, gcap, gv⟩) (.inr (.inr (show gn ≠ s.w * s.w by have := HGN.out; have := HBD2.out; have := HMB.out; omega))); simp [bkB, h]⟩)))))
    have HBZ : Hid (Below w.heap.size w (w7.setCell ⟨b, ci * 20 + 13, none⟩ (.slice ga gn gcap))) := Lib.hid (HB7.out.setCell (p := ⟨b, ci * 20 + 13, none⟩) (by show w.heap.size ≤ b; exact HBF.out) _)
    clear x0
    go_upto_region 34 with fail
    clear q1 q2 q3 q4 q5 q6
    have XZ0 := XZ.out
    go_wp2_with (refine wpList_load_row rfl 32 _ rfl n8 rfl 32 _ (0, 0) _ XZ0 Try.underlying32 rfl (by kernel_rfl) ?_)
    refine (file_no _ _ HIZ.out HNO.out).mono ?_
    rintro e wf ⟨rfl, hbf⟩
    have HIF := Lib.hid (HIZ.out.bel hbf)
    have XF := XZ.out.bel hbf
    have HBF2 := Lib.hid (below_two HBZ.out hbf)
    have HXF := Lib.hid XF
    have hC := fun T => code_no (T := T) HIF.out HNO.out
    simp only [Wt7.cells] at XF hC
    clear XZ0 hbf
    go_wp2_with (refine wpList_load_row rfl 32 _ rfl n8 rfl 32 _ (0, 0) _ XF Try.underlying32 rfl (by kernel_rfl) ?_)
    refine (hC _).mono ?_
    rintro e wg ⟨rfl, hbg⟩
    have HIG := Lib.hid (HIF.out.bel hbg)
    have XG := HXF.out.bel hbg
    have HBG := Lib.hid (below_two HBF2.out hbg)
    clear XF hbg hC
    obtain ⟨y0, y1, y2, y3, y4, y5, y6, y7, y8, y9, y10, y11, y12, y13⟩ := box_wt XG
    simp only at y0 y1 y2 y3 y4 y5 y6 y7 y8 y9 y10 y11 y12 y13
    go_wp2_with fail
    have hD := doc_wholeB _ _ HIG.out
    rw [HNO.out] at hD
    simp only [Wt7.cells] at hD
    refine hD.mono ?_
    rintro e wh ⟨rfl, hbh⟩
    have HBH := Lib.hid (below_two HBG.out hbh)
    clear hbh hD XG
    go_wp2_with fail
    go_ret
    exact ⟨rfl, HBH.out⟩
  · have HB7 := HB6
    have K7 : K8 w6 w6 := fun _ _ h => h
    have X7 := HXW6.out
    have A7 := HAR6.out
    have f7 : w6.frozen? ⟨b, ci * 20 + 14, none⟩ = false := A7.1.frozen _
    have c7 : w6.cell? ⟨b, ci * 20 + 14, none⟩ = some (.int .i64 (s.i : Int)) := (A7.1.cell (ci * 20 + 14)).trans (by rw [A7.2.2.2 ci HCI.out.1 14 (by omega), HBB.out]; rw [← HBD2.out.2.2.2.2.1]; rfl)
    have K9 : K8 w6 (w6.setCell ⟨b, ci * 20 + 14, none⟩ (.int .i64 ((s.i : Int) + 1))) := K8.set c7 (fun z e => by cases e)
    have A9 : ArrB (w6.setCell ⟨b, ci * 20 + 14, none⟩ (.int .i64 ((s.i : Int) + 1))) b _ s.l (W.bs.set ci ({ B with u := ⟨(s.i : Int) + 1, B.u.c, B.u.a, B.u.n, B.u.cap, B.u.v⟩ })) := (A7.set HCI.out.1 (show 14 < 20 by omega) (.int .i64 ((s.i : Int) + 1)) ({ B with u := ⟨(s.i : Int) + 1, B.u.c, B.u.a, B.u.n, B.u.cap, B.u.v⟩ }) (fun z e => by rw [HBB.out] at e; simp [Bk7.cells] at e) (⟨rw_k8 (rw_k8 (HBI.out.1) K7) K9, rw_k8 (rw_k8 (HBI.out.2.1) K7) K9, gr_k8 (gr_k8 (HBI.out.2.2.1) K7) K9, gr_k8 (gr_k8 (HBI.out.2.2.2.1) K7) K9, gr_k8 (gr_k8 (HBI.out.2.2.2.2.1) K7) K9, gr_k8 (gr_k8 (HBI.out.2.2.2.2.2.1) K7) K9, ⟨elems_k8 HBI.out.2.2.2.2.2.2.1.1 K9, HBI.out.2.2.2.2.2.2.1.2.1, HBI.out.2.2.2.2.2.2.1.2.2.1, HBI.out.2.2.2.2.2.2.1.2.2.2.1, by show _ ≤ (s.i : Int) + 1; omega, by show (s.i : Int) + 1 ≤ _; omega, HBI.out.2.2.2.2.2.2.1.2.2.2.2.2.2⟩, gr_k8 (gr_k8 (HBI.out.2.2.2.2.2.2.2) K7) K9⟩) (
      fun k' hk' => by
        rw [HBB.out]
        exact match k', hk' with
        | 0, _ => rfl
        | 1, _ => rfl
        | 2, _ => rfl
        | 3, _ => rfl
        | 4, _ => rfl
        | 5, _ => rfl
        | 6, _ => rfl
        | 7, _ => rfl
        | 8, _ => rfl
        | 9, _ => rfl
        | 10, _ => rfl
        | 11, _ => rfl
        | 12, _ => rfl
        | 13, _ => rfl
        | 14, _ => rfl
        | 15, _ => rfl
        | 16, _ => rfl
        | 17, _ => rfl
        | 18, _ => rfl
        | 19, _ => rfl
        | n + 20, h => absurd h (by omega))).1
    have XZ : Hid (Box (w6.setCell ⟨b, ci * 20 + 14, none⟩ (.int .i64 ((s.i : Int) + 1))) n8 32 ({ W with bs := W.bs.set ci ({ B with u := ⟨(s.i : Int) + 1, B.u.c, B.u.a, B.u.n, B.u.cap, B.u.v⟩ }) } : Wt7).cells) := Lib.hid (X7.other _ (by have := HN8.out; omega))
    have HIZ : Hid (({ W with bs := W.bs.set ci ({ B with u := ⟨(s.i : Int) + 1, B.u.c, B.u.a, B.u.n, B.u.cap, B.u.v⟩ }) } : Wt7).In (w6.setCell ⟨b, ci * 20 + 14, none⟩ (.int .i64 ((s.i : Int) + 1)))) := Lib.hid (wt_in (gr_k8 (gr_k8 HIN6.out.1 K7) K9) (gr_k8 (gr_k8 HIN6.out.2.1 K7) K9) (rw_k8 (rw_k8 HIN6.out.2.2.1 K7) K9) (by have h := HF2.out; show BksAt _ W.ba W.bn _; rw [h.2.2.2.2.2, h.2.2.2.1]; exact A9.bks (by omega)) HIN6.out.2.2.2.2.1 HIN6.out.2.2.2.2.2.1 HSX.out)
    have HNO : Hid (wholeB ({ W with bs := W.bs.set ci ({ B with u := ⟨(s.i : Int) + 1, B.u.c, B.u.a, B.u.n, B.u.cap, B.u.v⟩ }) } : Wt7) = false) := Lib.hid (wt_no HOK.out HF.out (.inr (.inr (.inr (.inr ⟨{ B with u := ⟨(s.i : Int) + 1, B.u.c, B.u.a, B.u.n, B.u.cap, B.u.v⟩ }, List.mem_set HCI.out.2 _, by
      have h := mat_no (r := s.i) (c := s.w) (g := ⟨(s.i : Int) + 1, B.u.c, B.u.a, B.u.n, B.u.cap, B.u.v⟩) (.inl (show (s.i : Int) + 1 ≠ (s.i : Int) by omega)); simp [bkB, h]⟩)))))
    have HBZ : Hid (Below w.heap.size w (w6.setCell ⟨b, ci * 20 + 14, none⟩ (.int .i64 ((s.i : Int) + 1)))) := Lib.hid (HB7.out.setCell (p := ⟨b, ci * 20 + 14, none⟩) (by show w.heap.size ≤ b; exact HBF.out) _)
    have u1 : IntKind.i64.wrap ((s.i : Int) + 1) = (s.i : Int) + 1 := IntWalk.i64_in _ (by omega)
    go_upto_region 34 with fail
    clear q1 q2 q3 q4 q5 q6
    have XZ0 := XZ.out
    go_wp2_with (refine wpList_load_row rfl 32 _ rfl n8 rfl 32 _ (0, 0) _ XZ0 Try.underlying32 rfl (by kernel_rfl) ?_)
    refine (file_no _ _ HIZ.out HNO.out).mono ?_
    rintro e wf ⟨rfl, hbf⟩
    have HIF := Lib.hid (HIZ.out.bel hbf)
    have XF := XZ.out.bel hbf
    have HBF2 := Lib.hid (below_two HBZ.out hbf)
    have HXF := Lib.hid XF
    have hC := fun T => code_no (T := T) HIF.out HNO.out
    simp only [Wt7.cells] at XF hC
    clear XZ0 hbf
    go_wp2_with (refine wpList_load_row rfl 32 _ rfl n8 rfl 32 _ (0, 0) _ XF Try.underlying32 rfl (by kernel_rfl) ?_)
    refine (hC _).mono ?_
    rintro e wg ⟨rfl, hbg⟩
    have HIG := Lib.hid (HIF.out.bel hbg)
    have XG := HXF.out.bel hbg
    have HBG := Lib.hid (below_two HBF2.out hbg)
    clear XF hbg hC
    obtain ⟨y0, y1, y2, y3, y4, y5, y6, y7, y8, y9, y10, y11, y12, y13⟩ := box_wt XG
    simp only at y0 y1 y2 y3 y4 y5 y6 y7 y8 y9 y10 y11 y12 y13
    go_wp2_with fail
    have hD := doc_wholeB _ _ HIG.out
    rw [HNO.out] at hD
    simp only [Wt7.cells] at hD
    refine hD.mono ?_
    rintro e wh ⟨rfl, hbh⟩
    have HBH := Lib.hid (below_two HBG.out hbh)
    clear hbh hD XG
    go_wp2_with fail
    go_ret
    exact ⟨rfl, HBH.out⟩
  · have x0 : w6.cell? ⟨b, ci * 20 + 19, none⟩ = some (.slice B.d.a B.d.n B.d.cap) := HBc.out 19 (by omega)
    go_wp2_with fail
    refine (less7 ⟨B.d.a, B.d.n, B.d.cap, B.d.v⟩ w6 ⟨HBI.out.2.2.2.2.2.2.2.1, HBI.out.2.2.2.2.2.2.2.2.1, HBI.out.2.2.2.2.2.2.2.2.2.1, HBI.out.2.2.2.2.2.2.2.2.2.2.1⟩ (by show 1 ≤ B.d.n; have := HBD2.out.2.2.2.2.2; have := HMB.out; omega) (by show B.d.n ≤ _; have := HBD2.out.2.2.2.2.2; have := HMB.out; omega)).mono ?_
    rintro e w7 ⟨g, rfl, hg, hgn, hb7⟩
    obtain ⟨ga, gn, gcap, gv⟩ := g
    simp only at hgn
    have HGN := Lib.hid hgn
    clear hgn
    have HB7 := Lib.hid (below_two HB6.out hb7)
    have K7 := K8.below hb7
    have X7 := HXW6.out.bel hb7
    have A7 := HAR6.out.keep (hb7.block b HAR6.out.1.lt) K7
    have f7 : w7.frozen? ⟨b, ci * 20 + 19, none⟩ = false := A7.1.frozen _
    have c7 : w7.cell? ⟨b, ci * 20 + 19, none⟩ = some (.slice B.d.a B.d.n B.d.cap) := (A7.1.cell (ci * 20 + 19)).trans (by rw [A7.2.2.2 ci HCI.out.1 19 (by omega), HBB.out]; rfl)
    have K9 : K8 w7 (w7.setCell ⟨b, ci * 20 + 19, none⟩ (.slice ga gn gcap)) := K8.set c7 (fun z e => by cases e)
    have A9 : ArrB (w7.setCell ⟨b, ci * 20 + 19, none⟩ (.slice ga gn gcap)) b _ s.l (W.bs.set ci ({ B with d := ⟨B.d.r, B.d.c, ga, gn, gcap, gv⟩ })) := (A7.set HCI.out.1 (show 19 < 20 by omega) (.slice ga gn gcap) ({ B with d := ⟨B.d.r, B.d.c, ga, gn, gcap, gv⟩ }) (fun z e => by rw [HBB.out] at e; simp [Bk7.cells] at e) (⟨rw_k8 (rw_k8 (HBI.out.1) K7) K9, rw_k8 (rw_k8 (HBI.out.2.1) K7) K9, gr_k8 (gr_k8 (HBI.out.2.2.1) K7) K9, gr_k8 (gr_k8 (HBI.out.2.2.2.1) K7) K9, gr_k8 (gr_k8 (HBI.out.2.2.2.2.1) K7) K9, gr_k8 (gr_k8 (HBI.out.2.2.2.2.2.1) K7) K9, gr_k8 (gr_k8 (HBI.out.2.2.2.2.2.2.1) K7) K9, ⟨elems_k8 hg.1 K9, hg.2.1, hg.2.2.1, hg.2.2.2, HBI.out.2.2.2.2.2.2.2.2.2.2.2⟩⟩) (
      fun k' hk' => by
        rw [HBB.out]
        exact match k', hk' with
        | 0, _ => rfl
        | 1, _ => rfl
        | 2, _ => rfl
        | 3, _ => rfl
        | 4, _ => rfl
        | 5, _ => rfl
        | 6, _ => rfl
        | 7, _ => rfl
        | 8, _ => rfl
        | 9, _ => rfl
        | 10, _ => rfl
        | 11, _ => rfl
        | 12, _ => rfl
        | 13, _ => rfl
        | 14, _ => rfl
        | 15, _ => rfl
        | 16, _ => rfl
        | 17, _ => rfl
        | 18, _ => rfl
        | 19, _ => rfl
        | n + 20, h => absurd h (by omega))).1
    have XZ : Hid (Box (w7.setCell ⟨b, ci * 20 + 19, none⟩ (.slice ga gn gcap)) n8 32 ({ W with bs := W.bs.set ci ({ B with d := ⟨B.d.r, B.d.c, ga, gn, gcap, gv⟩ }) } : Wt7).cells) := Lib.hid (X7.other _ (by have := HN8.out; omega))
    have HIZ : Hid (({ W with bs := W.bs.set ci ({ B with d := ⟨B.d.r, B.d.c, ga, gn, gcap, gv⟩ }) } : Wt7).In (w7.setCell ⟨b, ci * 20 + 19, none⟩ (.slice ga gn gcap))) := Lib.hid (wt_in (gr_k8 (gr_k8 HIN6.out.1 K7) K9) (gr_k8 (gr_k8 HIN6.out.2.1 K7) K9) (rw_k8 (rw_k8 HIN6.out.2.2.1 K7) K9) (by have h := HF2.out; show BksAt _ W.ba W.bn _; rw [h.2.2.2.2.2, h.2.2.2.1]; exact A9.bks (by omega)) HIN6.out.2.2.2.2.1 HIN6.out.2.2.2.2.2.1 HSX.out)
    have HNO : Hid (wholeB ({ W with bs := W.bs.set ci ({ B with d := ⟨B.d.r, B.d.c, ga, gn, gcap, gv⟩ }) } : Wt7) = false) := Lib.hid (wt_no HOK.out HF.out (.inr (.inr (.inr (.inr ⟨{ B with d := ⟨B.d.r, B.d.c, ga, gn, gcap, gv⟩ }, List.mem_set HCI.out.2 _, by
      have h := mat_no (r := s.w) (c := s.i) (g := ⟨B.d.r, B.d.c, ga, gn, gcap, gv⟩) (.inr (.inr (show gn ≠ s.w * s.i by have := HGN.out; have := HBD2.out; have := HMB.out; omega))); simp [bkB, h]⟩)))))
    have HBZ : Hid (Below w.heap.size w (w7.setCell ⟨b, ci * 20 + 19, none⟩ (.slice ga gn gcap))) := Lib.hid (HB7.out.setCell (p := ⟨b, ci * 20 + 19, none⟩) (by show w.heap.size ≤ b; exact HBF.out) _)
    clear x0
    go_upto_region 34 with fail
    clear q1 q2 q3 q4 q5 q6
    have XZ0 := XZ.out
    go_wp2_with (refine wpList_load_row rfl 32 _ rfl n8 rfl 32 _ (0, 0) _ XZ0 Try.underlying32 rfl (by kernel_rfl) ?_)
    refine (file_no _ _ HIZ.out HNO.out).mono ?_
    rintro e wf ⟨rfl, hbf⟩
    have HIF := Lib.hid (HIZ.out.bel hbf)
    have XF := XZ.out.bel hbf
    have HBF2 := Lib.hid (below_two HBZ.out hbf)
    have HXF := Lib.hid XF
    have hC := fun T => code_no (T := T) HIF.out HNO.out
    simp only [Wt7.cells] at XF hC
    clear XZ0 hbf
    go_wp2_with (refine wpList_load_row rfl 32 _ rfl n8 rfl 32 _ (0, 0) _ XF Try.underlying32 rfl (by kernel_rfl) ?_)
    refine (hC _).mono ?_
    rintro e wg ⟨rfl, hbg⟩
    have HIG := Lib.hid (HIF.out.bel hbg)
    have XG := HXF.out.bel hbg
    have HBG := Lib.hid (below_two HBF2.out hbg)
    clear XF hbg hC
    obtain ⟨y0, y1, y2, y3, y4, y5, y6, y7, y8, y9, y10, y11, y12, y13⟩ := box_wt XG
    simp only at y0 y1 y2 y3 y4 y5 y6 y7 y8 y9 y10 y11 y12 y13
    go_wp2_with fail
    have hD := doc_wholeB _ _ HIG.out
    rw [HNO.out] at hD
    simp only [Wt7.cells] at hD
    refine hD.mono ?_
    rintro e wh ⟨rfl, hbh⟩
    have HBH := Lib.hid (below_two HBG.out hbh)
    clear hbh hD XG
    go_wp2_with fail
    go_ret
    exact ⟨rfl, HBH.out⟩
  · have HB7 := HB6
    have K7 : K8 w6 w6 := fun _ _ h => h
    have X7 := HXW6.out
    have A7 := HAR6.out
    have f7 : w6.frozen? ⟨n8, 5, none⟩ = false := X7.frozen 5
    have c7 : w6.cell? ⟨n8, 5, none⟩ = some (.int .i64 W.p) := X7.cell 5
    have K9 : K8 w6 (w6.setCell ⟨n8, 5, none⟩ (.int .i64 0)) := K8.set c7 (fun z e => by cases e)
    have XZ : Hid (Box (w6.setCell ⟨n8, 5, none⟩ (.int .i64 0)) n8 32 ({ W with p := 0 } : Wt7).cells) := Lib.hid (X7.set 5 _)
    have A9 := A7.keep (w' := w6.setCell ⟨n8, 5, none⟩ (.int .i64 0)) (heap_setCell_other w6 ⟨n8, 5, none⟩ b (.int .i64 0) (by show b ≠ n8; have := HN8.out; omega)) K9
    have HIZ : Hid (({ W with p := 0 } : Wt7).In (w6.setCell ⟨n8, 5, none⟩ (.int .i64 0))) := Lib.hid (wt_in (gr_k8 (gr_k8 HIN6.out.1 K7) K9) (gr_k8 (gr_k8 HIN6.out.2.1 K7) K9) (rw_k8 (rw_k8 HIN6.out.2.2.1 K7) K9) (by have h := HF2.out; show BksAt _ W.ba W.bn W.bs; rw [h.2.2.2.2.2, h.2.2.2.1]; exact A9.bks (by omega)) HIN6.out.2.2.2.2.1 HIN6.out.2.2.2.2.2.1 HSX.out)
    have HNO : Hid (wholeB ({ W with p := 0 } : Wt7) = false) := Lib.hid (wholeB_no (by show ¬ OkI W.l W.w W.h W.i W.v 0; unfold OkI; omega))
    have HBZ : Hid (Below w.heap.size w (w6.setCell ⟨n8, 5, none⟩ (.int .i64 0))) := Lib.hid (HB7.out.setCell (p := ⟨n8, 5, none⟩) (by show w.heap.size ≤ n8; exact HN8.out.1) _)
    go_upto_region 34 with fail
    clear q1 q2 q3 q4 q5 q6
    have XZ0 := XZ.out
    go_wp2_with (refine wpList_load_row rfl 32 _ rfl n8 rfl 32 _ (0, 0) _ XZ0 Try.underlying32 rfl (by kernel_rfl) ?_)
    refine (file_no _ _ HIZ.out HNO.out).mono ?_
    rintro e wf ⟨rfl, hbf⟩
    have HIF := Lib.hid (HIZ.out.bel hbf)
    have XF := XZ.out.bel hbf
    have HBF2 := Lib.hid (below_two HBZ.out hbf)
    have HXF := Lib.hid XF
    have hC := fun T => code_no (T := T) HIF.out HNO.out
    simp only [Wt7.cells] at XF hC
    clear XZ0 hbf
    go_wp2_with (refine wpList_load_row rfl 32 _ rfl n8 rfl 32 _ (0, 0) _ XF Try.underlying32 rfl (by kernel_rfl) ?_)
    refine (hC _).mono ?_
    rintro e wg ⟨rfl, hbg⟩
    have HIG := Lib.hid (HIF.out.bel hbg)
    have XG := HXF.out.bel hbg
    have HBG := Lib.hid (below_two HBF2.out hbg)
    clear XF hbg hC
    obtain ⟨y0, y1, y2, y3, y4, y5, y6, y7, y8, y9, y10, y11, y12, y13⟩ := box_wt XG
    simp only at y0 y1 y2 y3 y4 y5 y6 y7 y8 y9 y10 y11 y12 y13
    go_wp2_with fail
    have hD := doc_wholeB _ _ HIG.out
    rw [HNO.out] at hD
    simp only [Wt7.cells] at hD
    refine hD.mono ?_
    rintro e wh ⟨rfl, hbh⟩
    have HBH := Lib.hid (below_two HBG.out hbh)
    clear hbh hD XG
    go_wp2_with fail
    go_ret
    exact ⟨rfl, HBH.out⟩
  · have X0 := HXW6.out
    have B0 := HB6.out
    have J0 : K8 w6 w6 := fun _ _ h => h
    obtain ⟨v1, hw1⟩ : ∃ v, World.setCell w6 ⟨b, ci * 20 + 5, none⟩ (.int .i64 0) = v := ⟨_, rfl⟩
    have A1 := HAR6.out.set HCI.out.1 (show 5 < 20 by omega) (.int .i64 0) ({ B with k := { B.k with r := 0 } }) (fun z e => by rw [HBB.out] at e; simp [Bk7.cells] at e) (by have KK : K8 w6 (w6.setCell ⟨b, ci * 20 + 5, none⟩ (.int .i64 0)) := K8.set (HBc.out 5 (by omega)) (fun z e => by cases e); exact ⟨rw_k8 HBI.out.1 KK, rw_k8 HBI.out.2.1 KK, gr_k8 HBI.out.2.2.1 KK, gr_r0 (gr_k8 (HBI.out.2.2.2.1) KK), gr_k8 (HBI.out.2.2.2.2.1) KK, gr_k8 HBI.out.2.2.2.2.2.1 KK, gr_k8 HBI.out.2.2.2.2.2.2.1 KK, gr_k8 HBI.out.2.2.2.2.2.2.2 KK⟩) (fun k' hk' => by
        rw [HBB.out]
        exact match k', hk' with
        | 0, _ => rfl
        | 1, _ => rfl
        | 2, _ => rfl
        | 3, _ => rfl
        | 4, _ => rfl
        | 5, _ => rfl
        | 6, _ => rfl
        | 7, _ => rfl
        | 8, _ => rfl
        | 9, _ => rfl
        | 10, _ => rfl
        | 11, _ => rfl
        | 12, _ => rfl
        | 13, _ => rfl
        | 14, _ => rfl
        | 15, _ => rfl
        | 16, _ => rfl
        | 17, _ => rfl
        | 18, _ => rfl
        | 19, _ => rfl
        | n + 20, h => absurd h (by omega)
      )
    have J1 : K8 w6 (w6.setCell ⟨b, ci * 20 + 5, none⟩ (.int .i64 0)) := J0.trans A1.2
    have X1 : Box (w6.setCell ⟨b, ci * 20 + 5, none⟩ (.int .i64 0)) n8 32 W.cells := X0.other _ (by have := HN8.out; omega)
    have B1 : Below w.heap.size w (w6.setCell ⟨b, ci * 20 + 5, none⟩ (.int .i64 0)) := B0.setCell (p := ⟨b, ci * 20 + 5, none⟩) (by show w.heap.size ≤ b; exact HBF.out) _
    replace A1 : ArrB (w6.setCell ⟨b, ci * 20 + 5, none⟩ (.int .i64 0)) b _ s.l (W.bs.set ci ({ B with k := { B.k with r := 0 } })) ∧ True := ⟨A1.1, trivial⟩
    rw [hw1] at A1 J1 X1 B1
    obtain ⟨v2, hw2⟩ : ∃ v, World.setCell v1 ⟨b, ci * 20 + 5 + 1, none⟩ (.int .i64 0) = v := ⟨_, rfl⟩
    have A2 := A1.1.step HCI.out.1 HCI.out.2 (show 6 < 20 by omega) (.int .i64 0) ({ B with k := { { B.k with r := 0 } with c := 0 } }) (fun z e => by simp [Bk7.cells] at e) (fun w' hk => by have KK := J1.trans hk; exact ⟨rw_k8 HBI.out.1 KK, rw_k8 HBI.out.2.1 KK, gr_k8 HBI.out.2.2.1 KK, gr_c0 (gr_r0 (gr_k8 (HBI.out.2.2.2.1) KK)), gr_k8 (HBI.out.2.2.2.2.1) KK, gr_k8 HBI.out.2.2.2.2.2.1 KK, gr_k8 HBI.out.2.2.2.2.2.2.1 KK, gr_k8 HBI.out.2.2.2.2.2.2.2 KK⟩) (fun k' hk' => by
        exact match k', hk' with
        | 0, _ => rfl
        | 1, _ => rfl
        | 2, _ => rfl
        | 3, _ => rfl
        | 4, _ => rfl
        | 5, _ => rfl
        | 6, _ => rfl
        | 7, _ => rfl
        | 8, _ => rfl
        | 9, _ => rfl
        | 10, _ => rfl
        | 11, _ => rfl
        | 12, _ => rfl
        | 13, _ => rfl
        | 14, _ => rfl
        | 15, _ => rfl
        | 16, _ => rfl
        | 17, _ => rfl
        | 18, _ => rfl
        | 19, _ => rfl
        | n + 20, h => absurd h (by omega)
      )
    have J2 : K8 w6 (v1.setCell ⟨b, ci * 20 + 5 + 1, none⟩ (.int .i64 0)) := J1.trans A2.2
    have X2 : Box (v1.setCell ⟨b, ci * 20 + 5 + 1, none⟩ (.int .i64 0)) n8 32 W.cells := X1.other _ (by have := HN8.out; omega)
    have B2 : Below w.heap.size w (v1.setCell ⟨b, ci * 20 + 5 + 1, none⟩ (.int .i64 0)) := B1.setCell (p := ⟨b, ci * 20 + 5 + 1, none⟩) (by show w.heap.size ≤ b; exact HBF.out) _
    replace A2 : ArrB (v1.setCell ⟨b, ci * 20 + 5 + 1, none⟩ (.int .i64 0)) b _ s.l (W.bs.set ci ({ B with k := { { B.k with r := 0 } with c := 0 } })) ∧ True := ⟨A2.1, trivial⟩
    rw [hw2] at A2 J2 X2 B2
    obtain ⟨v3, hw3⟩ : ∃ v, World.setCell v2 ⟨b, ci * 20 + 5 + 2, none⟩ (.slice none 0 0) = v := ⟨_, rfl⟩
    have A3 := A2.1.step HCI.out.1 HCI.out.2 (show 7 < 20 by omega) (.slice none 0 0) ({ B with k := gz7 }) (fun z e => by simp [Bk7.cells] at e) (fun w' hk => by have KK := J2.trans hk; exact ⟨rw_k8 HBI.out.1 KK, rw_k8 HBI.out.2.1 KK, gr_k8 HBI.out.2.2.1 KK, gz_in _, gr_k8 (HBI.out.2.2.2.2.1) KK, gr_k8 HBI.out.2.2.2.2.2.1 KK, gr_k8 HBI.out.2.2.2.2.2.2.1 KK, gr_k8 HBI.out.2.2.2.2.2.2.2 KK⟩) (fun k' hk' => by
        exact match k', hk' with
        | 0, _ => rfl
        | 1, _ => rfl
        | 2, _ => rfl
        | 3, _ => rfl
        | 4, _ => rfl
        | 5, _ => rfl
        | 6, _ => rfl
        | 7, _ => rfl
        | 8, _ => rfl
        | 9, _ => rfl
        | 10, _ => rfl
        | 11, _ => rfl
        | 12, _ => rfl
        | 13, _ => rfl
        | 14, _ => rfl
        | 15, _ => rfl
        | 16, _ => rfl
        | 17, _ => rfl
        | 18, _ => rfl
        | 19, _ => rfl
        | n + 20, h => absurd h (by omega)
      )
    have J3 : K8 w6 (v2.setCell ⟨b, ci * 20 + 5 + 2, none⟩ (.slice none 0 0)) := J2.trans A3.2
    have X3 : Box (v2.setCell ⟨b, ci * 20 + 5 + 2, none⟩ (.slice none 0 0)) n8 32 W.cells := X2.other _ (by have := HN8.out; omega)
    have B3 : Below w.heap.size w (v2.setCell ⟨b, ci * 20 + 5 + 2, none⟩ (.slice none 0 0)) := B2.setCell (p := ⟨b, ci * 20 + 5 + 2, none⟩) (by show w.heap.size ≤ b; exact HBF.out) _
    replace A3 : ArrB (v2.setCell ⟨b, ci * 20 + 5 + 2, none⟩ (.slice none 0 0)) b _ s.l (W.bs.set ci ({ B with k := gz7 })) ∧ True := ⟨A3.1, trivial⟩
    rw [hw3] at A3 J3 X3 B3
    obtain ⟨v4, hw4⟩ : ∃ v, World.setCell v3 ⟨b, ci * 20 + 8, none⟩ (.int .i64 0) = v := ⟨_, rfl⟩
    have A4 := A3.1.step HCI.out.1 HCI.out.2 (show 8 < 20 by omega) (.int .i64 0) ({ B with k := gz7, v := { B.v with r := 0 } }) (fun z e => by simp [Bk7.cells] at e) (fun w' hk => by have KK := J3.trans hk; exact ⟨rw_k8 HBI.out.1 KK, rw_k8 HBI.out.2.1 KK, gr_k8 HBI.out.2.2.1 KK, gz_in _, gr_r0 (gr_k8 (HBI.out.2.2.2.2.1) KK), gr_k8 HBI.out.2.2.2.2.2.1 KK, gr_k8 HBI.out.2.2.2.2.2.2.1 KK, gr_k8 HBI.out.2.2.2.2.2.2.2 KK⟩) (fun k' hk' => by
        exact match k', hk' with
        | 0, _ => rfl
        | 1, _ => rfl
        | 2, _ => rfl
        | 3, _ => rfl
        | 4, _ => rfl
        | 5, _ => rfl
        | 6, _ => rfl
        | 7, _ => rfl
        | 8, _ => rfl
        | 9, _ => rfl
        | 10, _ => rfl
        | 11, _ => rfl
        | 12, _ => rfl
        | 13, _ => rfl
        | 14, _ => rfl
        | 15, _ => rfl
        | 16, _ => rfl
        | 17, _ => rfl
        | 18, _ => rfl
        | 19, _ => rfl
        | n + 20, h => absurd h (by omega)
      )
    have J4 : K8 w6 (v3.setCell ⟨b, ci * 20 + 8, none⟩ (.int .i64 0)) := J3.trans A4.2
    have X4 : Box (v3.setCell ⟨b, ci * 20 + 8, none⟩ (.int .i64 0)) n8 32 W.cells := X3.other _ (by have := HN8.out; omega)
    have B4 : Below w.heap.size w (v3.setCell ⟨b, ci * 20 + 8, none⟩ (.int .i64 0)) := B3.setCell (p := ⟨b, ci * 20 + 8, none⟩) (by show w.heap.size ≤ b; exact HBF.out) _
    replace A4 : ArrB (v3.setCell ⟨b, ci * 20 + 8, none⟩ (.int .i64 0)) b _ s.l (W.bs.set ci ({ B with k := gz7, v := { B.v with r := 0 } })) ∧ True := ⟨A4.1, trivial⟩
    rw [hw4] at A4 J4 X4 B4
    obtain ⟨v5, hw5⟩ : ∃ v, World.setCell v4 ⟨b, ci * 20 + 8 + 1, none⟩ (.int .i64 0) = v := ⟨_, rfl⟩
    have A5 := A4.1.step HCI.out.1 HCI.out.2 (show 9 < 20 by omega) (.int .i64 0) ({ B with k := gz7, v := { { B.v with r := 0 } with c := 0 } }) (fun z e => by simp [Bk7.cells] at e) (fun w' hk => by have KK := J4.trans hk; exact ⟨rw_k8 HBI.out.1 KK, rw_k8 HBI.out.2.1 KK, gr_k8 HBI.out.2.2.1 KK, gz_in _, gr_c0 (gr_r0 (gr_k8 (HBI.out.2.2.2.2.1) KK)), gr_k8 HBI.out.2.2.2.2.2.1 KK, gr_k8 HBI.out.2.2.2.2.2.2.1 KK, gr_k8 HBI.out.2.2.2.2.2.2.2 KK⟩) (fun k' hk' => by
        exact match k', hk' with
        | 0, _ => rfl
        | 1, _ => rfl
        | 2, _ => rfl
        | 3, _ => rfl
        | 4, _ => rfl
        | 5, _ => rfl
        | 6, _ => rfl
        | 7, _ => rfl
        | 8, _ => rfl
        | 9, _ => rfl
        | 10, _ => rfl
        | 11, _ => rfl
        | 12, _ => rfl
        | 13, _ => rfl
        | 14, _ => rfl
        | 15, _ => rfl
        | 16, _ => rfl
        | 17, _ => rfl
        | 18, _ => rfl
        | 19, _ => rfl
        | n + 20, h => absurd h (by omega)
      )
    have J5 : K8 w6 (v4.setCell ⟨b, ci * 20 + 8 + 1, none⟩ (.int .i64 0)) := J4.trans A5.2
    have X5 : Box (v4.setCell ⟨b, ci * 20 + 8 + 1, none⟩ (.int .i64 0)) n8 32 W.cells := X4.other _ (by have := HN8.out; omega)
    have B5 : Below w.heap.size w (v4.setCell ⟨b, ci * 20 + 8 + 1, none⟩ (.int .i64 0)) := B4.setCell (p := ⟨b, ci * 20 + 8 + 1, none⟩) (by show w.heap.size ≤ b; exact HBF.out) _
    replace A5 : ArrB (v4.setCell ⟨b, ci * 20 + 8 + 1, none⟩ (.int .i64 0)) b _ s.l (W.bs.set ci ({ B with k := gz7, v := { { B.v with r := 0 } with c := 0 } })) ∧ True := ⟨A5.1, trivial⟩
    rw [hw5] at A5 J5 X5 B5
    obtain ⟨v6, hw6⟩ : ∃ v, World.setCell v5 ⟨b, ci * 20 + 8 + 2, none⟩ (.slice none 0 0) = v := ⟨_, rfl⟩
    have A6 := A5.1.step HCI.out.1 HCI.out.2 (show 10 < 20 by omega) (.slice none 0 0) ({ B with k := gz7, v := gz7 }) (fun z e => by simp [Bk7.cells] at e) (fun w' hk => by have KK := J5.trans hk; exact ⟨rw_k8 HBI.out.1 KK, rw_k8 HBI.out.2.1 KK, gr_k8 HBI.out.2.2.1 KK, gz_in _, gz_in _, gr_k8 HBI.out.2.2.2.2.2.1 KK, gr_k8 HBI.out.2.2.2.2.2.2.1 KK, gr_k8 HBI.out.2.2.2.2.2.2.2 KK⟩) (fun k' hk' => by
        exact match k', hk' with
        | 0, _ => rfl
        | 1, _ => rfl
        | 2, _ => rfl
        | 3, _ => rfl
        | 4, _ => rfl
        | 5, _ => rfl
        | 6, _ => rfl
        | 7, _ => rfl
        | 8, _ => rfl
        | 9, _ => rfl
        | 10, _ => rfl
        | 11, _ => rfl
        | 12, _ => rfl
        | 13, _ => rfl
        | 14, _ => rfl
        | 15, _ => rfl
        | 16, _ => rfl
        | 17, _ => rfl
        | 18, _ => rfl
        | 19, _ => rfl
        | n + 20, h => absurd h (by omega)
      )
    have J6 : K8 w6 (v5.setCell ⟨b, ci * 20 + 8 + 2, none⟩ (.slice none 0 0)) := J5.trans A6.2
    have X6 : Box (v5.setCell ⟨b, ci * 20 + 8 + 2, none⟩ (.slice none 0 0)) n8 32 W.cells := X5.other _ (by have := HN8.out; omega)
    have B6 : Below w.heap.size w (v5.setCell ⟨b, ci * 20 + 8 + 2, none⟩ (.slice none 0 0)) := B5.setCell (p := ⟨b, ci * 20 + 8 + 2, none⟩) (by show w.heap.size ≤ b; exact HBF.out) _
    replace A6 : ArrB (v5.setCell ⟨b, ci * 20 + 8 + 2, none⟩ (.slice none 0 0)) b _ s.l (W.bs.set ci ({ B with k := gz7, v := gz7 })) ∧ True := ⟨A6.1, trivial⟩
    rw [hw6] at A6 J6 X6 B6
    have XZ : Hid (Box v6 n8 32 ({ W with bs := W.bs.set ci ({ B with k := gz7, v := gz7 }) } : Wt7).cells) := Lib.hid X6
    have HIZ : Hid (({ W with bs := W.bs.set ci ({ B with k := gz7, v := gz7 }) } : Wt7).In v6) := Lib.hid (wt_in (gr_k8 HIN6.out.1 J6) (gr_k8 HIN6.out.2.1 J6) (rw_k8 HIN6.out.2.2.1 J6) (by have h := HF2.out; show BksAt _ W.ba W.bn _; rw [h.2.2.2.2.2, h.2.2.2.1]; exact A6.1.bks (by omega)) HIN6.out.2.2.2.2.1 HIN6.out.2.2.2.2.2.1 HSX.out)
    have HNO : Hid (wholeB ({ W with bs := W.bs.set ci ({ B with k := gz7, v := gz7 }) } : Wt7) = false) := Lib.hid (wt_no HOK.out HF.out (.inr (.inr (.inr (.inr ⟨{ B with k := gz7, v := gz7 }, List.mem_set HCI.out.2 _, by
      have h := mat_no (r := s.w) (c := s.w) (g := gz7) (.inl (show (0 : Int) ≠ (s.w : Int) by omega)); simp [bkB, h]⟩)))))
    have HBZ := Lib.hid B6
    have HWS := Lib.hid (And.intro hw1 (And.intro hw2 (And.intro hw3 (And.intro hw4 (And.intro hw5 hw6)))))
    clear hw1 hw2 hw3 hw4 hw5 hw6 A1 A2 A3 A4 A5 A6 J0 J1 J2 J3 J4 J5 J6 X0 X1 X2 X3 X4 X5 X6 B0 B1 B2 B3 B4 B5 B6
    have f5 : w6.frozen? ⟨b, ci * 20 + 5, none⟩ = false := HAR6.out.1.frozen _
    have c5 : w6.cell? ⟨b, ci * 20 + 5, none⟩ = some (.int .i64 B.k.r) := HBc.out 5 (by omega)
    have f6 : w6.frozen? ⟨b, ci * 20 + 6, none⟩ = false := HAR6.out.1.frozen _
    have c6 : w6.cell? ⟨b, ci * 20 + 6, none⟩ = some (.int .i64 B.k.c) := HBc.out 6 (by omega)
    have f7 : w6.frozen? ⟨b, ci * 20 + 7, none⟩ = false := HAR6.out.1.frozen _
    have c7 : w6.cell? ⟨b, ci * 20 + 7, none⟩ = some (.slice B.k.a B.k.n B.k.cap) := HBc.out 7 (by omega)
    have f8 : w6.frozen? ⟨b, ci * 20 + 8, none⟩ = false := HAR6.out.1.frozen _
    have c8 : w6.cell? ⟨b, ci * 20 + 8, none⟩ = some (.int .i64 B.v.r) := HBc.out 8 (by omega)
    have f9 : w6.frozen? ⟨b, ci * 20 + 9, none⟩ = false := HAR6.out.1.frozen _
    have c9 : w6.cell? ⟨b, ci * 20 + 9, none⟩ = some (.int .i64 B.v.c) := HBc.out 9 (by omega)
    have f10 : w6.frozen? ⟨b, ci * 20 + 10, none⟩ = false := HAR6.out.1.frozen _
    have c10 : w6.cell? ⟨b, ci * 20 + 10, none⟩ = some (.slice B.v.a B.v.n B.v.cap) := HBc.out 10 (by omega)
    go_upto_region 34 with fail
    obtain ⟨hw1, hw2, hw3, hw4, hw5, hw6⟩ := HWS.out
    rw [hw1, hw2, hw3, hw4, hw5, hw6]
    clear hw1 hw2 hw3 hw4 hw5 hw6 f5 c5 f6 c6 f7 c7 f8 c8 f9 c9 f10 c10
    clear q1 q2 q3 q4 q5 q6
    have XZ0 := XZ.out
    go_wp2_with (refine wpList_load_row rfl 32 _ rfl n8 rfl 32 _ (0, 0) _ XZ0 Try.underlying32 rfl (by kernel_rfl) ?_)
    refine (file_no _ _ HIZ.out HNO.out).mono ?_
    rintro e wf ⟨rfl, hbf⟩
    have HIF := Lib.hid (HIZ.out.bel hbf)
    have XF := XZ.out.bel hbf
    have HBF2 := Lib.hid (below_two HBZ.out hbf)
    have HXF := Lib.hid XF
    have hC := fun T => code_no (T := T) HIF.out HNO.out
    simp only [Wt7.cells] at XF hC
    clear XZ0 hbf
    go_wp2_with (refine wpList_load_row rfl 32 _ rfl n8 rfl 32 _ (0, 0) _ XF Try.underlying32 rfl (by kernel_rfl) ?_)
    refine (hC _).mono ?_
    rintro e wg ⟨rfl, hbg⟩
    have HIG := Lib.hid (HIF.out.bel hbg)
    have XG := HXF.out.bel hbg
    have HBG := Lib.hid (below_two HBF2.out hbg)
    clear XF hbg hC
    obtain ⟨y0, y1, y2, y3, y4, y5, y6, y7, y8, y9, y10, y11, y12, y13⟩ := box_wt XG
    simp only at y0 y1 y2 y3 y4 y5 y6 y7 y8 y9 y10 y11 y12 y13
    go_wp2_with fail
    have hD := doc_wholeB _ _ HIG.out
    rw [HNO.out] at hD
    simp only [Wt7.cells] at hD
    refine hD.mono ?_
    rintro e wh ⟨rfl, hbh⟩
    have HBH := Lib.hid (below_two HBG.out hbh)
    clear hbh hD XG
    go_wp2_with fail
    go_ret
    exact ⟨rfl, HBH.out⟩

set_option maxRecDepth 100000 in
theorem lifted (os : Os) (started : os.Started) (H : Type) (enc : TypeId × Value → H) :
    ReturnsInHanded {} Try.checked os 3 .any (Rows.weightWholeSpec.pre6 enc Try.prog Try.f3 Rows.weightWholeRow.domain false) (Rows.weightWholeSpec.post enc Try.prog Try.f3 false true false false) := by
  refine returnsInHanded_of_change (C := Try.checked) own started (by kernel_rfl) Try.func3
    (ChangeSpec.witness6 (enc := enc) (C := Try.checked) false ⟨#[], #[.agg #[.int .i64 0, .int .i64 0, .int .i64 0, .int .i64 0, .int .i64 0, .int .i64 0], .int .i64 0, .int .i64 0], []⟩ 8 (by kernel_rfl) (by kernel_rfl) (by kernel_rfl) (by kernel_rfl)) ?_
  intro W base args ds gs before hval0 hW hcnd _
  have hval : ∀ (j : Nat) t v, Try.f3.params[j]? = some t → args[j]? = some v → Value.okWide Try.prog W .any base t v := hval0
  have hW' := hW
  obtain ⟨p, q, hA0, hV, rfl, hfz, hnd⟩ := hW
  have hA : DataW.TrodAll enc Try.prog W 0 (fun _ => true) true Try.f3.params.toList args.toList ds p := hA0
  rw [Try.params3] at hA hval
  obtain ⟨v0, vs0, d0, ds0, p0, q0, hargs, rfl, rfl, h0, r0⟩ := trodAll_cons hA
  obtain ⟨v1, vs1, d1, ds1, p1, q1, rfl, rfl, rfl, h1, r1⟩ := trodAll_cons r0
  obtain ⟨v2, vs2, d2, ds2, p2, q2, rfl, rfl, rfl, h2, r2⟩ := trodAll_cons r1
  obtain ⟨rfl, rfl, rfl⟩ := trodAll_nil r2
  obtain rfl : args = #[v0, v1, v2] := by cases args; simp_all
  obtain ⟨rfl, rfl⟩ := trodVars_none hV
  have k0 := h0
  have lt0 : ∀ x ∈ p0, x.block < W.heap.size := by obtain ⟨m, hm⟩ := k0; exact DataW.trod_lt m _ _ _ hm
  obtain ⟨xl0, xw0, xh0, xi0, xv0, xp0, rfl, w0⟩ := open_six (hval 0 22 v0 rfl rfl) h0
  obtain ⟨a1, rfl, rfl, rfl, w1⟩ := open_int Try.underlying3 (hval 1 3 v1 rfl rfl) h1
  obtain ⟨a2, rfl, rfl, rfl, w2⟩ := open_int Try.underlying3 (hval 2 3 v2 rfl rfl) h2
  clear hA0 hval0
  refine (walk xl0 xw0 xh0 xi0 xv0 xp0 a1 a2 W w0 w1 w2).mono fun e W' ⟨he, bel⟩ => ?_
  subst he
  exact ⟨_, rfl, _, _, _, [], _, [], hW', trodAll_mk1 (shut_bool Try.underlying4 _), (trodAll_cons_mk (Below.trod laidOut (by kernel_rfl) (of_decide_eq_true (by kernel_rfl)) k0 bel lt0) (trodAll_cons_mk (shut_int Try.underlying3 w1) (trodAll_cons_mk (shut_int Try.underlying3 w2) trodAll_mk0))), rfl, bel.frame _, fun h => by cases h⟩

theorem over : Rows.weightWholeRow.holds Try.pinned (OpenSpec.ofChange Rows.weightWholeSpec) :=
  OpenClaim.holds_of_wide 3 Try.f3 rfl rfl rfl rfl rfl rfl rfl ⟨rfl, rfl, rfl, rfl, rfl⟩ rfl rfl rfl rfl rfl (by kernel_rfl) Try.func3 (by kernel_rfl)
    (of_decide_eq_true (by kernel_rfl)) (by unfold Func.isWrapper; first | (rw [if_pos (by decide +kernel)]; kernel_rfl) | (rw [if_neg (by decide +kernel)]; exact ⟨rfl, rfl⟩))
    (fun os started H enc _ => lifted os started H enc)

/-- ████ THE STATEMENT ████ -/
theorem proved : Rows.WeightWholeSaid := over
#print axioms proved
end Go.Proofs.Ytgbbfmpofmeadaa.weightWhole
