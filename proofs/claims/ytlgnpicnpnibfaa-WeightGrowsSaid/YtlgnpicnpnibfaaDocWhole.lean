/-
  The document's Whole: are weights right?
-/
import Derived.Test.YtlgnpicnpnibfaaWholes
namespace Go.Proofs.Ytlgnpicnpnibfaa
open Go.RowKit
set_option linter.unusedVariables false

theorem at_eq {w w' : World} (h : w = w') {P : World → Prop} (hp : P w) : P w' := h ▸ hp
set_option maxHeartbeats 12800000 in
set_option maxRecDepth 100000 in
theorem doc_whole (s : Sz) (ok : s.Ok) (W : Wt7) (w : World) (hIn : W.In w) (he : W.l = s.l ∧ W.w = s.w ∧ W.h = s.h ∧ W.i = s.i ∧ W.v = s.v ∧ W.p = s.p) (hw0 : wtB s W = true) :
    Calls Try.prog 19 #[.agg W.cells] w fun e w' => e = .returned (.bool true) ∧ Below w.heap.size w w' := by
  have HI := Lib.hid hIn
  have r1 := fun V => dright_yes s.l s.w s.h s.i s.v s.p V ok
  obtain ⟨hl, hh, hw, hi, hv, hp⟩ := ok.bd
  unfold shv at r1
  have HC : Hid (W.cells = #[.int .i64 s.l, .int .i64 s.w, .int .i64 s.h, .int .i64 s.i, .int .i64 s.v, .int .i64 s.p, .int .i64 W.e.r, .int .i64 W.e.c, .slice W.e.a W.e.n W.e.cap, .slice W.ba W.bn W.bcap, .slice W.t.a W.t.n W.t.cap, .int .i64 W.hd.r, .int .i64 W.hd.c, .slice W.hd.a W.hd.n W.hd.cap]) := Lib.hid (by obtain ⟨e1, e2, e3, e4, e5, e6⟩ := he; unfold Wt7.cells; rw [e1, e2, e3, e4, e5, e6])
  have hR : matB s.v s.w W.e = true ∧ matB s.v s.w W.hd = true ∧ W.t.n = s.w ∧ W.bn = s.l ∧ W.bs.all (bkB s) = true := by
    have h := hw0
    unfold wtB at h
    simpa [Bool.and_eq_true, and_assoc] using h
  obtain ⟨g1, g2, g3, g4, g5⟩ := hR
  have HBK : Hid (∀ b ∈ W.bs, b.x.n = s.w ∧ b.y.n = s.w ∧ matB s.w s.w b.q = true ∧ matB s.w s.w b.k = true ∧ matB s.w s.w b.v = true ∧ matB s.w s.w b.o = true ∧ matB s.i s.w b.u = true ∧ matB s.w s.i b.d = true) := Lib.hid (by
    intro b hb
    have h := List.all_eq_true.1 g5 b hb
    unfold bkB at h
    simpa [Bool.and_eq_true, and_assoc] using h)
  have M1 := fun V => doc_mat W.e s.v s.w (by omega) (by omega) hIn.1.1.2.1 V
  have M2 := fun V => doc_mat W.hd s.v s.w (by omega) (by omega) hIn.2.1.1.2.1 V
  rw [g1] at M1
  rw [g2] at M2
  have MQ : ∀ (g : Gr) (U V : World), g.In8 U → matB s.w s.w g = true → Calls Try.prog 34 #[.agg #[.int .i64 g.r, .int .i64 g.c, .slice g.a g.n g.cap], .int .i64 s.w, .int .i64 s.w] V fun e w' => e = .returned (.bool true) ∧ Below V.heap.size V w' := fun g U V h hm => by rw [← hm]; exact doc_mat g s.w s.w (by omega) (by omega) h.1.2.1 V
  have MU : ∀ (g : Gr) (U V : World), g.In8 U → matB s.i s.w g = true → Calls Try.prog 34 #[.agg #[.int .i64 g.r, .int .i64 g.c, .slice g.a g.n g.cap], .int .i64 s.i, .int .i64 s.w] V fun e w' => e = .returned (.bool true) ∧ Below V.heap.size V w' := fun g U V h hm => by rw [← hm]; exact doc_mat g s.i s.w (by omega) (by omega) h.1.2.1 V
  have MD : ∀ (g : Gr) (U V : World), g.In8 U → matB s.w s.i g = true → Calls Try.prog 34 #[.agg #[.int .i64 g.r, .int .i64 g.c, .slice g.a g.n g.cap], .int .i64 s.w, .int .i64 s.i] V fun e w' => e = .returned (.bool true) ∧ Below V.heap.size V w' := fun g U V h hm => by rw [← hm]; exact doc_mat g s.w s.i (by omega) (by omega) h.1.2.1 V
  have HBN := hIn.2.2.2.1.2.1
  have HBL := Lib.hid hIn.2.2.2.1.1
  have e1 : ((W.t.n : Int) != (s.w : Int)) = false := by simp; omega
  have e2 : ((W.bn : Int) != (s.l : Int)) = false := by simp; omega
  rw [HC.out]
  clear hIn he hw0 g1 g2 g3 g4 g5 ok
  obtain ⟨l, wd, h, i, v, p⟩ := s
  simp only at *
  go_enter Try.func19, Try.ntmps19
  go_upto_region 2 with (fail)
  generalize hwa : (w.alloc _).alloc _ = w0
  have hB0 : Below w.heap.size w w0 := by rw [← hwa]; exact ((Below.refl _ _).alloc (Nat.le_refl _) _).alloc (by simp) _
  have XW : Box w0 w.heap.size 45 W.cells := by rw [← hwa, HC.out]; exact (box_new _ _ _).alloc _
  have XS : Box w0 (w.heap.size + 1) 30 #[.int .i64 l, .int .i64 wd, .int .i64 h, .int .i64 i, .int .i64 v, .int .i64 p] := by rw [← hwa]; exact box_at (by simp) _ _
  have HB0 := Lib.hid hB0
  have HW0 := Lib.hid XW
  have HS0 := Lib.hid XS
  clear hwa hB0 XW XS

  obtain ⟨c0, c1, c2, c3, c4, c5⟩ := HS0.out.cells6
  have XC := HW0.out
  rw [HC.out] at XC
  obtain ⟨z0, z1, z2, z3, z4, z5, z6, z7, z8, z9, z10, z11, z12, z13⟩ : w0.cell? ⟨w.heap.size, 0, none⟩ = some (.int .i64 l) ∧ w0.cell? ⟨w.heap.size, 1, none⟩ = some (.int .i64 wd) ∧ w0.cell? ⟨w.heap.size, 2, none⟩ = some (.int .i64 h) ∧ w0.cell? ⟨w.heap.size, 3, none⟩ = some (.int .i64 i) ∧ w0.cell? ⟨w.heap.size, 4, none⟩ = some (.int .i64 v) ∧ w0.cell? ⟨w.heap.size, 5, none⟩ = some (.int .i64 p) ∧ w0.cell? ⟨w.heap.size, 6, none⟩ = some (.int .i64 W.e.r) ∧ w0.cell? ⟨w.heap.size, 7, none⟩ = some (.int .i64 W.e.c) ∧ w0.cell? ⟨w.heap.size, 8, none⟩ = some (.slice W.e.a W.e.n W.e.cap) ∧ w0.cell? ⟨w.heap.size, 9, none⟩ = some (.slice W.ba W.bn W.bcap) ∧ w0.cell? ⟨w.heap.size, 10, none⟩ = some (.slice W.t.a W.t.n W.t.cap) ∧ w0.cell? ⟨w.heap.size, 11, none⟩ = some (.int .i64 W.hd.r) ∧ w0.cell? ⟨w.heap.size, 12, none⟩ = some (.int .i64 W.hd.c) ∧ w0.cell? ⟨w.heap.size, 13, none⟩ = some (.slice W.hd.a W.hd.n W.hd.cap) := ⟨XC.cell 0, XC.cell 1, XC.cell 2, XC.cell 3, XC.cell 4, XC.cell 5, XC.cell 6, XC.cell 7, XC.cell 8, XC.cell 9, XC.cell 10, XC.cell 11, XC.cell 12, XC.cell 13⟩
  clear XC
  go_wp2_with fail
  refine (r1 _).mono ?_
  rintro e w1 ⟨rfl, hb⟩
  have HB1 := Lib.hid (below_two HB0.out hb)
  have HW1 := Lib.hid (HW0.out.bel hb)
  have HS1 := Lib.hid (HS0.out.bel hb)
  clear hb c0 c1 c2 c3 c4 c5 z0 z1 z2 z3 z4 z5 z6 z7 z8 z9 z10 z11 z12 z13 HW0 HS0
  obtain ⟨c0, c1, c2, c3, c4, c5⟩ := HS1.out.cells6
  have XC := HW1.out
  rw [HC.out] at XC
  obtain ⟨z0, z1, z2, z3, z4, z5, z6, z7, z8, z9, z10, z11, z12, z13⟩ : w1.cell? ⟨w.heap.size, 0, none⟩ = some (.int .i64 l) ∧ w1.cell? ⟨w.heap.size, 1, none⟩ = some (.int .i64 wd) ∧ w1.cell? ⟨w.heap.size, 2, none⟩ = some (.int .i64 h) ∧ w1.cell? ⟨w.heap.size, 3, none⟩ = some (.int .i64 i) ∧ w1.cell? ⟨w.heap.size, 4, none⟩ = some (.int .i64 v) ∧ w1.cell? ⟨w.heap.size, 5, none⟩ = some (.int .i64 p) ∧ w1.cell? ⟨w.heap.size, 6, none⟩ = some (.int .i64 W.e.r) ∧ w1.cell? ⟨w.heap.size, 7, none⟩ = some (.int .i64 W.e.c) ∧ w1.cell? ⟨w.heap.size, 8, none⟩ = some (.slice W.e.a W.e.n W.e.cap) ∧ w1.cell? ⟨w.heap.size, 9, none⟩ = some (.slice W.ba W.bn W.bcap) ∧ w1.cell? ⟨w.heap.size, 10, none⟩ = some (.slice W.t.a W.t.n W.t.cap) ∧ w1.cell? ⟨w.heap.size, 11, none⟩ = some (.int .i64 W.hd.r) ∧ w1.cell? ⟨w.heap.size, 12, none⟩ = some (.int .i64 W.hd.c) ∧ w1.cell? ⟨w.heap.size, 13, none⟩ = some (.slice W.hd.a W.hd.n W.hd.cap) := ⟨XC.cell 0, XC.cell 1, XC.cell 2, XC.cell 3, XC.cell 4, XC.cell 5, XC.cell 6, XC.cell 7, XC.cell 8, XC.cell 9, XC.cell 10, XC.cell 11, XC.cell 12, XC.cell 13⟩
  clear XC
  go_wp2_with fail
  refine (M1 _).mono ?_
  rintro e w2 ⟨rfl, hb⟩
  have HB2 := Lib.hid (below_two HB1.out hb)
  have HW2 := Lib.hid (HW1.out.bel hb)
  have HS2 := Lib.hid (HS1.out.bel hb)
  clear hb c0 c1 c2 c3 c4 c5 z0 z1 z2 z3 z4 z5 z6 z7 z8 z9 z10 z11 z12 z13 HW1 HS1
  obtain ⟨c0, c1, c2, c3, c4, c5⟩ := HS2.out.cells6
  have XC := HW2.out
  rw [HC.out] at XC
  obtain ⟨z0, z1, z2, z3, z4, z5, z6, z7, z8, z9, z10, z11, z12, z13⟩ : w2.cell? ⟨w.heap.size, 0, none⟩ = some (.int .i64 l) ∧ w2.cell? ⟨w.heap.size, 1, none⟩ = some (.int .i64 wd) ∧ w2.cell? ⟨w.heap.size, 2, none⟩ = some (.int .i64 h) ∧ w2.cell? ⟨w.heap.size, 3, none⟩ = some (.int .i64 i) ∧ w2.cell? ⟨w.heap.size, 4, none⟩ = some (.int .i64 v) ∧ w2.cell? ⟨w.heap.size, 5, none⟩ = some (.int .i64 p) ∧ w2.cell? ⟨w.heap.size, 6, none⟩ = some (.int .i64 W.e.r) ∧ w2.cell? ⟨w.heap.size, 7, none⟩ = some (.int .i64 W.e.c) ∧ w2.cell? ⟨w.heap.size, 8, none⟩ = some (.slice W.e.a W.e.n W.e.cap) ∧ w2.cell? ⟨w.heap.size, 9, none⟩ = some (.slice W.ba W.bn W.bcap) ∧ w2.cell? ⟨w.heap.size, 10, none⟩ = some (.slice W.t.a W.t.n W.t.cap) ∧ w2.cell? ⟨w.heap.size, 11, none⟩ = some (.int .i64 W.hd.r) ∧ w2.cell? ⟨w.heap.size, 12, none⟩ = some (.int .i64 W.hd.c) ∧ w2.cell? ⟨w.heap.size, 13, none⟩ = some (.slice W.hd.a W.hd.n W.hd.cap) := ⟨XC.cell 0, XC.cell 1, XC.cell 2, XC.cell 3, XC.cell 4, XC.cell 5, XC.cell 6, XC.cell 7, XC.cell 8, XC.cell 9, XC.cell 10, XC.cell 11, XC.cell 12, XC.cell 13⟩
  clear XC
  go_wp2_with fail
  refine (M2 _).mono ?_
  rintro e w3 ⟨rfl, hb⟩
  have HB3 := Lib.hid (below_two HB2.out hb)
  have HW3 := Lib.hid (HW2.out.bel hb)
  have HS3 := Lib.hid (HS2.out.bel hb)
  clear hb c0 c1 c2 c3 c4 c5 z0 z1 z2 z3 z4 z5 z6 z7 z8 z9 z10 z11 z12 z13 HW2 HS2
  obtain ⟨c0, c1, c2, c3, c4, c5⟩ := HS3.out.cells6
  have XC := HW3.out
  rw [HC.out] at XC
  obtain ⟨z0, z1, z2, z3, z4, z5, z6, z7, z8, z9, z10, z11, z12, z13⟩ : w3.cell? ⟨w.heap.size, 0, none⟩ = some (.int .i64 l) ∧ w3.cell? ⟨w.heap.size, 1, none⟩ = some (.int .i64 wd) ∧ w3.cell? ⟨w.heap.size, 2, none⟩ = some (.int .i64 h) ∧ w3.cell? ⟨w.heap.size, 3, none⟩ = some (.int .i64 i) ∧ w3.cell? ⟨w.heap.size, 4, none⟩ = some (.int .i64 v) ∧ w3.cell? ⟨w.heap.size, 5, none⟩ = some (.int .i64 p) ∧ w3.cell? ⟨w.heap.size, 6, none⟩ = some (.int .i64 W.e.r) ∧ w3.cell? ⟨w.heap.size, 7, none⟩ = some (.int .i64 W.e.c) ∧ w3.cell? ⟨w.heap.size, 8, none⟩ = some (.slice W.e.a W.e.n W.e.cap) ∧ w3.cell? ⟨w.heap.size, 9, none⟩ = some (.slice W.ba W.bn W.bcap) ∧ w3.cell? ⟨w.heap.size, 10, none⟩ = some (.slice W.t.a W.t.n W.t.cap) ∧ w3.cell? ⟨w.heap.size, 11, none⟩ = some (.int .i64 W.hd.r) ∧ w3.cell? ⟨w.heap.size, 12, none⟩ = some (.int .i64 W.hd.c) ∧ w3.cell? ⟨w.heap.size, 13, none⟩ = some (.slice W.hd.a W.hd.n W.hd.cap) := ⟨XC.cell 0, XC.cell 1, XC.cell 2, XC.cell 3, XC.cell 4, XC.cell 5, XC.cell 6, XC.cell 7, XC.cell 8, XC.cell 9, XC.cell 10, XC.cell 11, XC.cell 12, XC.cell 13⟩
  clear XC
  clear M1 M2 r1
  go_wp2_with fail
  clear c0 c1 c2 c3 c4 c5 z0 z1 z2 z3 z4 z5 z6 z7 z8 z9 z10 z11 z12 z13 e1 e2
  go_loopw [4] (fun i' wr => ∃ k : Nat, k ≤ W.bn ∧ i' = .int .i64 k ∧ Hid (Below w3.heap.size w3 wr)) (fun i' _ => W.bn - (intOf i').toNat)
  case atStart => exact ⟨0, by omega, rfl, Lib.hid (Below.refl _ _)⟩
  case round =>
    obtain ⟨k, hk, rfl, hbel⟩ := hrel
    have HB4 := Lib.hid (HB3.out.trans (hbel.out.mono HB3.out.size))
    have XW4 := HW3.out.bel hbel.out
    rw [HC.out] at XW4
    have HS4 := Lib.hid (HS3.out.bel hbel.out)
    have z9 : wr.cell? ⟨w.heap.size, 9, none⟩ = some (.slice W.ba W.bn W.bcap) := XW4.cell 9
    by_cases hlt : k < W.bn
    · obtain ⟨g, off, b, hba, hglt, hc, hbs, hbin⟩ := (HI.out.bel HB4.out).2.2.2.1.at_ hlt
      rw [hba] at z9
      obtain ⟨g1, g2, g3, g4, g5, g6, g7, g8⟩ := HBK.out b (by rw [← hbs.out, List.getD_eq_getElem?_getD, List.getElem?_eq_getElem (by rw [HBL.out]; exact hlt)]; exact List.getElem_mem _)
      have HCK := Lib.hid hc
      have i1 : (k : Int) < (W.bn : Int) := by omega
      have m1 := fun V => MQ b.q wr V hbin.2.2.1 g3
      have m2 := fun V => MQ b.k wr V hbin.2.2.2.1 g4
      have m3 := fun V => MQ b.v wr V hbin.2.2.2.2.1 g5
      have m4 := fun V => MQ b.o wr V hbin.2.2.2.2.2.1 g6
      have m5 := fun V => MU b.u wr V hbin.2.2.2.2.2.2.1 g7
      have m6 := fun V => MD b.d wr V hbin.2.2.2.2.2.2.2 g8
      have f1 : ((b.x.n : Int) != (wd : Int)) = false := by simp; omega
      have f2 : ((b.y.n : Int) != (wd : Int)) = false := by simp; omega
      clear hc hbin hba hbs MQ MU MD XW4 g1 g2 g3 g4 g5 g6 g7 g8
      go_wp2_with (first
        | (refine wpList_load_part (o := ⟨some 58, _, _, _, _, _⟩) rfl 68 _ rfl g (off + k * 20) rfl b.cells _ HCK.out Try.underlying68 rfl (by kernel_rfl) ?_)
        | (refine wpList_store_row (o := ⟨none, .store _ _ _, _, _, _, _⟩) rfl 68 _ _ rfl wr.heap.size b.cells rfl rfl 68 _ (box_new _ _ _) (by kernel_rfl) rfl (bk_one b) ?_
           refine Hid.out ?_))
      generalize hw5 : World.setRow _ wr.heap.size b.cells = w5
      have hb5 : Below wr.heap.size wr w5 := by rw [← hw5]; exact below_setRow ((Below.refl _ _).alloc (Nat.le_refl _) _) (Nat.le_refl _) (by simp)
      have XC5 : Box w5 wr.heap.size 68 b.cells := by rw [← hw5]; exact (box_new _ _ _).setRow
      have HC5 := Lib.hid XC5
      have HR5 := Lib.hid (below_two hbel.out hb5)
      have HS5 := Lib.hid (HS4.out.bel hb5)
      obtain ⟨c0, c1, c2, c3, c4, c5⟩ := HS5.out.cells6
      obtain ⟨y0, y1, y2, y3, y4, y5, y6, y7, y8, y9, y10, y11, y12, y13, y14, y15, y16, y17, y18, y19⟩ := box_bk XC5
      clear hw5 hb5 XC5 z9
      refine Lib.hid ?_
      go_wp2_with fail
      refine (m1 _).mono ?_
      rintro e w6 ⟨rfl, hb⟩
      have HR6 := Lib.hid (below_two HR5.out hb)
      have HC6 := Lib.hid (HC5.out.bel hb)
      have HS6 := Lib.hid (HS5.out.bel hb)
      clear hb c0 c1 c2 c3 c4 c5 y0 y1 y2 y3 y4 y5 y6 y7 y8 y9 y10 y11 y12 y13 y14 y15 y16 y17 y18 y19 HC5 HS5 HR5 m1
      obtain ⟨c0, c1, c2, c3, c4, c5⟩ := HS6.out.cells6
      obtain ⟨y0, y1, y2, y3, y4, y5, y6, y7, y8, y9, y10, y11, y12, y13, y14, y15, y16, y17, y18, y19⟩ := box_bk HC6.out
      go_wp2_with fail
      refine (m2 _).mono ?_
      rintro e w7 ⟨rfl, hb⟩
      have HR7 := Lib.hid (below_two HR6.out hb)
      have HC7 := Lib.hid (HC6.out.bel hb)
      have HS7 := Lib.hid (HS6.out.bel hb)
      clear hb c0 c1 c2 c3 c4 c5 y0 y1 y2 y3 y4 y5 y6 y7 y8 y9 y10 y11 y12 y13 y14 y15 y16 y17 y18 y19 HC6 HS6 HR6 m2
      obtain ⟨c0, c1, c2, c3, c4, c5⟩ := HS7.out.cells6
      obtain ⟨y0, y1, y2, y3, y4, y5, y6, y7, y8, y9, y10, y11, y12, y13, y14, y15, y16, y17, y18, y19⟩ := box_bk HC7.out
      go_wp2_with fail
      refine (m3 _).mono ?_
      rintro e w8 ⟨rfl, hb⟩
      have HR8 := Lib.hid (below_two HR7.out hb)
      have HC8 := Lib.hid (HC7.out.bel hb)
      have HS8 := Lib.hid (HS7.out.bel hb)
      clear hb c0 c1 c2 c3 c4 c5 y0 y1 y2 y3 y4 y5 y6 y7 y8 y9 y10 y11 y12 y13 y14 y15 y16 y17 y18 y19 HC7 HS7 HR7 m3
      obtain ⟨c0, c1, c2, c3, c4, c5⟩ := HS8.out.cells6
      obtain ⟨y0, y1, y2, y3, y4, y5, y6, y7, y8, y9, y10, y11, y12, y13, y14, y15, y16, y17, y18, y19⟩ := box_bk HC8.out
      go_wp2_with fail
      refine (m4 _).mono ?_
      rintro e w9 ⟨rfl, hb⟩
      have HR9 := Lib.hid (below_two HR8.out hb)
      have HC9 := Lib.hid (HC8.out.bel hb)
      have HS9 := Lib.hid (HS8.out.bel hb)
      clear hb c0 c1 c2 c3 c4 c5 y0 y1 y2 y3 y4 y5 y6 y7 y8 y9 y10 y11 y12 y13 y14 y15 y16 y17 y18 y19 HC8 HS8 HR8 m4
      obtain ⟨c0, c1, c2, c3, c4, c5⟩ := HS9.out.cells6
      obtain ⟨y0, y1, y2, y3, y4, y5, y6, y7, y8, y9, y10, y11, y12, y13, y14, y15, y16, y17, y18, y19⟩ := box_bk HC9.out
      go_wp2_with fail
      refine (m5 _).mono ?_
      rintro e w10 ⟨rfl, hb⟩
      have HR10 := Lib.hid (below_two HR9.out hb)
      have HC10 := Lib.hid (HC9.out.bel hb)
      have HS10 := Lib.hid (HS9.out.bel hb)
      clear hb c0 c1 c2 c3 c4 c5 y0 y1 y2 y3 y4 y5 y6 y7 y8 y9 y10 y11 y12 y13 y14 y15 y16 y17 y18 y19 HC9 HS9 HR9 m5
      obtain ⟨c0, c1, c2, c3, c4, c5⟩ := HS10.out.cells6
      obtain ⟨y0, y1, y2, y3, y4, y5, y6, y7, y8, y9, y10, y11, y12, y13, y14, y15, y16, y17, y18, y19⟩ := box_bk HC10.out
      go_wp2_with fail
      refine (m6 _).mono ?_
      rintro e w11 ⟨rfl, hb⟩
      have HR11 := Lib.hid (below_two HR10.out hb)
      have HC11 := Lib.hid (HC10.out.bel hb)
      have HS11 := Lib.hid (HS10.out.bel hb)
      clear hb c0 c1 c2 c3 c4 c5 y0 y1 y2 y3 y4 y5 y6 y7 y8 y9 y10 y11 y12 y13 y14 y15 y16 y17 y18 y19 HC10 HS10 HR10 m6
      go_wp2_with fail
      go_roundw
      case rel => exact ⟨k + 1, by omega, by go_num, HR11⟩
      case measure => simp [intOf]; omega
    · obtain rfl : k = W.bn := by omega
      clear MQ MU MD XW4
      go_wp2_with fail
      go_ret
      exact ⟨rfl, HB4.out⟩
end Go.Proofs.Ytlgnpicnpnibfaa
