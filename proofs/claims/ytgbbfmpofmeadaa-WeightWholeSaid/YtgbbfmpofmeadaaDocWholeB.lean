/-
  The document's Whole: are weights right?
-/
import Derived.Test.YtgbbfmpofmeadaaWholes
import Derived.Test.YtgbbfmpofmeadaaPass
namespace Go.Proofs.Ytgbbfmpofmeadaa
open Go.RowKit
set_option linter.unusedVariables false

theorem at_eqB {w w' : World} (h : w = w') {P : World → Prop} (hp : P w) : P w' := h ▸ hp
set_option maxHeartbeats 25600000 in
set_option maxRecDepth 100000 in
theorem doc_wholeB (W : Wt7) (w : World) (hIn : W.In w) :
    Calls Try.prog 10 #[.agg W.cells] w fun e w' => e = .returned (.bool (wholeB W)) ∧ Below w.heap.size w w' := by
  have h64 := hIn.2.2.2.2.2.2
  have HI := Lib.hid hIn
  obtain ⟨V, hV⟩ : ∃ V, W = V := ⟨W, rfl⟩
  by_cases ok : OkI W.l W.w W.h W.i W.v W.p
  · have r1 := fun V => dright_yes W.l W.w W.h W.i W.v W.p V ok
    obtain ⟨s, hok, e1, e2, e3, e4, e5, e6⟩ := Sz.of ok
    have HWB := Lib.hid (wholeB_ok hok ⟨e1, e2, e3, e4, e5, e6⟩)
    obtain ⟨hl, hh, hw, hi, hv, hp⟩ := hok.bd
    unfold shv at r1
    rw [e1, e2, e3, e4, e5, e6] at r1
    have HC : Hid (W.cells = #[.int .i64 s.l, .int .i64 s.w, .int .i64 s.h, .int .i64 s.i, .int .i64 s.v, .int .i64 s.p, .int .i64 W.e.r, .int .i64 W.e.c, .slice W.e.a W.e.n W.e.cap, .slice W.ba W.bn W.bcap, .slice W.t.a W.t.n W.t.cap, .int .i64 W.hd.r, .int .i64 W.hd.c, .slice W.hd.a W.hd.n W.hd.cap]) := Lib.hid (by unfold Wt7.cells; rw [e1, e2, e3, e4, e5, e6])
    have HR : Hid (wtB s W = (matB s.v s.w W.e && (matB s.v s.w W.hd && (decide (W.t.n = s.w) && (decide (W.bn = s.l) && W.bs.all (bkB s)))))) := Lib.hid (by unfold wtB; simp [Bool.and_assoc])
    have HBK : Hid (∀ b, bkB s b = (decide (b.x.n = s.w) && (decide (b.y.n = s.w) && (matB s.w s.w b.q && (matB s.w s.w b.k && (matB s.w s.w b.v && (matB s.w s.w b.o && (matB s.i s.w b.u && matB s.w s.i b.d)))))))) := Lib.hid (by intro b; unfold bkB; simp [Bool.and_assoc])
    have M1 := fun V => doc_mat W.e s.v s.w (by omega) (by omega) hIn.1.1.2.1 V
    have M2 := fun V => doc_mat W.hd s.v s.w (by omega) (by omega) hIn.2.1.1.2.1 V
    have MQ : ∀ (g : Gr) (U V : World), g.In8 U → Calls Try.prog 23 #[.agg #[.int .i64 g.r, .int .i64 g.c, .slice g.a g.n g.cap], .int .i64 s.w, .int .i64 s.w] V fun e w' => e = .returned (.bool (matB s.w s.w g)) ∧ Below V.heap.size V w' := fun g U V h => doc_mat g s.w s.w (by omega) (by omega) h.1.2.1 V
    have MU : ∀ (g : Gr) (U V : World), g.In8 U → Calls Try.prog 23 #[.agg #[.int .i64 g.r, .int .i64 g.c, .slice g.a g.n g.cap], .int .i64 s.i, .int .i64 s.w] V fun e w' => e = .returned (.bool (matB s.i s.w g)) ∧ Below V.heap.size V w' := fun g U V h => doc_mat g s.i s.w (by omega) (by omega) h.1.2.1 V
    have MD : ∀ (g : Gr) (U V : World), g.In8 U → Calls Try.prog 23 #[.agg #[.int .i64 g.r, .int .i64 g.c, .slice g.a g.n g.cap], .int .i64 s.w, .int .i64 s.i] V fun e w' => e = .returned (.bool (matB s.w s.i g)) ∧ Below V.heap.size V w' := fun g U V h => doc_mat g s.w s.i (by omega) (by omega) h.1.2.1 V
    have HBN := hIn.2.2.2.1.2.1
    have HBL := Lib.hid hIn.2.2.2.1.1
    rw [HWB.out, HC.out]
    generalize matB s.v s.w W.e = x1 at *
    generalize matB s.v s.w W.hd = x2 at *
    generalize hx4 : W.bs.all (bkB s) = x4 at *
    generalize hR0 : wtB s W = R at *
    have HBA : Hid (x4 = W.bs.all (bkB s)) := Lib.hid hx4.symm
    clear ok h64 hIn e1 e2 e3 e4 e5 e6 hok HWB hR0 hV hx4
    obtain ⟨l, wd, h, i, v, p⟩ := s
    simp only at *
    go_enter Try.func10, Try.ntmps10
    go_upto_region 2 with (fail)
    generalize hwa : (w.alloc _).alloc _ = w0
    have hB0 : Below w.heap.size w w0 := by rw [← hwa]; exact ((Below.refl _ _).alloc (Nat.le_refl _) _).alloc (by simp) _
    have XW : Box w0 w.heap.size 32 W.cells := by rw [← hwa, HC.out]; exact (box_new _ _ _).alloc _
    have XS : Box w0 (w.heap.size + 1) 25 #[.int .i64 l, .int .i64 wd, .int .i64 h, .int .i64 i, .int .i64 v, .int .i64 p] := by rw [← hwa]; exact box_at (by simp) _ _
    have HB0 := Lib.hid hB0
    have HW0 := Lib.hid XW
    have HS0 := Lib.hid XS
    clear hwa hB0 XW XS

    obtain ⟨c0, c1, c2, c3, c4, c5⟩ := HS0.out.cells6
    have XC := HW0.out
    rw [HC.out] at XC
    obtain ⟨z0, z1, z2, z3, z4, z5, z6, z7, z8, z9, z10, z11, z12, z13⟩ : w0.cell? ⟨w.heap.size, 0, none⟩ = some (.int .i64 l) ∧ w0.cell? ⟨w.heap.size, 1, none⟩ = some (.int .i64 wd) ∧ w0.cell? ⟨w.heap.size, 2, none⟩ = some (.int .i64 h) ∧ w0.cell? ⟨w.heap.size, 3, none⟩ = some (.int .i64 i) ∧ w0.cell? ⟨w.heap.size, 4, none⟩ = some (.int .i64 v) ∧ w0.cell? ⟨w.heap.size, 5, none⟩ = some (.int .i64 p) ∧ w0.cell? ⟨w.heap.size, 6, none⟩ = some (.int .i64 W.e.r) ∧ w0.cell? ⟨w.heap.size, 7, none⟩ = some (.int .i64 W.e.c) ∧ w0.cell? ⟨w.heap.size, 8, none⟩ = some (.slice W.e.a W.e.n W.e.cap) ∧ w0.cell? ⟨w.heap.size, 9, none⟩ = some (.slice W.ba W.bn W.bcap) ∧ w0.cell? ⟨w.heap.size, 10, none⟩ = some (.slice W.t.a W.t.n W.t.cap) ∧ w0.cell? ⟨w.heap.size, 11, none⟩ = some (.int .i64 W.hd.r) ∧ w0.cell? ⟨w.heap.size, 12, none⟩ = some (.int .i64 W.hd.c) ∧ w0.cell? ⟨w.heap.size, 13, none⟩ = some (.slice W.hd.a W.hd.n W.hd.cap) := ⟨XC.cell 0, XC.cell 1, XC.cell 2, XC.cell 3, XC.cell 4, XC.cell 5, XC.cell 6, XC.cell 7, XC.cell 8, XC.cell 9, XC.cell 10, XC.cell 11, XC.cell 12, XC.cell 13⟩
    clear XC
    go_wp2_with fail
    refine (r1 _).mono ?_
    rintro e w1 ⟨rfl, hb⟩
    have HB1 := Lib.hid (below_two HB0.out hb)
    have HW1 := Lib.hid (HW0.out.bel hb)
    have HS1 := Lib.hid (HS0.out.bel hb)
    clear hb c0 c1 c2 c3 c4 c5 z0 z1 z2 z3 z4 z5 z6 z7 z8 z9 z10 z11 z12 z13 HW0 HS0
    obtain ⟨c0, c1, c2, c3, c4, c5⟩ := HS1.out.cells6
    have XC := HW1.out
    rw [HC.out] at XC
    obtain ⟨z0, z1, z2, z3, z4, z5, z6, z7, z8, z9, z10, z11, z12, z13⟩ : w1.cell? ⟨w.heap.size, 0, none⟩ = some (.int .i64 l) ∧ w1.cell? ⟨w.heap.size, 1, none⟩ = some (.int .i64 wd) ∧ w1.cell? ⟨w.heap.size, 2, none⟩ = some (.int .i64 h) ∧ w1.cell? ⟨w.heap.size, 3, none⟩ = some (.int .i64 i) ∧ w1.cell? ⟨w.heap.size, 4, none⟩ = some (.int .i64 v) ∧ w1.cell? ⟨w.heap.size, 5, none⟩ = some (.int .i64 p) ∧ w1.cell? ⟨w.heap.size, 6, none⟩ = some (.int .i64 W.e.r) ∧ w1.cell? ⟨w.heap.size, 7, none⟩ = some (.int .i64 W.e.c) ∧ w1.cell? ⟨w.heap.size, 8, none⟩ = some (.slice W.e.a W.e.n W.e.cap) ∧ w1.cell? ⟨w.heap.size, 9, none⟩ = some (.slice W.ba W.bn W.bcap) ∧ w1.cell? ⟨w.heap.size, 10, none⟩ = some (.slice W.t.a W.t.n W.t.cap) ∧ w1.cell? ⟨w.heap.size, 11, none⟩ = some (.int .i64 W.hd.r) ∧ w1.cell? ⟨w.heap.size, 12, none⟩ = some (.int .i64 W.hd.c) ∧ w1.cell? ⟨w.heap.size, 13, none⟩ = some (.slice W.hd.a W.hd.n W.hd.cap) := ⟨XC.cell 0, XC.cell 1, XC.cell 2, XC.cell 3, XC.cell 4, XC.cell 5, XC.cell 6, XC.cell 7, XC.cell 8, XC.cell 9, XC.cell 10, XC.cell 11, XC.cell 12, XC.cell 13⟩
    clear XC
    go_wp2_with fail
    refine (M1 _).mono ?_
    rintro e w2 ⟨rfl, hb⟩
    have HB2 := Lib.hid (below_two HB1.out hb)
    have HW2 := Lib.hid (HW1.out.bel hb)
    have HS2 := Lib.hid (HS1.out.bel hb)
    clear hb c0 c1 c2 c3 c4 c5 z0 z1 z2 z3 z4 z5 z6 z7 z8 z9 z10 z11 z12 z13 HW1 HS1
    cases x1 with
    | false =>
      go_wp2_with fail
      go_ret
      exact ⟨ret_bool (by rw [HR.out]; simp), HB2.out⟩
    | true =>
      obtain ⟨c0, c1, c2, c3, c4, c5⟩ := HS2.out.cells6
      have XC := HW2.out
      rw [HC.out] at XC
      obtain ⟨z0, z1, z2, z3, z4, z5, z6, z7, z8, z9, z10, z11, z12, z13⟩ : w2.cell? ⟨w.heap.size, 0, none⟩ = some (.int .i64 l) ∧ w2.cell? ⟨w.heap.size, 1, none⟩ = some (.int .i64 wd) ∧ w2.cell? ⟨w.heap.size, 2, none⟩ = some (.int .i64 h) ∧ w2.cell? ⟨w.heap.size, 3, none⟩ = some (.int .i64 i) ∧ w2.cell? ⟨w.heap.size, 4, none⟩ = some (.int .i64 v) ∧ w2.cell? ⟨w.heap.size, 5, none⟩ = some (.int .i64 p) ∧ w2.cell? ⟨w.heap.size, 6, none⟩ = some (.int .i64 W.e.r) ∧ w2.cell? ⟨w.heap.size, 7, none⟩ = some (.int .i64 W.e.c) ∧ w2.cell? ⟨w.heap.size, 8, none⟩ = some (.slice W.e.a W.e.n W.e.cap) ∧ w2.cell? ⟨w.heap.size, 9, none⟩ = some (.slice W.ba W.bn W.bcap) ∧ w2.cell? ⟨w.heap.size, 10, none⟩ = some (.slice W.t.a W.t.n W.t.cap) ∧ w2.cell? ⟨w.heap.size, 11, none⟩ = some (.int .i64 W.hd.r) ∧ w2.cell? ⟨w.heap.size, 12, none⟩ = some (.int .i64 W.hd.c) ∧ w2.cell? ⟨w.heap.size, 13, none⟩ = some (.slice W.hd.a W.hd.n W.hd.cap) := ⟨XC.cell 0, XC.cell 1, XC.cell 2, XC.cell 3, XC.cell 4, XC.cell 5, XC.cell 6, XC.cell 7, XC.cell 8, XC.cell 9, XC.cell 10, XC.cell 11, XC.cell 12, XC.cell 13⟩
      clear XC
      go_wp2_with fail
      refine (M2 _).mono ?_
      rintro e w3 ⟨rfl, hb⟩
      have HB3 := Lib.hid (below_two HB2.out hb)
      have HW3 := Lib.hid (HW2.out.bel hb)
      have HS3 := Lib.hid (HS2.out.bel hb)
      clear hb c0 c1 c2 c3 c4 c5 z0 z1 z2 z3 z4 z5 z6 z7 z8 z9 z10 z11 z12 z13 HW2 HS2
      cases x2 with
      | false =>
        go_wp2_with fail
        go_ret
        exact ⟨ret_bool (by rw [HR.out]; simp), HB3.out⟩
      | true =>
        obtain ⟨c0, c1, c2, c3, c4, c5⟩ := HS3.out.cells6
        have XC := HW3.out
        rw [HC.out] at XC
        obtain ⟨z0, z1, z2, z3, z4, z5, z6, z7, z8, z9, z10, z11, z12, z13⟩ : w3.cell? ⟨w.heap.size, 0, none⟩ = some (.int .i64 l) ∧ w3.cell? ⟨w.heap.size, 1, none⟩ = some (.int .i64 wd) ∧ w3.cell? ⟨w.heap.size, 2, none⟩ = some (.int .i64 h) ∧ w3.cell? ⟨w.heap.size, 3, none⟩ = some (.int .i64 i) ∧ w3.cell? ⟨w.heap.size, 4, none⟩ = some (.int .i64 v) ∧ w3.cell? ⟨w.heap.size, 5, none⟩ = some (.int .i64 p) ∧ w3.cell? ⟨w.heap.size, 6, none⟩ = some (.int .i64 W.e.r) ∧ w3.cell? ⟨w.heap.size, 7, none⟩ = some (.int .i64 W.e.c) ∧ w3.cell? ⟨w.heap.size, 8, none⟩ = some (.slice W.e.a W.e.n W.e.cap) ∧ w3.cell? ⟨w.heap.size, 9, none⟩ = some (.slice W.ba W.bn W.bcap) ∧ w3.cell? ⟨w.heap.size, 10, none⟩ = some (.slice W.t.a W.t.n W.t.cap) ∧ w3.cell? ⟨w.heap.size, 11, none⟩ = some (.int .i64 W.hd.r) ∧ w3.cell? ⟨w.heap.size, 12, none⟩ = some (.int .i64 W.hd.c) ∧ w3.cell? ⟨w.heap.size, 13, none⟩ = some (.slice W.hd.a W.hd.n W.hd.cap) := ⟨XC.cell 0, XC.cell 1, XC.cell 2, XC.cell 3, XC.cell 4, XC.cell 5, XC.cell 6, XC.cell 7, XC.cell 8, XC.cell 9, XC.cell 10, XC.cell 11, XC.cell 12, XC.cell 13⟩
        clear XC
        by_cases h1 : W.t.n = wd
        · have e1 : ((W.t.n : Int) != (wd : Int)) = false := by simp; omega
          by_cases h2 : W.bn = l
          · have e2 : ((W.bn : Int) != (l : Int)) = false := by simp; omega
            have HR2 : Hid (R = x4) := Lib.hid (by rw [HR.out, decide_eq_true h1, decide_eq_true h2]; simp)
            have H2 := Lib.hid h2
            clear HR h1 h2 M1 M2 r1
            go_wp2_with fail
            clear c0 c1 c2 c3 c4 c5 z0 z1 z2 z3 z4 z5 z6 z7 z8 z9 z10 z11 z12 z13
            go_loopw [4] (fun i' wr => ∃ k : Nat, k ≤ W.bn ∧ i' = .int .i64 k ∧ Hid ((W.bs.take k).all (bkB ⟨l, wd, h, i, v, p⟩) = true) ∧ Hid (Below w3.heap.size w3 wr)) (fun i' _ => W.bn - (intOf i').toNat)
            case atStart => exact ⟨0, by omega, rfl, Lib.hid (by simp), Lib.hid (Below.refl _ _)⟩
            case round =>
              obtain ⟨k, hk, rfl, ht, hbel⟩ := hrel
              have HB4 := Lib.hid (HB3.out.trans (hbel.out.mono HB3.out.size))
              have XW4 := HW3.out.bel hbel.out
              rw [HC.out] at XW4
              have HS4 := Lib.hid (HS3.out.bel hbel.out)
              have z9 : wr.cell? ⟨w.heap.size, 9, none⟩ = some (.slice W.ba W.bn W.bcap) := XW4.cell 9
              by_cases hlt : k < W.bn
              · obtain ⟨g, off, b, hba, hglt, hc, hbs, hbin⟩ := (HI.out.bel HB4.out).2.2.2.1.at_ hlt
                rw [hba] at z9
                obtain ⟨hst, hend⟩ := all_step (bkB ⟨l, wd, h, i, v, p⟩) W.bs k (by rw [HBL.out]; exact hlt) b hbs.out ht.out
                have HST := Lib.hid hst
                have HEND := Lib.hid hend
                have HCK := Lib.hid hc
                have HIN := Lib.hid hbin
                have HBB := Lib.hid (HBK.out b)
                have i1 : (k : Int) < (W.bn : Int) := by omega
                have m1 := fun V => MQ b.q wr V hbin.2.2.1
                have m2 := fun V => MQ b.k wr V hbin.2.2.2.1
                have m3 := fun V => MQ b.v wr V hbin.2.2.2.2.1
                have m4 := fun V => MQ b.o wr V hbin.2.2.2.2.2.1
                have m5 := fun V => MU b.u wr V hbin.2.2.2.2.2.2.1
                have m6 := fun V => MD b.d wr V hbin.2.2.2.2.2.2.2
                try simp only at HBB
                clear hst hend hc hbin hba hbs MQ MU MD XW4
                generalize bkB ⟨l, wd, h, i, v, p⟩ b = KB at HBB HST HEND
                generalize matB wd wd b.q = q1 at *
                generalize matB wd wd b.k = q2 at *
                generalize matB wd wd b.v = q3 at *
                generalize matB wd wd b.o = q4 at *
                generalize matB i wd b.u = q5 at *
                generalize matB wd i b.d = q6 at *
                by_cases g1 : b.x.n = wd
                · have f1 : ((b.x.n : Int) != (wd : Int)) = false := by simp; omega
                  by_cases g2 : b.y.n = wd
                  · have f2 : ((b.y.n : Int) != (wd : Int)) = false := by simp; omega
                    have HB2 : Hid (KB = (q1 && (q2 && (q3 && (q4 && (q5 && q6)))))) := Lib.hid (by rw [HBB.out, decide_eq_true g1, decide_eq_true g2]; simp)
                    clear g1 g2 HBB
                    go_wp2_with (first
                      | (refine wpList_load_part (o := ⟨some 58, _, _, _, _, _⟩) rfl 39 _ rfl g (off + k * 20) rfl b.cells _ HCK.out Try.underlying39 rfl (by kernel_rfl) ?_)
                      | (refine wpList_store_row (o := ⟨none, .store _ _ _, _, _, _, _⟩) rfl 39 _ _ rfl wr.heap.size b.cells rfl rfl 39 _ (box_new _ _ _) (by kernel_rfl) rfl (bk_one b) ?_
                         refine Hid.out ?_))
                    generalize hw5 : World.setRow _ wr.heap.size b.cells = w5
                    have hb5 : Below wr.heap.size wr w5 := by rw [← hw5]; exact below_setRow ((Below.refl _ _).alloc (Nat.le_refl _) _) (Nat.le_refl _) (by simp)
                    have XC5 : Box w5 wr.heap.size 39 b.cells := by rw [← hw5]; exact (box_new _ _ _).setRow
                    have HC5 := Lib.hid XC5
                    have HB5 := Lib.hid (below_two HB4.out hb5)
                    have HR5 := Lib.hid (below_two hbel.out hb5)
                    have HS5 := Lib.hid (HS4.out.bel hb5)
                    obtain ⟨c0, c1, c2, c3, c4, c5⟩ := HS5.out.cells6
                    obtain ⟨y0, y1, y2, y3, y4, y5, y6, y7, y8, y9, y10, y11, y12, y13, y14, y15, y16, y17, y18, y19⟩ := box_bk XC5
                    clear hw5 hb5 XC5 z9
                    refine Lib.hid ?_
                    go_wp2_with fail
                    refine (m1 _).mono ?_
                    rintro e w6 ⟨rfl, hb⟩
                    have HB6 := Lib.hid (below_two HB5.out hb)
                    have HR6 := Lib.hid (below_two HR5.out hb)
                    have HC6 := Lib.hid (HC5.out.bel hb)
                    have HS6 := Lib.hid (HS5.out.bel hb)
                    clear hb c0 c1 c2 c3 c4 c5 y0 y1 y2 y3 y4 y5 y6 y7 y8 y9 y10 y11 y12 y13 y14 y15 y16 y17 y18 y19 HC5 HS5 HR5
                    cases q1 with
                    | false =>
                      have HNO := Lib.hid (HEND.out (by rw [HB2.out]; simp))
                      dsimp only
                      refine (‹∀ (a : Act) (w : World), wpList _ _ _ _ a w → _›) _ _ (wpList_passQ _ _ 132 133 (.bool true) ?hp ?kp)
                      case hp => kernel_rfl
                      case kp =>
                        intro bf hb1 hb2 hb3
                        refine (‹∀ (a : Act) (w : World), Code.wp _ (Code.cond _ _ _) _ a w → _›) _ _ (wp_cond_lay_ret (s := 2) (v := .bool false) hb1 rfl rfl rfl (by rw [hb2]; omega) (fun b2 k1 k2 => ?_))
                        simp only [Exit.inBlock, Exit.then]
                        go_big_unhide
                        (try simp only [Exit.inBlock, Exit.then])
                        refine bodyPost_ret (P := Try.prog) (fn := Try.f10) (results_tmp rfl _ _ _) (by rw [k2]; exact List.length_eq_zero_iff.1 hb3) ?_
                        rw [k1]
                        exact ⟨ret_bool (by rw [HR2.out, HBA.out, HNO.out]), HB6.out⟩
                    | true =>
                      obtain ⟨c0, c1, c2, c3, c4, c5⟩ := HS6.out.cells6
                      obtain ⟨y0, y1, y2, y3, y4, y5, y6, y7, y8, y9, y10, y11, y12, y13, y14, y15, y16, y17, y18, y19⟩ := box_bk HC6.out
                      go_wp2_with fail
                      refine (m2 _).mono ?_
                      rintro e w7 ⟨rfl, hb⟩
                      have HB7 := Lib.hid (below_two HB6.out hb)
                      have HR7 := Lib.hid (below_two HR6.out hb)
                      have HC7 := Lib.hid (HC6.out.bel hb)
                      have HS7 := Lib.hid (HS6.out.bel hb)
                      clear hb c0 c1 c2 c3 c4 c5 y0 y1 y2 y3 y4 y5 y6 y7 y8 y9 y10 y11 y12 y13 y14 y15 y16 y17 y18 y19 HC6 HS6 HR6
                      cases q2 with
                      | false =>
                        have HNO := Lib.hid (HEND.out (by rw [HB2.out]; simp))
                        dsimp only
                        refine (‹∀ (a : Act) (w : World), wpList _ _ _ _ a w → _›) _ _ (wpList_passQ _ _ 132 133 (.bool true) ?hp ?kp)
                        case hp => kernel_rfl
                        case kp =>
                          intro bf hb1 hb2 hb3
                          refine (‹∀ (a : Act) (w : World), Code.wp _ (Code.cond _ _ _) _ a w → _›) _ _ (wp_cond_lay_ret (s := 2) (v := .bool false) hb1 rfl rfl rfl (by rw [hb2]; omega) (fun b2 k1 k2 => ?_))
                          simp only [Exit.inBlock, Exit.then]
                          go_big_unhide
                          (try simp only [Exit.inBlock, Exit.then])
                          refine bodyPost_ret (P := Try.prog) (fn := Try.f10) (results_tmp rfl _ _ _) (by rw [k2]; exact List.length_eq_zero_iff.1 hb3) ?_
                          rw [k1]
                          exact ⟨ret_bool (by rw [HR2.out, HBA.out, HNO.out]), HB7.out⟩
                      | true =>
                        obtain ⟨c0, c1, c2, c3, c4, c5⟩ := HS7.out.cells6
                        obtain ⟨y0, y1, y2, y3, y4, y5, y6, y7, y8, y9, y10, y11, y12, y13, y14, y15, y16, y17, y18, y19⟩ := box_bk HC7.out
                        go_wp2_with fail
                        refine (m3 _).mono ?_
                        rintro e w8 ⟨rfl, hb⟩
                        have HB8 := Lib.hid (below_two HB7.out hb)
                        have HR8 := Lib.hid (below_two HR7.out hb)
                        have HC8 := Lib.hid (HC7.out.bel hb)
                        have HS8 := Lib.hid (HS7.out.bel hb)
                        clear hb c0 c1 c2 c3 c4 c5 y0 y1 y2 y3 y4 y5 y6 y7 y8 y9 y10 y11 y12 y13 y14 y15 y16 y17 y18 y19 HC7 HS7 HR7
                        cases q3 with
                        | false =>
                          have HNO := Lib.hid (HEND.out (by rw [HB2.out]; simp))
                          dsimp only
                          refine (‹∀ (a : Act) (w : World), wpList _ _ _ _ a w → _›) _ _ (wpList_passQ _ _ 132 133 (.bool true) ?hp ?kp)
                          case hp => kernel_rfl
                          case kp =>
                            intro bf hb1 hb2 hb3
                            refine (‹∀ (a : Act) (w : World), Code.wp _ (Code.cond _ _ _) _ a w → _›) _ _ (wp_cond_lay_ret (s := 2) (v := .bool false) hb1 rfl rfl rfl (by rw [hb2]; omega) (fun b2 k1 k2 => ?_))
                            simp only [Exit.inBlock, Exit.then]
                            go_big_unhide
                            (try simp only [Exit.inBlock, Exit.then])
                            refine bodyPost_ret (P := Try.prog) (fn := Try.f10) (results_tmp rfl _ _ _) (by rw [k2]; exact List.length_eq_zero_iff.1 hb3) ?_
                            rw [k1]
                            exact ⟨ret_bool (by rw [HR2.out, HBA.out, HNO.out]), HB8.out⟩
                        | true =>
                          obtain ⟨c0, c1, c2, c3, c4, c5⟩ := HS8.out.cells6
                          obtain ⟨y0, y1, y2, y3, y4, y5, y6, y7, y8, y9, y10, y11, y12, y13, y14, y15, y16, y17, y18, y19⟩ := box_bk HC8.out
                          go_wp2_with fail
                          refine (m4 _).mono ?_
                          rintro e w9 ⟨rfl, hb⟩
                          have HB9 := Lib.hid (below_two HB8.out hb)
                          have HR9 := Lib.hid (below_two HR8.out hb)
                          have HC9 := Lib.hid (HC8.out.bel hb)
                          have HS9 := Lib.hid (HS8.out.bel hb)
                          clear hb c0 c1 c2 c3 c4 c5 y0 y1 y2 y3 y4 y5 y6 y7 y8 y9 y10 y11 y12 y13 y14 y15 y16 y17 y18 y19 HC8 HS8 HR8
                          cases q4 with
                          | false =>
                            have HNO := Lib.hid (HEND.out (by rw [HB2.out]; simp))
                            dsimp only
                            refine (‹∀ (a : Act) (w : World), wpList _ _ _ _ a w → _›) _ _ (wpList_passQ _ _ 132 133 (.bool true) ?hp ?kp)
                            case hp => kernel_rfl
                            case kp =>
                              intro bf hb1 hb2 hb3
                              refine (‹∀ (a : Act) (w : World), Code.wp _ (Code.cond _ _ _) _ a w → _›) _ _ (wp_cond_lay_ret (s := 2) (v := .bool false) hb1 rfl rfl rfl (by rw [hb2]; omega) (fun b2 k1 k2 => ?_))
                              simp only [Exit.inBlock, Exit.then]
                              go_big_unhide
                              (try simp only [Exit.inBlock, Exit.then])
                              refine bodyPost_ret (P := Try.prog) (fn := Try.f10) (results_tmp rfl _ _ _) (by rw [k2]; exact List.length_eq_zero_iff.1 hb3) ?_
                              rw [k1]
                              exact ⟨ret_bool (by rw [HR2.out, HBA.out, HNO.out]), HB9.out⟩
                          | true =>
                            obtain ⟨c0, c1, c2, c3, c4, c5⟩ := HS9.out.cells6
                            obtain ⟨y0, y1, y2, y3, y4, y5, y6, y7, y8, y9, y10, y11, y12, y13, y14, y15, y16, y17, y18, y19⟩ := box_bk HC9.out
                            go_wp2_with fail
                            refine (m5 _).mono ?_
                            rintro e w10 ⟨rfl, hb⟩
                            have HB10 := Lib.hid (below_two HB9.out hb)
                            have HR10 := Lib.hid (below_two HR9.out hb)
                            have HC10 := Lib.hid (HC9.out.bel hb)
                            have HS10 := Lib.hid (HS9.out.bel hb)
                            clear hb c0 c1 c2 c3 c4 c5 y0 y1 y2 y3 y4 y5 y6 y7 y8 y9 y10 y11 y12 y13 y14 y15 y16 y17 y18 y19 HC9 HS9 HR9
                            cases q5 with
                            | false =>
                              have HNO := Lib.hid (HEND.out (by rw [HB2.out]; simp))
                              dsimp only
                              refine (‹∀ (a : Act) (w : World), wpList _ _ _ _ a w → _›) _ _ (wpList_passQ _ _ 132 133 (.bool true) ?hp ?kp)
                              case hp => kernel_rfl
                              case kp =>
                                intro bf hb1 hb2 hb3
                                refine (‹∀ (a : Act) (w : World), Code.wp _ (Code.cond _ _ _) _ a w → _›) _ _ (wp_cond_lay_ret (s := 2) (v := .bool false) hb1 rfl rfl rfl (by rw [hb2]; omega) (fun b2 k1 k2 => ?_))
                                simp only [Exit.inBlock, Exit.then]
                                go_big_unhide
                                (try simp only [Exit.inBlock, Exit.then])
                                refine bodyPost_ret (P := Try.prog) (fn := Try.f10) (results_tmp rfl _ _ _) (by rw [k2]; exact List.length_eq_zero_iff.1 hb3) ?_
                                rw [k1]
                                exact ⟨ret_bool (by rw [HR2.out, HBA.out, HNO.out]), HB10.out⟩
                            | true =>
                              obtain ⟨c0, c1, c2, c3, c4, c5⟩ := HS10.out.cells6
                              obtain ⟨y0, y1, y2, y3, y4, y5, y6, y7, y8, y9, y10, y11, y12, y13, y14, y15, y16, y17, y18, y19⟩ := box_bk HC10.out
                              go_wp2_with fail
                              refine (m6 _).mono ?_
                              rintro e w11 ⟨rfl, hb⟩
                              have HB11 := Lib.hid (below_two HB10.out hb)
                              have HR11 := Lib.hid (below_two HR10.out hb)
                              have HC11 := Lib.hid (HC10.out.bel hb)
                              have HS11 := Lib.hid (HS10.out.bel hb)
                              clear hb c0 c1 c2 c3 c4 c5 y0 y1 y2 y3 y4 y5 y6 y7 y8 y9 y10 y11 y12 y13 y14 y15 y16 y17 y18 y19 HC10 HS10 HR10
                              cases q6 with
                              | false =>
                                have HNO := Lib.hid (HEND.out (by rw [HB2.out]; simp))
                                dsimp only
                                refine (‹∀ (a : Act) (w : World), wpList _ _ _ _ a w → _›) _ _ (wpList_passQ _ _ 132 133 (.bool true) ?hp ?kp)
                                case hp => kernel_rfl
                                case kp =>
                                  intro bf hb1 hb2 hb3
                                  refine (‹∀ (a : Act) (w : World), Code.wp _ (Code.cond _ _ _) _ a w → _›) _ _ (wp_cond_lay_ret (s := 2) (v := .bool false) hb1 rfl rfl rfl (by rw [hb2]; omega) (fun b2 k1 k2 => ?_))
                                  simp only [Exit.inBlock, Exit.then]
                                  go_big_unhide
                                  (try simp only [Exit.inBlock, Exit.then])
                                  refine bodyPost_ret (P := Try.prog) (fn := Try.f10) (results_tmp rfl _ _ _) (by rw [k2]; exact List.length_eq_zero_iff.1 hb3) ?_
                                  rw [k1]
                                  exact ⟨ret_bool (by rw [HR2.out, HBA.out, HNO.out]), HB11.out⟩
                              | true =>
                                have HT2 : Hid ((W.bs.take (k + 1)).all (bkB ⟨l, wd, h, i, v, p⟩) = true) := Lib.hid (by rw [HST.out, HB2.out]; rfl)
                                go_wp2_with fail
                                go_roundw
                                case rel => exact ⟨k + 1, by omega, by go_num, HT2, HR11⟩
                                case measure => simp [intOf]; omega
                  · have f2 : ((b.y.n : Int) != (wd : Int)) = true := by simp; omega
                    have HNO := Lib.hid (HEND.out (by rw [HBB.out, decide_eq_false g2]; simp))
                    clear g1 g2 HBB
                    go_wp2_with (first
                      | (refine wpList_load_part (o := ⟨some 58, _, _, _, _, _⟩) rfl 39 _ rfl g (off + k * 20) rfl b.cells _ HCK.out Try.underlying39 rfl (by kernel_rfl) ?_)
                      | (refine wpList_store_row (o := ⟨none, .store _ _ _, _, _, _, _⟩) rfl 39 _ _ rfl wr.heap.size b.cells rfl rfl 39 _ (box_new _ _ _) (by kernel_rfl) rfl (bk_one b) ?_
                         refine Hid.out ?_))
                    generalize hw5 : World.setRow _ wr.heap.size b.cells = w5
                    have hb5 : Below wr.heap.size wr w5 := by rw [← hw5]; exact below_setRow ((Below.refl _ _).alloc (Nat.le_refl _) _) (Nat.le_refl _) (by simp)
                    have XC5 : Box w5 wr.heap.size 39 b.cells := by rw [← hw5]; exact (box_new _ _ _).setRow
                    have HC5 := Lib.hid XC5
                    have HB5 := Lib.hid (below_two HB4.out hb5)
                    have HR5 := Lib.hid (below_two hbel.out hb5)
                    have HS5 := Lib.hid (HS4.out.bel hb5)
                    obtain ⟨c0, c1, c2, c3, c4, c5⟩ := HS5.out.cells6
                    obtain ⟨y0, y1, y2, y3, y4, y5, y6, y7, y8, y9, y10, y11, y12, y13, y14, y15, y16, y17, y18, y19⟩ := box_bk XC5
                    clear hw5 hb5 XC5 z9
                    refine Lib.hid ?_
                    repeat ((fail_if_success (refine wpList_stop (o := ⟨some 72, _, _, _, _, _⟩) ?_)); (first | go_values | go_skip | go_guarded | go_step | go_upon | go_back))
                    refine wpList_passQ _ _ 132 133 (.bool true) ?hp ?kp
                    case hp => kernel_rfl
                    case kp =>
                      intro bf hb1 hb2 hb3
                      refine (‹∀ (a : Act) (w : World), Code.wp _ (Code.cond _ _ _) _ a w → _›) _ _ (wp_cond_lay_ret (s := 2) (v := .bool false) hb1 rfl rfl rfl (by rw [hb2]; omega) (fun b2 k1 k2 => ?_))
                      simp only [Exit.inBlock, Exit.then]
                      go_big_unhide
                      (try simp only [Exit.inBlock, Exit.then])
                      refine bodyPost_ret (P := Try.prog) (fn := Try.f10) (results_tmp rfl _ _ _) (by rw [k2]; exact List.length_eq_zero_iff.1 hb3) ?_
                      rw [k1]
                      exact ⟨ret_bool (by rw [HR2.out, HBA.out, HNO.out]), HB5.out⟩
                · have f1 : ((b.x.n : Int) != (wd : Int)) = true := by simp; omega
                  have HNO := Lib.hid (HEND.out (by rw [HBB.out, decide_eq_false g1]; simp))
                  clear g1 HBB
                  go_wp2_with (first
                    | (refine wpList_load_part (o := ⟨some 58, _, _, _, _, _⟩) rfl 39 _ rfl g (off + k * 20) rfl b.cells _ HCK.out Try.underlying39 rfl (by kernel_rfl) ?_)
                    | (refine wpList_store_row (o := ⟨none, .store _ _ _, _, _, _, _⟩) rfl 39 _ _ rfl wr.heap.size b.cells rfl rfl 39 _ (box_new _ _ _) (by kernel_rfl) rfl (bk_one b) ?_
                       refine Hid.out ?_))
                  generalize hw5 : World.setRow _ wr.heap.size b.cells = w5
                  have hb5 : Below wr.heap.size wr w5 := by rw [← hw5]; exact below_setRow ((Below.refl _ _).alloc (Nat.le_refl _) _) (Nat.le_refl _) (by simp)
                  have XC5 : Box w5 wr.heap.size 39 b.cells := by rw [← hw5]; exact (box_new _ _ _).setRow
                  have HC5 := Lib.hid XC5
                  have HB5 := Lib.hid (below_two HB4.out hb5)
                  have HR5 := Lib.hid (below_two hbel.out hb5)
                  have HS5 := Lib.hid (HS4.out.bel hb5)
                  obtain ⟨c0, c1, c2, c3, c4, c5⟩ := HS5.out.cells6
                  obtain ⟨y0, y1, y2, y3, y4, y5, y6, y7, y8, y9, y10, y11, y12, y13, y14, y15, y16, y17, y18, y19⟩ := box_bk XC5
                  clear hw5 hb5 XC5 z9
                  refine Lib.hid ?_
                  repeat ((fail_if_success (refine wpList_stop (o := ⟨some 65, _, _, _, _, _⟩) ?_)); (first | go_values | go_skip | go_guarded | go_step | go_upon | go_back))
                  refine wpList_passQ _ _ 132 133 (.bool true) ?hp ?kp
                  case hp => kernel_rfl
                  case kp =>
                    intro bf hb1 hb2 hb3
                    refine (‹∀ (a : Act) (w : World), Code.wp _ (Code.cond _ _ _) _ a w → _›) _ _ (wp_cond_lay_ret (s := 2) (v := .bool false) hb1 rfl rfl rfl (by rw [hb2]; omega) (fun b2 k1 k2 => ?_))
                    simp only [Exit.inBlock, Exit.then]
                    go_big_unhide
                    (try simp only [Exit.inBlock, Exit.then])
                    refine bodyPost_ret (P := Try.prog) (fn := Try.f10) (results_tmp rfl _ _ _) (by rw [k2]; exact List.length_eq_zero_iff.1 hb3) ?_
                    rw [k1]
                    exact ⟨ret_bool (by rw [HR2.out, HBA.out, HNO.out]), HB5.out⟩
              · obtain rfl : k = W.bn := by omega
                have HT2 : Hid (W.bs.all (bkB ⟨l, wd, h, i, v, p⟩) = true) := Lib.hid (by rw [← ht.out, List.take_of_length_le (by rw [HBL.out]; omega)])
                clear MQ MU MD XW4
                go_wp2_with fail
                go_ret
                exact ⟨ret_bool (by rw [HR2.out, HBA.out, HT2.out]), HB4.out⟩
          · have e2 : ((W.bn : Int) != (l : Int)) = true := by simp; omega
            have HR2 : Hid (R = false) := Lib.hid (by rw [HR.out, decide_eq_false h2]; simp)
            clear HR h1 h2
            go_wp2_with fail
            go_ret
            exact ⟨ret_bool (by rw [HR2.out]), HB3.out⟩
        · have e1 : ((W.t.n : Int) != (wd : Int)) = true := by simp; omega
          have HR2 : Hid (R = false) := Lib.hid (by rw [HR.out, decide_eq_false h1]; simp)
          clear HR h1
          go_wp2_with fail
          go_ret
          exact ⟨ret_bool (by rw [HR2.out]), HB3.out⟩
  · have r1 := fun V => dright_no W.l W.w W.h W.i W.v W.p V h64 ok
    have HNO := Lib.hid (wholeB_no ok)
    clear ok h64 hIn hV
    unfold Wt7.cells
    unfold shv at r1
    go_enter Try.func10, Try.ntmps10
    go_wp2_with fail
    refine (r1 _).mono ?_
    rintro e w1 ⟨rfl, hb⟩
    have HB1 := Lib.hid (below_two (((Below.refl w.heap.size w).alloc (Nat.le_refl _) _).alloc (by simp) _) hb)
    clear hb r1
    go_wp2_with fail
    go_ret
    exact ⟨ret_bool HNO.out.symm, HB1.out⟩

end Go.Proofs.Ytgbbfmpofmeadaa
