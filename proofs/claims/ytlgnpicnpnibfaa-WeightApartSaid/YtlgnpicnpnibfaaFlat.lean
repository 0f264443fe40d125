/-
  The document's Flat: all numbers of weights, in the file's order.
-/
import Derived.Test.YtlgnpicnpnibfaaRunsAll
import Derived.Test.YtlgnpicnpnibfaaAppRow
namespace Go.Proofs.Ytlgnpicnpnibfaa
open Go.RowKit
set_option linter.unusedVariables false

/-- a row behind a row of the call's own: what of the rest of memory is so -/
theorem app_row (base : Nat) (W0 w : World) (hB : Below base W0 w) (hbase : base ≤ w.heap.size) (v : Value) (n : Nat) (xs : List Int) (hown : w.ownsRow base 55 1 v n (xs.map (.int .i8))) (q : Rw) (hq : q.In .i8 w) (hn : n ≤ 16777216) (hm : q.n ≤ 16777216) :
    ∃ v' w', Sem.run Try.prog (Builtin.append_ #[40, 40] 40 #[v, .slice q.a q.n q.cap]) w = .ok v' w' ∧ w'.ownsRow base 55 1 v' (n + q.n) ((xs ++ q.v).map (.int .i8)) ∧ Below base W0 w' ∧ ∀ g T cs, T ≠ 55 → Box w g T cs → Box w' g T cs := by
  obtain ⟨hE, h1, h2, h3⟩ := hq
  obtain ⟨v', w', hr, ho, hg, _⟩ := run_append_elems (P := Try.prog) .i8 w base 40 55 1 (by omega) Try.underlying40 info_i8 v n xs hown q.a q.n q.cap q.v hE h3.1 hn hm hbase
  refine ⟨v', w', hr, ho, hB.grown hg hbase (fun k hk => (hown.lt k hk).1), fun g T cs hT hX => hX.kept hg ?_⟩
  intro he
  rcases hown.2 with ⟨h4, _⟩ | ⟨g', c, cur, h4, _, h5, _⟩
  · rw [h4] at he; cases he
  · rw [h4] at he
    cases he
    have := h5.symm.trans hX
    simp only [Option.some.injEq, Obj.cells.injEq] at this
    exact hT this.2.1.symm

/-- numbers of rows, one row behind the other -/
def flatR (rs : List (Bool × Rw)) : List Int := rs.flatMap (fun r => r.2.v)
theorem flatR_app (a b : List (Bool × Rw)) : flatR (a ++ b) = flatR a ++ flatR b := by unfold flatR; exact List.flatMap_append
/-- rows that aren't long -/
def Small7 (W : Wt7) : Prop := (W.e.n ≤ 65536 ∧ W.t.n ≤ 65536 ∧ W.hd.n ≤ 65536) ∧ ∀ b ∈ W.bs, b.x.n ≤ 65536 ∧ b.y.n ≤ 65536 ∧ b.q.n ≤ 65536 ∧ b.k.n ≤ 65536 ∧ b.v.n ≤ 65536 ∧ b.o.n ≤ 65536 ∧ b.u.n ≤ 65536 ∧ b.d.n ≤ 65536

/-- a row of numbers of the call's own is answered -/
def OwnI8 (base : Nat) (l : List Int) (e : Ending) (w' : World) : Prop := ∃ v n, e = .returned v ∧ w'.ownsRow base 55 1 v n (l.map (.int .i8)) ∧ n ≤ 16777216
set_option maxHeartbeats 6400000 in
set_option maxRecDepth 100000 in
theorem doc_flat (W : Wt7) (w : World) (hIn : W.In w) (hbn : W.bn ≤ 16) (hsm : Small7 W) :
    Calls Try.prog 22 #[.agg W.cells] w fun e w' => OwnI8 w.heap.size W.flat e w' ∧ Below w.heap.size w w' := by
  have HI := Lib.hid hIn
  have HL : Hid (W.bs.length = W.bn) := Lib.hid hIn.2.2.2.1.1
  have HSM := Lib.hid hsm
  have HBK := Lib.hid hIn.2.2.2.1
  have HFL : Hid (W.flat = flatR ((false, W.e.row) :: bruns W.bs) ++ W.t.v ++ W.hd.v) := Lib.hid (by unfold Wt7.flat Wt7.runs flatR; rw [List.flatMap_append, List.append_assoc]; congr 1; simp [Gr.row])
  have s0 := hsm.1
  clear hIn hsm
  unfold Wt7.cells
  go_enter Try.func22, Try.ntmps22
  go_upto_region 2 with (fail)
  generalize hwa : w.alloc _ = wa
  have XB : Box wa w.heap.size 45 W.cells := by rw [← hwa]; exact box_new _ _ _
  have hz : wa.heap.size = w.heap.size + 1 := by rw [← hwa]; simp
  have HBa : Hid (Below w.heap.size w wa) := Lib.hid (by rw [← hwa]; exact (Below.refl _ _).alloc (Nat.le_refl _) _)
  clear hwa
  have HZ := Lib.hid hz
  obtain ⟨v1, w1, hrun, ho1, hb1, hk1⟩ := app_row wa.heap.size wa wa (Below.refl _ _) (Nat.le_refl _) (.slice none 0 0) 0 [] (own_nil _ _ _) W.e.row (HI.out.bel HBa.out).1.row (by omega) (by show W.e.n ≤ _; omega)
  have hrun : Sem.run Try.prog (Builtin.append_ #[40, 40] 40 #[.slice none 0 0, .slice W.e.a W.e.n W.e.cap]) wa = .ok v1 w1 := hrun
  obtain ⟨z0, z1, z2, z3, z4, z5, z6, z7, z8, z9, z10, z11, z12, z13⟩ := box_wt XB
  clear hz
  go_upto_region 3 with (at_builtin; refine wpList_append_at (by rfl) _ _ _ (by rfl) _ _ (by rfl) (by rfl) hrun ?_)
  have HX1 := Lib.hid (hk1 _ _ _ (by decide) XB)
  have HO1 : Hid (w1.ownsRow wa.heap.size 55 1 v1 (W.e.n) ((flatR ((false, W.e.row) :: bruns (W.bs.take 0))).map (.int .i8))) := Lib.hid (by
    have h := ho1
    rw [Nat.zero_add] at h
    have e : flatR ((false, W.e.row) :: bruns (W.bs.take 0)) = [] ++ W.e.row.v := by simp [flatR, bruns]
    rw [e]; exact h)
  have HB1 := Lib.hid hb1
  clear hrun ho1 hb1 hk1 XB z0 z1 z2 z3 z4 z5 z6 z7 z8 z9 z10 z11 z12 z13
  go_wp2_with fail
  go_loopw [3, 4] (fun v' i' wr => ∃ k m : Nat, k ≤ W.bn ∧ i' = .int .i64 k ∧ m ≤ (1 + 8 * k) * 65536 ∧ Hid (wr.ownsRow wa.heap.size 55 1 v' m ((flatR ((false, W.e.row) :: bruns (W.bs.take k))).map (.int .i8))) ∧ Hid (Below wa.heap.size wa wr) ∧ Hid (Box wr w.heap.size 45 W.cells)) (fun _ i' _ => W.bn - (intOf i').toNat)
  case atStart => exact ⟨0, W.e.n, by omega, rfl, by omega, HO1, HB1, HX1⟩
  case round =>
    obtain ⟨k, m, hk, rfl, hm, hown, hbel, hX⟩ := hrel
    have z9 : wr.cell? ⟨w.heap.size, 9, none⟩ = some (.slice W.ba W.bn W.bcap) := hX.out.cell 9
    have hsz := hbel.out.size
    by_cases hlt : k < W.bn
    · obtain ⟨g, off, b, hba, hglt, hc, hbs, hbin⟩ := (HBK.out.bel (HBa.out.trans (hbel.out.mono HBa.out.size))).at_ hlt
      rw [hba] at z9
      have HST := Lib.hid (bruns_step W.bs k (by rw [HL.out]; exact hlt))
      have HBS := Lib.hid hbs.out
      obtain ⟨s1, s2, s3, s4, s5, s6, s7, s8⟩ := HSM.out.2 b (by rw [← hbs.out, List.getD_eq_getElem?_getD, List.getElem?_eq_getElem (by rw [HL.out]; exact hlt)]; exact List.getElem_mem _)
      have HC := Lib.hid hc
      have HIN := Lib.hid hbin
      clear hc hbs hba hbin
      have i1 : (k : Int) < (W.bn : Int) := by omega
      go_upto_region 7 with (first
        | (refine wpList_load_part (o := ⟨some 22, _, _, _, _, _⟩) rfl 68 _ rfl g (off + k * 20) rfl b.cells _ HC.out Try.underlying68 rfl (by kernel_rfl) ?_)
        | (refine wpList_store_row rfl 68 _ _ rfl wr.heap.size b.cells rfl rfl 68 _ (box_new _ _ _) (by kernel_rfl) rfl (bk_one b) ?_))
      generalize hw0 : World.setRow _ wr.heap.size b.cells = y0
      have hb0 : Below wr.heap.size wr y0 := by rw [← hw0]; exact below_setRow ((Below.refl _ _).alloc (Nat.le_refl _) _) (Nat.le_refl _) (by simp)
      have XC0 : Box y0 wr.heap.size 68 b.cells := by rw [← hw0]; exact (box_new _ _ _).setRow
      have HW0 := Lib.hid (hX.out.bel hb0)
      have HB0 := Lib.hid (hbel.out.trans (hb0.mono hsz))
      have HO0 := Lib.hid (own_below hown.out hb0)
      have HI0 := Lib.hid (HIN.out.bel hb0)
      have HC0 := Lib.hid XC0
      have HZ0 := Lib.hid hb0.size
      clear hw0 hb0 XC0 z9 hown hbel hX HC HIN hsz
      obtain ⟨v1, y1, hrun, ho, hb, hk0⟩ := app_row wa.heap.size wa y0 HB0.out HB0.out.size _ (m) (flatR ((false, W.e.row) :: bruns (W.bs.take k))) HO0.out (b.x) (HI0.out.1) (by omega) (by show b.x.n ≤ _; omega)
      have hrun : Sem.run Try.prog (Builtin.append_ #[40, 40] 40 #[u3, .slice b.x.a b.x.n b.x.cap]) y0 = .ok v1 y1 := hrun
      have XC := HC0.out
      obtain ⟨z0, z1, z2, z3, z4, z5, z6, z7, z8, z9, z10, z11, z12, z13, z14, z15, z16, z17, z18, z19⟩ := box_bk XC
      go_upto_region 8 with (at_builtin; refine wpList_append_at (by rfl) _ _ _ (by rfl) _ _ (by rfl) (by rfl) hrun ?_)
      have HC1 := Lib.hid (hk0 _ _ _ (by decide) XC)
      have HW1 := Lib.hid (hk0 _ _ _ (by decide) HW0.out)
      have HO1 := Lib.hid ho
      have HB1 := Lib.hid hb
      have HI1 : Hid (b.In y1) := Lib.hid (((HBK.out.bel (HBa.out.trans (hb.mono HBa.out.size))).2.2.1 b (by rw [← HBS.out, List.getD_eq_getElem?_getD, List.getElem?_eq_getElem (by rw [HL.out]; exact hlt)]; exact List.getElem_mem _)))
      clear hrun ho hb hk0 XC z0 z1 z2 z3 z4 z5 z6 z7 z8 z9 z10 z11 z12 z13 z14 z15 z16 z17 z18 z19 HC0 HW0 HO0 HB0 HI0
      obtain ⟨v2, y2, hrun, ho, hb, hk0⟩ := app_row wa.heap.size wa y1 HB1.out HB1.out.size _ (m + b.x.n) (flatR ((false, W.e.row) :: bruns (W.bs.take k)) ++ b.x.v) HO1.out (b.q.row) (HI1.out.2.2.1.row) (by omega) (by show b.q.n ≤ _; omega)
      have hrun : Sem.run Try.prog (Builtin.append_ #[40, 40] 40 #[v1, .slice b.q.a b.q.n b.q.cap]) y1 = .ok v2 y2 := hrun
      have XC := HC1.out
      obtain ⟨z0, z1, z2, z3, z4, z5, z6, z7, z8, z9, z10, z11, z12, z13, z14, z15, z16, z17, z18, z19⟩ := box_bk XC
      go_upto_region 9 with (at_builtin; refine wpList_append_at (by rfl) _ _ _ (by rfl) _ _ (by rfl) (by rfl) hrun ?_)
      have HC2 := Lib.hid (hk0 _ _ _ (by decide) XC)
      have HW2 := Lib.hid (hk0 _ _ _ (by decide) HW1.out)
      have HO2 := Lib.hid ho
      have HB2 := Lib.hid hb
      have HI2 : Hid (b.In y2) := Lib.hid (((HBK.out.bel (HBa.out.trans (hb.mono HBa.out.size))).2.2.1 b (by rw [← HBS.out, List.getD_eq_getElem?_getD, List.getElem?_eq_getElem (by rw [HL.out]; exact hlt)]; exact List.getElem_mem _)))
      clear hrun ho hb hk0 XC z0 z1 z2 z3 z4 z5 z6 z7 z8 z9 z10 z11 z12 z13 z14 z15 z16 z17 z18 z19 HC1 HW1 HO1 HB1 HI1
      obtain ⟨v3, y3, hrun, ho, hb, hk0⟩ := app_row wa.heap.size wa y2 HB2.out HB2.out.size _ (m + b.x.n + b.q.n) (flatR ((false, W.e.row) :: bruns (W.bs.take k)) ++ b.x.v ++ b.q.row.v) HO2.out (b.k.row) (HI2.out.2.2.2.1.row) (by omega) (by show b.k.n ≤ _; omega)
      have hrun : Sem.run Try.prog (Builtin.append_ #[40, 40] 40 #[v2, .slice b.k.a b.k.n b.k.cap]) y2 = .ok v3 y3 := hrun
      have XC := HC2.out
      obtain ⟨z0, z1, z2, z3, z4, z5, z6, z7, z8, z9, z10, z11, z12, z13, z14, z15, z16, z17, z18, z19⟩ := box_bk XC
      go_upto_region 10 with (at_builtin; refine wpList_append_at (by rfl) _ _ _ (by rfl) _ _ (by rfl) (by rfl) hrun ?_)
      have HC3 := Lib.hid (hk0 _ _ _ (by decide) XC)
      have HW3 := Lib.hid (hk0 _ _ _ (by decide) HW2.out)
      have HO3 := Lib.hid ho
      have HB3 := Lib.hid hb
      have HI3 : Hid (b.In y3) := Lib.hid (((HBK.out.bel (HBa.out.trans (hb.mono HBa.out.size))).2.2.1 b (by rw [← HBS.out, List.getD_eq_getElem?_getD, List.getElem?_eq_getElem (by rw [HL.out]; exact hlt)]; exact List.getElem_mem _)))
      clear hrun ho hb hk0 XC z0 z1 z2 z3 z4 z5 z6 z7 z8 z9 z10 z11 z12 z13 z14 z15 z16 z17 z18 z19 HC2 HW2 HO2 HB2 HI2
      obtain ⟨v4, y4, hrun, ho, hb, hk0⟩ := app_row wa.heap.size wa y3 HB3.out HB3.out.size _ (m + b.x.n + b.q.n + b.k.n) (flatR ((false, W.e.row) :: bruns (W.bs.take k)) ++ b.x.v ++ b.q.row.v ++ b.k.row.v) HO3.out (b.v.row) (HI3.out.2.2.2.2.1.row) (by omega) (by show b.v.n ≤ _; omega)
      have hrun : Sem.run Try.prog (Builtin.append_ #[40, 40] 40 #[v3, .slice b.v.a b.v.n b.v.cap]) y3 = .ok v4 y4 := hrun
      have XC := HC3.out
      obtain ⟨z0, z1, z2, z3, z4, z5, z6, z7, z8, z9, z10, z11, z12, z13, z14, z15, z16, z17, z18, z19⟩ := box_bk XC
      go_upto_region 11 with (at_builtin; refine wpList_append_at (by rfl) _ _ _ (by rfl) _ _ (by rfl) (by rfl) hrun ?_)
      have HC4 := Lib.hid (hk0 _ _ _ (by decide) XC)
      have HW4 := Lib.hid (hk0 _ _ _ (by decide) HW3.out)
      have HO4 := Lib.hid ho
      have HB4 := Lib.hid hb
      have HI4 : Hid (b.In y4) := Lib.hid (((HBK.out.bel (HBa.out.trans (hb.mono HBa.out.size))).2.2.1 b (by rw [← HBS.out, List.getD_eq_getElem?_getD, List.getElem?_eq_getElem (by rw [HL.out]; exact hlt)]; exact List.getElem_mem _)))
      clear hrun ho hb hk0 XC z0 z1 z2 z3 z4 z5 z6 z7 z8 z9 z10 z11 z12 z13 z14 z15 z16 z17 z18 z19 HC3 HW3 HO3 HB3 HI3
      obtain ⟨v5, y5, hrun, ho, hb, hk0⟩ := app_row wa.heap.size wa y4 HB4.out HB4.out.size _ (m + b.x.n + b.q.n + b.k.n + b.v.n) (flatR ((false, W.e.row) :: bruns (W.bs.take k)) ++ b.x.v ++ b.q.row.v ++ b.k.row.v ++ b.v.row.v) HO4.out (b.o.row) (HI4.out.2.2.2.2.2.1.row) (by omega) (by show b.o.n ≤ _; omega)
      have hrun : Sem.run Try.prog (Builtin.append_ #[40, 40] 40 #[v4, .slice b.o.a b.o.n b.o.cap]) y4 = .ok v5 y5 := hrun
      have XC := HC4.out
      obtain ⟨z0, z1, z2, z3, z4, z5, z6, z7, z8, z9, z10, z11, z12, z13, z14, z15, z16, z17, z18, z19⟩ := box_bk XC
      go_upto_region 12 with (at_builtin; refine wpList_append_at (by rfl) _ _ _ (by rfl) _ _ (by rfl) (by rfl) hrun ?_)
      have HC5 := Lib.hid (hk0 _ _ _ (by decide) XC)
      have HW5 := Lib.hid (hk0 _ _ _ (by decide) HW4.out)
      have HO5 := Lib.hid ho
      have HB5 := Lib.hid hb
      have HI5 : Hid (b.In y5) := Lib.hid (((HBK.out.bel (HBa.out.trans (hb.mono HBa.out.size))).2.2.1 b (by rw [← HBS.out, List.getD_eq_getElem?_getD, List.getElem?_eq_getElem (by rw [HL.out]; exact hlt)]; exact List.getElem_mem _)))
      clear hrun ho hb hk0 XC z0 z1 z2 z3 z4 z5 z6 z7 z8 z9 z10 z11 z12 z13 z14 z15 z16 z17 z18 z19 HC4 HW4 HO4 HB4 HI4
      obtain ⟨v6, y6, hrun, ho, hb, hk0⟩ := app_row wa.heap.size wa y5 HB5.out HB5.out.size _ (m + b.x.n + b.q.n + b.k.n + b.v.n + b.o.n) (flatR ((false, W.e.row) :: bruns (W.bs.take k)) ++ b.x.v ++ b.q.row.v ++ b.k.row.v ++ b.v.row.v ++ b.o.row.v) HO5.out (b.y) (HI5.out.2.1) (by omega) (by show b.y.n ≤ _; omega)
      have hrun : Sem.run Try.prog (Builtin.append_ #[40, 40] 40 #[v5, .slice b.y.a b.y.n b.y.cap]) y5 = .ok v6 y6 := hrun
      have XC := HC5.out
      obtain ⟨z0, z1, z2, z3, z4, z5, z6, z7, z8, z9, z10, z11, z12, z13, z14, z15, z16, z17, z18, z19⟩ := box_bk XC
      go_upto_region 13 with (at_builtin; refine wpList_append_at (by rfl) _ _ _ (by rfl) _ _ (by rfl) (by rfl) hrun ?_)
      have HC6 := Lib.hid (hk0 _ _ _ (by decide) XC)
      have HW6 := Lib.hid (hk0 _ _ _ (by decide) HW5.out)
      have HO6 := Lib.hid ho
      have HB6 := Lib.hid hb
      have HI6 : Hid (b.In y6) := Lib.hid (((HBK.out.bel (HBa.out.trans (hb.mono HBa.out.size))).2.2.1 b (by rw [← HBS.out, List.getD_eq_getElem?_getD, List.getElem?_eq_getElem (by rw [HL.out]; exact hlt)]; exact List.getElem_mem _)))
      clear hrun ho hb hk0 XC z0 z1 z2 z3 z4 z5 z6 z7 z8 z9 z10 z11 z12 z13 z14 z15 z16 z17 z18 z19 HC5 HW5 HO5 HB5 HI5
      obtain ⟨v7, y7, hrun, ho, hb, hk0⟩ := app_row wa.heap.size wa y6 HB6.out HB6.out.size _ (m + b.x.n + b.q.n + b.k.n + b.v.n + b.o.n + b.y.n) (flatR ((false, W.e.row) :: bruns (W.bs.take k)) ++ b.x.v ++ b.q.row.v ++ b.k.row.v ++ b.v.row.v ++ b.o.row.v ++ b.y.v) HO6.out (b.u.row) (HI6.out.2.2.2.2.2.2.1.row) (by omega) (by show b.u.n ≤ _; omega)
      have hrun : Sem.run Try.prog (Builtin.append_ #[40, 40] 40 #[v6, .slice b.u.a b.u.n b.u.cap]) y6 = .ok v7 y7 := hrun
      have XC := HC6.out
      obtain ⟨z0, z1, z2, z3, z4, z5, z6, z7, z8, z9, z10, z11, z12, z13, z14, z15, z16, z17, z18, z19⟩ := box_bk XC
      go_upto_region 14 with (at_builtin; refine wpList_append_at (by rfl) _ _ _ (by rfl) _ _ (by rfl) (by rfl) hrun ?_)
      have HC7 := Lib.hid (hk0 _ _ _ (by decide) XC)
      have HW7 := Lib.hid (hk0 _ _ _ (by decide) HW6.out)
      have HO7 := Lib.hid ho
      have HB7 := Lib.hid hb
      have HI7 : Hid (b.In y7) := Lib.hid (((HBK.out.bel (HBa.out.trans (hb.mono HBa.out.size))).2.2.1 b (by rw [← HBS.out, List.getD_eq_getElem?_getD, List.getElem?_eq_getElem (by rw [HL.out]; exact hlt)]; exact List.getElem_mem _)))
      clear hrun ho hb hk0 XC z0 z1 z2 z3 z4 z5 z6 z7 z8 z9 z10 z11 z12 z13 z14 z15 z16 z17 z18 z19 HC6 HW6 HO6 HB6 HI6
      obtain ⟨v8, y8, hrun, ho, hb, hk0⟩ := app_row wa.heap.size wa y7 HB7.out HB7.out.size _ (m + b.x.n + b.q.n + b.k.n + b.v.n + b.o.n + b.y.n + b.u.n) (flatR ((false, W.e.row) :: bruns (W.bs.take k)) ++ b.x.v ++ b.q.row.v ++ b.k.row.v ++ b.v.row.v ++ b.o.row.v ++ b.y.v ++ b.u.row.v) HO7.out (b.d.row) (HI7.out.2.2.2.2.2.2.2.row) (by omega) (by show b.d.n ≤ _; omega)
      have hrun : Sem.run Try.prog (Builtin.append_ #[40, 40] 40 #[v7, .slice b.d.a b.d.n b.d.cap]) y7 = .ok v8 y8 := hrun
      have XC := HC7.out
      obtain ⟨z0, z1, z2, z3, z4, z5, z6, z7, z8, z9, z10, z11, z12, z13, z14, z15, z16, z17, z18, z19⟩ := box_bk XC
      go_wp2_with (at_builtin; refine wpList_append_at (by rfl) _ _ _ (by rfl) _ _ (by rfl) (by rfl) hrun ?_)
      have HC8 := Lib.hid (hk0 _ _ _ (by decide) XC)
      have HW8 := Lib.hid (hk0 _ _ _ (by decide) HW7.out)
      have HO8 := Lib.hid ho
      have HB8 := Lib.hid hb
      have HI8 : Hid (b.In y8) := Lib.hid (((HBK.out.bel (HBa.out.trans (hb.mono HBa.out.size))).2.2.1 b (by rw [← HBS.out, List.getD_eq_getElem?_getD, List.getElem?_eq_getElem (by rw [HL.out]; exact hlt)]; exact List.getElem_mem _)))
      clear hrun ho hb hk0 XC z0 z1 z2 z3 z4 z5 z6 z7 z8 z9 z10 z11 z12 z13 z14 z15 z16 z17 z18 z19 HC7 HW7 HO7 HB7 HI7
      have HO9 : Hid (y8.ownsRow wa.heap.size 55 1 v8 (m + b.x.n + b.q.n + b.k.n + b.v.n + b.o.n + b.y.n + b.u.n + b.d.n) ((flatR ((false, W.e.row) :: bruns (W.bs.take (k + 1)))).map (.int .i8))) := Lib.hid (by
        have e : flatR ((false, W.e.row) :: bruns (W.bs.take (k + 1))) = flatR ((false, W.e.row) :: bruns (W.bs.take k)) ++ b.x.v ++ b.q.row.v ++ b.k.row.v ++ b.v.row.v ++ b.o.row.v ++ b.y.v ++ b.u.row.v ++ b.d.row.v := by
          rw [HST.out, HBS.out, ← List.cons_append, flatR_app]
          simp [flatR, Bk7.runs, List.append_assoc]
        rw [e]; exact HO8.out)
      go_roundw
      case rel => exact ⟨k + 1, m + b.x.n + b.q.n + b.k.n + b.v.n + b.o.n + b.y.n + b.u.n + b.d.n, by omega, by go_num, by omega, HO9, HB8, HW8⟩
      case measure => simp [intOf]; omega
    · obtain rfl : k = W.bn := by omega
      have HE : Hid (W.bs.take W.bn = W.bs) := Lib.hid (List.take_of_length_le (by rw [HL.out]; omega))
      have ho0 := hown.out
      rw [HE.out] at ho0
      have hIr := HI.out.bel (HBa.out.trans (hbel.out.mono HBa.out.size))
      obtain ⟨v1', w1', hrun, ho, hb, hk0⟩ := app_row wa.heap.size wa wr hbel.out hsz _ m (flatR ((false, W.e.row) :: bruns W.bs)) ho0 W.t hIr.2.2.1 (by omega) (by omega)
      have XW := hX.out
      obtain ⟨z0, z1, z2, z3, z4, z5, z6, z7, z8, z9', z10, z11, z12, z13⟩ := box_wt XW
      have i2 : ¬ (W.bn : Int) < (W.bn : Int) := by omega
      clear HE ho0 hIr hown hX
      go_upto_region 16 with (at_builtin; refine wpList_append_at (by rfl) _ _ _ (by rfl) _ _ (by rfl) (by rfl) hrun ?_)
      have HIr := HI.out.bel (HBa.out.trans (hb.mono HBa.out.size))
      have XW2 := hk0 _ _ _ (by decide) XW
      clear z0 z1 z2 z3 z4 z5 z6 z7 z8 z9' z10 z11 z12 z13 hrun XW z9
      obtain ⟨v2', w2', hrun, ho2, hb2, _⟩ := app_row wa.heap.size wa w1' hb hb.size _ (m + W.t.n) (flatR ((false, W.e.row) :: bruns W.bs) ++ W.t.v) ho W.hd.row HIr.2.1.row (by omega) (by show W.hd.n ≤ _; omega)
      have hrun : Sem.run Try.prog (Builtin.append_ #[40, 40] 40 #[v1', .slice W.hd.a W.hd.n W.hd.cap]) w1' = .ok v2' w2' := hrun
      obtain ⟨z0, z1, z2, z3, z4, z5, z6, z7, z8, z9', z10, z11, z12, z13⟩ := box_wt XW2
      have HF : Hid (w2'.ownsRow w.heap.size 55 1 v2' (m + W.t.n + W.hd.n) (W.flat.map (.int .i8))) := Lib.hid (by
        rw [HFL.out]
        exact Go.Joins.ownsRow_le ho2 HBa.out.size)
      have HBF := Lib.hid (HBa.out.trans (hb2.mono HBa.out.size))
      clear ho hb hk0 HIr XW2 ho2 hb2
      go_wp2_with (at_builtin; refine wpList_append_at (by rfl) _ _ _ (by rfl) _ _ (by rfl) (by rfl) hrun ?_)
      go_ret
      exact ⟨⟨_, _, rfl, HF.out, by omega⟩, HBF.out⟩

end Go.Proofs.Ytlgnpicnpnibfaa
