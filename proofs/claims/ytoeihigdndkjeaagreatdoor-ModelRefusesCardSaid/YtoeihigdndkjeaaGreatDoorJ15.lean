import Derived.Test.YtoeihigdndkjeaaGreatDoorJ14
import Derived.Deep.RegionHeld3
import Derived.Deep.CutRange
/-
  The first half of a layer.
-/
namespace Go.Proofs.YtoeihigdndkjeaaGreatDoor
open Go.RowKit Go.Shelf
set_option linter.unusedVariables false
attribute [local go_sem] Oper.semAt_some

/-- where a map alone was turned, every cell reads as it did -/
theorem cells_map {w w' : World} {b N : Nat} {D : DataW Unit} (ho : OwnK w b N D) (hg : w.grownBy w' (some b)) {p : Addr} {v : Value} (h : w.cell? p = some v) : w'.cell? p = some v := by
  have hne : p.block ≠ b := by
    intro e
    obtain ⟨es, clock, hh, _⟩ := ho
    unfold World.cell? at h
    rw [e, hh] at h
    cases h
  exact (World.cell?_of_block (w := w) (hg.block p.block (World.block_lt_of_cell? _ _ h) (by simpa using hne))).trans h
theorem Elems.cellsK {k : IntKind} {w w' : World} {a : Option Addr} {n : Nat} {xs : List Int} (h : Elems k w a n xs) (hc : ∀ p v, w.cell? p = some v → w'.cell? p = some v) : Elems k w' a n xs :=
  ⟨h.1, h.2.1, h.2.2.1, fun hn => let ⟨b, off, ha, h1⟩ := h.2.2.2 hn; ⟨b, off, ha, fun i hi => hc _ _ (h1 i hi)⟩⟩
theorem Rw.In.cellsK {k : IntKind} {w w' : World} {q : Rw} (h : q.In k w) (hc : ∀ p v, w.cell? p = some v → w'.cell? p = some v) : q.In k w' := ⟨h.1.cellsK hc, h.2⟩
theorem Gr.In8.cellsK {w w' : World} {g : Gr} (h : g.In8 w) (hc : ∀ p v, w.cell? p = some v → w'.cell? p = some v) : g.In8 w' := ⟨h.1.cellsK hc, h.2⟩
theorem Bk7.In.cellsK {w w' : World} {b : Bk7} (h : b.In w) (hc : ∀ p v, w.cell? p = some v → w'.cell? p = some v) : b.In w' := by
  obtain ⟨h1, h2, h3, h4, h5, h6, h7, h8⟩ := h
  exact ⟨h1.cellsK hc, h2.cellsK hc, h3.cellsK hc, h4.cellsK hc, h5.cellsK hc, h6.cellsK hc, h7.cellsK hc, h8.cellsK hc⟩
theorem box_map {w w' : World} {b N : Nat} {D : DataW Unit} (ho : OwnK w b N D) (hg : w.grownBy w' (some b)) {g : Nat} {T : TypeId} {cs : Array Value} (h : Box w g T cs) : Box w' g T cs := by
  refine h.kept hg (fun e => ?_)
  obtain ⟨es, clock, hh, _⟩ := ho
  obtain rfl : g = b := by simpa using e
  have := (show w.heap[g]? = _ from h).symm.trans hh
  cases this

theorem cell_set {w : World} {p q : Addr} {v : Value} (h : w.cell? p = some v) (u : Value) (hne : p.block ≠ q.block) : (w.setCell q u).cell? p = some v :=
  (World.cell?_of_block (w := w) (Below.heap_setCell w q u p.block hne)).trans h

theorem bel_grown {w wf wg : World} {q : Option Nat} (h : Below w.heap.size w wf) (hg : wf.grownBy wg q) : w.grownBy wg q :=
  ⟨hg.os.trans h.os, hg.tape.trans h.tape, hg.output.trans h.output, Nat.le_trans h.size hg.size, fun k hk hne => (hg.block k (Nat.lt_of_lt_of_le hk h.size) hne).trans (h.block k hk)⟩
theorem kcol_snoc (K : KF8) (l p : Nat) (x : KV8) : kcol (fun l' q => if q = p ∧ l' = l then x else K l' q) l (p + 1) = kcol K l p ++ [x] := by
  unfold kcol
  rw [List.range_succ, List.map_append]
  congr 1
  · apply List.map_congr_left
    intro q hq
    have := List.mem_range.1 hq
    simp; omega
  · simp

/-- a row of numbers is not where a slice stands -/
theorem elems_set {kd : IntKind} {w : World} {a : Option Addr} {n : Nat} {xs : List Int} (h : Elems kd w a n xs) {g : Nat} {T : TypeId} {x : Option Addr} {y z : Nat} (hb : Box w g T #[.slice x y z]) (u : Value) : Elems kd (w.setCell ⟨g, 0, none⟩ u) a n xs := by
  refine ⟨h.1, h.2.1, h.2.2.1, fun hn => ?_⟩
  obtain ⟨b, off, ha, hc⟩ := h.2.2.2 hn
  refine ⟨b, off, ha, fun i hi => ?_⟩
  have h1 := hc i hi
  refine cell_set h1 u ?_
  rintro rfl
  rw [hb.cell] at h1
  rcases Nat.eq_zero_or_pos (off + i) with e | e
  · rw [e] at h1; simp at h1
  · rw [Array.getElem?_eq_none (by simp; omega)] at h1; cases h1

theorem ModAt.mapped {w w' : World} {m : Nat} {s : Sz} {W : Wt7} {b N : Nat} {D : DataW Unit} (h : ModAt w m s W) (ho : OwnK w b N D) (hg : w.grownBy w' (some b)) (hc : ∀ p v, w.cell? p = some v → w'.cell? p = some v) : ModAt w' m s W := by
  refine ⟨box_map ho hg h.box, ?_, h.l, h.w, h.h, h.i, h.v, h.p, h.whole⟩
  obtain ⟨h1, h2, h3, ⟨k1, k2, k3, k4⟩, h5⟩ := h.inn
  refine ⟨h1.cellsK hc, h2.cellsK hc, h3.cellsK hc, ⟨k1, k2, fun x hx => (k3 x hx).cellsK hc, fun hn => ?_⟩, h5⟩
  obtain ⟨g, off, ha, hlt, hx⟩ := k4 hn
  refine ⟨g, off, ha, Nat.lt_of_lt_of_le hlt hg.size, fun i hi k hk => ?_⟩
  have h9 := hx i hi k hk
  have hk2 : k < (W.bs.getD i default).cells.size := hk
  rw [Array.getElem?_eq_getElem hk2] at h9 ⊢
  exact hc _ _ h9

theorem cell_putObj {w : World} {l : Nat} {o : Obj} {ds : Option (List Deferred)} (h : w.heap[l]? = some (.deferred ds)) {p : Addr} {v : Value} (hc : w.cell? p = some v) : (w.putObj l o).cell? p = some v := by
  have hne : p.block ≠ l := by
    intro e
    unfold World.cell? at hc
    rw [e, h] at hc
    cases hc
  exact (World.cell?_of_block (w := w) (World.putObj_heap_other hne)).trans hc

set_option maxHeartbeats 8000000 in
set_option maxRecDepth 100000 in
theorem attended8 (r m mb l p N : Nat) (K : KF8) (D : DataW Unit) (s : Sz) (ok : s.Ok) (W : Wt7) (b : Bk7) (xa : Option Addr) (xcap : Nat) (xs : List Int) (w : World)
    (hr : Box w r 91 #[.pointer (some ⟨m, 0, none⟩), .int .i64 p, .map (some mb)]) (hm : ModAt w m s W) (hbk : bkB s b = true) (hin : b.In w) (hx : Elems .i32 w xa s.w xs) (ho : OwnK w mb N D) (hN : N ≤ 10000) (hD : KeptD w s.l s.w p l K D) (hl : l < s.l) (hp : p ≤ 199) (hT : Tab w) (hS : STab w) :
    Calls Tryz.prog 63 #[.pointer (some ⟨r, 0, none⟩), .int .i64 l, .agg b.cells, .slice xa s.w xcap] w fun e w' => GivesS .i32 s.w (attO s b.blk p xs (kcol K l p ++ [kvO s b.blk p xs])) e w' ∧ w.grownBy w' (some mb) ∧
      ∃ D', OwnK w' mb (N + 1) D' ∧ KeptD w' s.l s.w p (l + 1) (fun l' q => if q = p ∧ l' = l then kvO s b.blk p xs else K l' q) D' := by
  have bd := ok.bd
  obtain ⟨n1, n2, m3, m4, m5, m6, _, _⟩ := bkB_yes hbk
  obtain ⟨i1, _, i3, i4, i5, i6, _, _⟩ := hin
  have w2 : 2 ≤ s.w := bd.2.2.1.1
  have w1 : s.w ≤ 128 := bd.2.2.1.2
  have ix := i1.1
  rw [n1] at ix
  have HN1 := Lib.hid n1
  have HM3 := Lib.hid m3
  have HM4 := Lib.hid m4
  have HM5 := Lib.hid m5
  have HM6 := Lib.hid m6
  have OK := Lib.hid ok
  have HO := Lib.hid ho
  have HD := Lib.hid hD
  have HL16 : s.l ≤ 16 := bd.1.2
  have cr0 : w.cell? ⟨r, 0, none⟩ = some (.pointer (some ⟨m, 0, none⟩)) := hr.cell 0
  clear ok bd hbk n1 n2 m3 m4 m5 m6 ho hD
  refine (callsIn_wide (n := 3)).1 ?_
  refine callsIn_of_wp_marks Tryz.func63 rfl trivial ?_ rfl
  simp only [Tryz.ntmps63, List.size_toArray, List.length_cons, List.length_nil, Nat.reduceAdd, Nat.reduceSub, Array.replicate_succ, Array.replicate_zero, List.push_toArray, List.append_toArray, List.nil_append, List.cons_append]
  refine wpIn_wide.2 ?_
  go_upto_region 1 with (fail)
  generalize hwa : w.alloc _ = wa
  have X : Box wa w.heap.size 66 b.cells := by rw [← hwa]; exact box_new _ _ _
  have hB : Below w.heap.size w wa := by rw [← hwa]; exact (Below.refl _ _).alloc (Nat.le_refl _) _
  have HX := Lib.hid X
  obtain ⟨z0, _⟩ := box_bk X
  rw [HN1.out] at z0
  have y0 := cell_kept6 hB cr0
  have cN := normed8 b.x.a xa s.w b.x.cap xcap b.x.v xs wa (ix.below hB) (hx.below hB) (by omega) (by omega)
  clear hwa X ix cr0
  go_wp2_with fail
  refine cN.mono ?_
  rintro e wb ⟨⟨ga, ca, rfl, hEa, ha1, ha2⟩, hb1⟩
  have hB2 := below_two hB hb1
  have HRb := Lib.hid (hr.bel hB2)
  have HXb := Lib.hid (HX.out.bel hb1)
  have HMb := Lib.hid (hm.bel hB2)
  have HOb := Lib.hid (HO.out.bel hB2)
  have HDb := Lib.hid (HD.out.bel hB2)
  have I3 := Lib.hid (i3.below hB2)
  have I4 := Lib.hid (i4.below hB2)
  have I5 := Lib.hid (i5.below hB2)
  have I6 := Lib.hid (i6.below hB2)
  have HXX := Lib.hid (hx.below hB2)
  have HTb := Lib.hid (hT.below hB2)
  have HSb := Lib.hid (hS.below hB2)
  have HA : Hid (Rw.In .i8 wb ⟨some ⟨ga, 0, none⟩, s.w, ca, normO b.x.v xs s.w⟩) := Lib.hid (rw_at hEa ha1 ha2)
  have HB2 := Lib.hid hB2
  have hlt := HXb.out.lt
  clear hB hb1 hB2 hr HX hm HO HD i1 i3 i4 i5 i6 hx hT hS cN hEa ha1 ha2 z0 y0
  go_upto_region 3 with (fail)
  obtain ⟨z0, z1, z2, z3, z4, _⟩ := box_bk HXb.out
  have y1 : wb.cell? ⟨r, 1, none⟩ = some (.int .i64 p) := HRb.out.cell 1
  have cS : ∀ V, Below wb.heap.size wb V → Calls Tryz.prog 83 #[.agg #[.int .i64 b.q.r, .int .i64 b.q.c, .slice b.q.a b.q.n b.q.cap], .slice (some ⟨ga, 0, none⟩) s.w ca] V fun e w' => GivesS .i8 s.w (smallO b.q.v (normO b.x.v xs s.w) s.w s.w) e w' ∧ Below V.heap.size V w' := fun V hV =>
    small8 b.q ⟨some ⟨ga, 0, none⟩, s.w, ca, _⟩ s.w s.w HM3.out rfl (by omega) (by omega) V (I3.out.below hV) (HA.out.below hV)
  have cT : ∀ V g c ys, Below wb.heap.size wb V → Elems .i8 V (some ⟨g, 0, none⟩) s.w ys → s.w ≤ c → c ≤ 9223372036854775807 → Calls Tryz.prog 85 #[.pointer (some ⟨m, 0, none⟩), .int .i64 p, .slice (some ⟨g, 0, none⟩) s.w c] V fun e w' => GivesS .i8 s.w (headsO s.h (s.w / s.h) p ys) e w' ∧ Below V.heap.size V w' := fun V g c ys hV hE h1 h2 =>
    turned8 m p (by omega) s OK.out W (some ⟨g, 0, none⟩) c ys V (HMb.out.bel hV) hE h1 h2 (HSb.out.below hV)
  have hrl := HRb.out.lt
  have D1 : Below wb.heap.size wb wb.drew := (Below.refl _ _).drew
  have D2 : Below wb.heap.size wb (wb.alloc (.cells #[.slice none 0 0] 24)).drew := ((Below.refl _ _).alloc (Nat.le_refl _) _).drew
  have Yb : Box (wb.alloc (.cells #[.slice none 0 0] 24)).drew wb.heap.size 24 #[.slice none 0 0] := box_new _ _ _
  go_cut [11] from 24 (fun v wx => ∃ g g2 c2, v = .pointer (some ⟨g, 0, none⟩) ∧ wb.heap.size ≤ g ∧ Hid (Box wx g 24 #[.slice (some ⟨g2, 0, none⟩) s.w c2]) ∧ Hid (Elems .i8 wx (some ⟨g2, 0, none⟩) s.w (qO s b.blk p xs)) ∧ s.w ≤ c2 ∧ c2 ≤ 9223372036854775807 ∧ Hid (Below wb.heap.size wb wx))
  case first =>
    go_region_held3 (fun w' => w'.cell? ⟨r, 1, none⟩ = some (.int .i64 p) ∧ w'.cell? ⟨w.heap.size, 2, none⟩ = some (.int .i64 b.q.r) ∧ w'.cell? ⟨w.heap.size, 3, none⟩ = some (.int .i64 b.q.c) ∧ w'.cell? ⟨w.heap.size, 4, none⟩ = some (.slice b.q.a b.q.n b.q.cap))
      (first | go_keep | (go_split_ands; refine ⟨?_, ?_, ?_, ?_⟩ <;> first | assumption | exact cell_alloc (by assumption) _ | exact cell_set (by assumption) _ (by simp; omega)))
      (first
        | (go_at_call 83; (refine (cS _ (by first | exact D1 | exact D2)).mono ?_); rintro e wc ⟨⟨g1, c1, rfl, hE1, x1, x2⟩, hb1⟩
           (first | have R1 := below_two D1 hb1 | have R1 := below_two D2 hb1)
           have R2 := R1.alloc R1.size (.cells #[.slice none 0 0] 24)
           have sz1 := R1.size
           have k1 := cell_kept6 R1 y1
           have k2 := cell_kept6 R1 z2
           have k3 := cell_kept6 R1 z3
           have k4 := cell_kept6 R1 z4
           have Yc : Box (wc.alloc (.cells #[.slice none 0 0] 24)) wc.heap.size 24 #[.slice none 0 0] := box_new _ _ _
           (try have Yd := Yb.bel hb1))
        | (go_at_call 85; (refine (cT _ _ _ _ (by first | exact R1 | exact R2) (by first | exact hE1 | exact hE1.below ((Below.refl _ _).alloc (Nat.le_refl _) _)) x1 x2).mono ?_); rintro e wd ⟨⟨g2, c2, rfl, hE2, x3, x4⟩, hb2⟩
           (first | have R3 := below_two R1 hb2 | have R3 := below_two R2 hb2)
           have j1 := cell_kept6 R3 y1
           have j2 := cell_kept6 R3 z2
           have j3 := cell_kept6 R3 z3
           have j4 := cell_kept6 R3 z4
           (try have Ye := Yc.bel hb2)
           (try have Ye := Yd.bel hb2)
           (try have ye0 := Ye.cell 0)
           (try have ye1 := Ye.frozen 0)))
    all_goals go_wp2_with fail
    all_goals go_meet
    all_goals (case rel => first
      | exact ⟨wd.heap.size, g2, c2, rfl, R3.size, Lib.hid (box_new _ _ _), Lib.hid (hE2.below ((Below.refl _ _).alloc (Nat.le_refl _) _)), x3, x4, Lib.hid (R3.alloc R3.size _)⟩
      | exact ⟨wc.heap.size, g2, c2, rfl, R1.size, Lib.hid (Ye.set 0 _), Lib.hid (elems_set hE2 Ye _), x3, x4, Lib.hid (R3.setCell (p := ⟨wc.heap.size, 0, none⟩) R1.size _)⟩
      | exact ⟨wb.heap.size, g2, c2, rfl, Nat.le_refl _, Lib.hid (Ye.set 0 _), Lib.hid (elems_set hE2 Ye _), x3, x4, Lib.hid (R3.setCell (p := ⟨wb.heap.size, 0, none⟩) (Nat.le_refl _) _)⟩)
  case rest =>
    obtain ⟨gq, g2, c2, rfl, hgq, hQ, hEQ, q1, q2, hBx⟩ := hcut
    clear cS cT D1 D2 Yb z0 z1 z2 z3 z4 y1 I3
    have HRc := Lib.hid (HRb.out.bel hBx.out)
    have HXc := Lib.hid (HXb.out.bel hBx.out)
    have HAc := Lib.hid (HA.out.below hBx.out)
    have HOc := Lib.hid (HOb.out.bel hBx.out)
    have hltc : w.heap.size < wc.heap.size := HXc.out.lt
    have hrlc : r < wc.heap.size := HRc.out.lt
    have y1 : wc.cell? ⟨r, 1, none⟩ = some (.int .i64 p) := HRc.out.cell 1
    have y2 : wc.cell? ⟨r, 2, none⟩ = some (.map (some mb)) := HRc.out.cell 2
    obtain ⟨_, _, _, _, _, z5, z6, z7, z8, z9, z10, _⟩ := box_bk HXc.out
    have E0 : Below wc.heap.size wc wc.drew := (Below.refl _ _).drew
    have cK : ∀ V, Below wc.heap.size wc V → Calls Tryz.prog 83 #[.agg #[.int .i64 b.k.r, .int .i64 b.k.c, .slice b.k.a b.k.n b.k.cap], .slice (some ⟨ga, 0, none⟩) s.w ca] V fun e w' => GivesS .i8 s.w (smallO b.k.v (normO b.x.v xs s.w) s.w s.w) e w' ∧ Below V.heap.size V w' := fun V hV =>
      small8 b.k ⟨some ⟨ga, 0, none⟩, s.w, ca, _⟩ s.w s.w HM4.out rfl (by omega) (by omega) V ((I4.out.below hBx.out).below hV) (HAc.out.below hV)
    have cV : ∀ V, Below wc.heap.size wc V → Calls Tryz.prog 83 #[.agg #[.int .i64 b.v.r, .int .i64 b.v.c, .slice b.v.a b.v.n b.v.cap], .slice (some ⟨ga, 0, none⟩) s.w ca] V fun e w' => GivesS .i8 s.w (smallO b.v.v (normO b.x.v xs s.w) s.w s.w) e w' ∧ Below V.heap.size V w' := fun V hV =>
      small8 b.v ⟨some ⟨ga, 0, none⟩, s.w, ca, _⟩ s.w s.w HM5.out rfl (by omega) (by omega) V ((I5.out.below hBx.out).below hV) (HAc.out.below hV)
    have cT : ∀ V g c ys, Below wc.heap.size wc V → Elems .i8 V (some ⟨g, 0, none⟩) s.w ys → s.w ≤ c → c ≤ 9223372036854775807 → Calls Tryz.prog 85 #[.pointer (some ⟨m, 0, none⟩), .int .i64 p, .slice (some ⟨g, 0, none⟩) s.w c] V fun e w' => GivesS .i8 s.w (headsO s.h (s.w / s.h) p ys) e w' ∧ Below V.heap.size V w' := fun V g c ys hV hE h1 h2 =>
      turned8 m p (by omega) s OK.out W (some ⟨g, 0, none⟩) c ys V ((HMb.out.bel hBx.out).bel hV) hE h1 h2 ((HSb.out.below hBx.out).below hV)
    have wl := wf_n (n := l) (by omega)
    have wp' := wf_n (n := p) (by omega)
    have HK := Lib.hid (keyS_mk wl wp')
    clear wl wp'
    go_upto_region 4 with (fail)
    go_region_held3 (fun w' => w'.cell? ⟨r, 1, none⟩ = some (.int .i64 p) ∧ w'.cell? ⟨r, 2, none⟩ = some (.map (some mb)) ∧ w'.cell? ⟨w.heap.size, 5, none⟩ = some (.int .i64 b.k.r) ∧ w'.cell? ⟨w.heap.size, 6, none⟩ = some (.int .i64 b.k.c) ∧ w'.cell? ⟨w.heap.size, 7, none⟩ = some (.slice b.k.a b.k.n b.k.cap) ∧ w'.cell? ⟨w.heap.size, 8, none⟩ = some (.int .i64 b.v.r) ∧ w'.cell? ⟨w.heap.size, 9, none⟩ = some (.int .i64 b.v.c) ∧ w'.cell? ⟨w.heap.size, 10, none⟩ = some (.slice b.v.a b.v.n b.v.cap))
      (first | go_keep | (go_split_ands; refine ⟨?_, ?_, ?_, ?_, ?_, ?_, ?_, ?_⟩ <;> assumption))
      (first
        | (go_at_call 83; (with_reducible refine (cK _ E0).mono ?_); rintro e wd ⟨⟨gk, ck, rfl, hEk, x1, x2⟩, hb3⟩
           have R3 := below_two E0 hb3
           have ka1 := cell_kept6 R3 y1
           have ka2 := cell_kept6 R3 y2
           have ka5 := cell_kept6 R3 z5
           have ka6 := cell_kept6 R3 z6
           have ka7 := cell_kept6 R3 z7
           have ka8 := cell_kept6 R3 z8
           have ka9 := cell_kept6 R3 z9
           have ka0 := cell_kept6 R3 z10
           clear E0)
        | (go_at_call 85; (with_reducible refine (cT _ gk ck _ R3 hEk x1 x2).mono ?_); rintro e we ⟨⟨gK, cKK, rfl, hEK, x3, x4⟩, hb4⟩
           have R4 := below_two R3 hb4
           have kb1 := cell_kept6 R4 y1
           have kb2 := cell_kept6 R4 y2
           have kb5 := cell_kept6 R4 z5
           have kb6 := cell_kept6 R4 z6
           have kb7 := cell_kept6 R4 z7
           have kb8 := cell_kept6 R4 z8
           have kb9 := cell_kept6 R4 z9
           have kb0 := cell_kept6 R4 z10
)
        | (go_at_call 83; (with_reducible refine (cV _ R4).mono ?_); rintro e wf ⟨⟨gv, cv, rfl, hEv, x5, x6⟩, hb5⟩
           have R5 := below_two R4 hb5
           have kc1 := cell_kept6 R5 y1
           have kc2 := cell_kept6 R5 y2
           have kc5 := cell_kept6 R5 z5
           have kc6 := cell_kept6 R5 z6
           have kc7 := cell_kept6 R5 z7
           have kc8 := cell_kept6 R5 z8
           have kc9 := cell_kept6 R5 z9
           have kc0 := cell_kept6 R5 z10
           obtain ⟨wg, hrun, hown, hgrow⟩ := World.ownsMap.update (HOc.out.bel R5) spot_law Tryz.underlying89 (show N < maxLen by unfold maxLen; omega) HK.out (kvElem_mk gK cKK gv cv s.w)
           unfold kvV at hrun
           have m1 := cells_map (HOc.out.bel R5) hgrow kc1
           have m2 := cells_map (HOc.out.bel R5) hgrow kc2
           have m5 := cells_map (HOc.out.bel R5) hgrow kc5
           have m6 := cells_map (HOc.out.bel R5) hgrow kc6
           have m7 := cells_map (HOc.out.bel R5) hgrow kc7
           have m8 := cells_map (HOc.out.bel R5) hgrow kc8
           have m9 := cells_map (HOc.out.bel R5) hgrow kc9
           have m0 := cells_map (HOc.out.bel R5) hgrow kc0
           ))
    have HCM : Hid (∀ q v, wf.cell? q = some v → wg.cell? q = some v) := Lib.hid (fun q v h => cells_map (HOc.out.bel R5) hgrow h)
    have KD : Hid (KeptD wg s.l s.w p (l + 1) (fun l' q => if q = p ∧ l' = l then kvO s b.blk p xs else K l' q) (D.put (keyS l p) (kvD gK cKK gv cv s.w))) := Lib.hid (by
      refine KeptD.kept ?_ (fun q hq => hq.cellsK HCM.out)
      refine (((HDb.out.bel hBx.out).bel R5)).step hl HL16 (by omega) (fun l' q hlq => by simp; omega) ?_ ?_
      · simp only [and_self, if_true]
        exact (rw_at hEK x3 x4).below hb5
      · simp only [and_self, if_true]
        exact rw_at hEv x5 x6)
    have GG : Hid (w.grownBy wg (some mb)) := Lib.hid (bel_grown (below_two (below_two HB2.out hBx.out) R5) hgrow)
    have HRg := Lib.hid (box_map (HOc.out.bel R5) hgrow (HRc.out.bel R5))
    have HXg := Lib.hid (box_map (HOc.out.bel R5) hgrow (HXc.out.bel R5))
    have HQg := Lib.hid (box_map (HOc.out.bel R5) hgrow (hQ.out.bel R5))
    have HEg := Lib.hid ((hEQ.out.below R5).cellsK HCM.out)
    have HIg := Lib.hid ((I6.out.below (below_two hBx.out R5)).cellsK HCM.out)
    have HXXg := Lib.hid ((HXX.out.below (below_two hBx.out R5)).cellsK HCM.out)
    have HTg : Hid (Tab wg) := Lib.hid (fun i hi => HCM.out _ _ ((HTb.out.below (below_two hBx.out R5)) i hi))
    have HMg : Hid (ModAt wg m s W) := Lib.hid (by
      have h1 := HMb.out.bel (below_two hBx.out R5)
      exact h1.mapped (HOc.out.bel R5) hgrow HCM.out)
    have HOg : Hid (OwnK wg mb (N + 1) (D.put (keyS l p) (kvD gK cKK gv cv s.w))) := Lib.hid hown
    have szg : wf.heap.size ≤ wg.heap.size := hgrow.size
    have sz5 := R5.size
    have cP := places8 r m mb l p s.l s.w (N + 1) _ _ wg HRg.out HOg.out KD.out hl HL16 (by omega)
    rw [kcol_snoc] at cP
    clear hb3 hb4 hb5 R3 R4 R5 hrun hown hgrow hEk hEK hEv x1 x2 x3 x4 x5 x6 cK cV cT HCM HRb HXb HMb HOb HDb I4 I5 I6 HXX HTb HSb HA HB2 hQ hEQ hBx HRc HXc HAc HOc HK y1 y2 z5 z6 z7 z8 z9 z10
    clear ka1 ka2 ka5 ka6 ka7 ka8 ka9 ka0 kb1 kb2 kb5 kb6 kb7 kb8 kb9 kb0 kc1 kc2 kc5 kc6 kc7 kc8 kc9 kc0 m1 m2 m5 m6 m7 m8 m9 m0
    go_wp2_with fail
    refine cP.mono ?_
    rintro e wh ⟨⟨gp, ks, rfl, hks, hkv, hkn⟩, hb6⟩
    have hb6' := hb6
    obtain ⟨q1', q2', q3', q4'⟩ := sz_heads OK.out
    obtain ⟨hw, hhw⟩ : ∃ hw, s.w / s.h = hw := ⟨_, rfl⟩
    rw [hhw] at q1' q2' q3' q4'
    have HW := Lib.hid hhw
    have HQ := Lib.hid q1'
    have hB2 : ∀ o1 o2, Below wh.heap.size wh ((wh.alloc o1).alloc o2) := fun o1 o2 => ((Below.refl _ _).alloc (Nat.le_refl _) o1).alloc (by simp) o2
    have hh := fun o1 o2 => heads8 m s OK.out W hw HW ((wh.alloc o1).alloc o2) ((HMg.out.bel hb6).bel (hB2 o1 o2))
    have hgqg := HQg.out.lt
    have sz6 := hb6.size
    have HKS := Lib.hid hks
    have HKV := Lib.hid hkv
    have HKN := Lib.hid hkn
    have HB6 := Lib.hid hb6
    clear cP hhw q1' hks hkv hkn hb6' hb6
    go_wp2_with (go_at_call 87; (with_reducible refine (hh _ _).mono ?_); rintro e w3 ⟨⟨bh, ch, rfl, hbl, hcl, hBb, hBc⟩, hB⟩)
    have hB0 : Below wh.heap.size wh w3 := (hB2 _ _).trans (hB.mono (by simp; omega))
    have X12 : Boxed w3 wh.heap.size 159 (.slice (some ⟨gp, 0, none⟩) (p + 1) (p + 1)) := (hB.block _ (by simp; omega)).trans ((Boxed.new wh 159 (.slice (some ⟨gp, 0, none⟩) (p + 1) (p + 1))).alloc _)
    have X13 : Boxed w3 (wh.heap.size + 1) 24 (.slice none 0 0) := by
      have := Boxed.new (wh.alloc (.cells #[.slice (some ⟨gp, 0, none⟩) (p + 1) (p + 1)] 159)) 24 (.slice none 0 0)
      rw [World.size_alloc] at this
      exact (hB.block _ (by simp)).trans this
    have hsz : wh.heap.size + 2 ≤ w3.heap.size := by have := hB.size; simp at this; omega
    have HG3 : Hid (Below wg.heap.size wg w3) := Lib.hid (below_two HB6.out hB0)
    have X11 : Boxed w3 gq 24 (.slice (some ⟨g2, 0, none⟩) s.w c2) := HQg.out.bel HG3.out
    simp at hbl hcl
    have hclt := hBc.lt
    have hBAlt : wh.heap.size + 1 < w3.heap.size := by omega
    have hgq3 : gq < w3.heap.size := by omega
    have HEh := Lib.hid (HEg.out.below HB6.out)
    have HTh := Lib.hid (HTg.out.below HB6.out)
    clear hB hB2 hh HEg HTg
    refine (wpIn_wide (n := 3)).1 ?_
    refine wpIn_rangeFunc_ownG rfl (by omega) (gf := 110) (lb := #[.pointer (some ⟨bh, 0, none⟩), .pointer (some ⟨ch, 0, none⟩)]) rfl trivial (enters_of Tryz.func110 (by kernel_rfl) rfl)
      (heads_stops Fence.wide _ trivial rfl (by omega) bh ch s OK.out hw HQ w3 hBb hBc) (fun {A B C} h k => k.trans h) (fun W l o o' hl hlo ho _ => World.putObj_heap_other (by omega)) (Below.refl _ _) (fun _ => rfl)
      (fun (pre : List (Hd8 s.w hw)) W => HoldsI w3 (wh.heap.size + 1) (pre.flatMap fun x => ansR hw x.1.1 (headR hw (qO s b.blk p xs) x.1.1) (kcol K l p ++ [kvO s b.blk p xs])) W)
      (fun _ _ _ => False)
      ?own
      (fun _ _ _ _ _ hs _ _ => hs)
      ⟨⟨_, X13, World.ownsRow_nil _ _ _ _⟩, grownBy_refl _ _⟩
      (fun (x : Hd8 s.w hw) => { tmps := #[Value.pointer (some ⟨r, 0, none⟩), Value.int IntKind.i64 ↑l, Value.agg b.cells, Value.slice xa s.w xcap, undef, undef, Value.pointer (some ⟨w.heap.size, 0, none⟩), undef, Value.slice none 0 0, Value.pointer (some ⟨m, 0, none⟩), Value.slice (some ⟨ga, 0, none⟩) s.w ca, Value.pointer (some ⟨gq, 0, none⟩), Value.pointer (some ⟨wh.heap.size, 0, none⟩), Value.pointer (some ⟨wh.heap.size + 1, 0, none⟩), Value.int IntKind.i64 (x.1.1 : Nat), Value.int IntKind.i64 (x.1.2 : Nat), Value.pointer (some ⟨r, 0, none⟩), Value.pointer (some ⟨r, 0, none⟩), Value.pointer (some ⟨r, 0, none⟩), Value.pointer (some ⟨m, 0, none⟩), Value.pointer (some ⟨w.heap.size, 0, none⟩), Value.slice b.x.a s.w b.x.cap, Value.slice xa s.w xcap, Value.slice (some ⟨ga, 0, none⟩) s.w ca, u24, u25, u26, u27, u28, u29, u30, u31, u32, u33, Value.pointer (some ⟨r, 0, none⟩), Value.pointer (some ⟨r, 0, none⟩), Value.pointer (some ⟨r, 2, none⟩), Value.map (some mb), Value.int IntKind.i64 ↑l, Value.pointer (some ⟨r, 0, none⟩), Value.pointer (some ⟨r, 0, none⟩), Value.pointer (some ⟨r, 1, none⟩), Value.int IntKind.i64 ↑p, Value.agg #[Value.int IntKind.i64 ↑l, Value.int IntKind.i64 ↑p], Value.pointer (some ⟨m, 0, none⟩), Value.pointer (some ⟨r, 0, none⟩), Value.pointer (some ⟨r, 0, none⟩), Value.pointer (some ⟨r, 1, none⟩), Value.int IntKind.i64 ↑p, Value.pointer (some ⟨w.heap.size, 5, none⟩), Value.agg #[Value.int IntKind.i64 b.k.r, Value.int IntKind.i64 b.k.c, Value.slice b.k.a b.k.n b.k.cap], Value.slice (some ⟨ga, 0, none⟩) s.w ca, Value.slice (some ⟨gk, 0, none⟩) s.w ck, Value.slice (some ⟨gK, 0, none⟩) s.w cKK, Value.pointer (some ⟨w.heap.size, 8, none⟩), Value.agg #[Value.int IntKind.i64 b.v.r, Value.int IntKind.i64 b.v.c, Value.slice b.v.a b.v.n b.v.cap], Value.slice (some ⟨ga, 0, none⟩) s.w ca, Value.slice (some ⟨gv, 0, none⟩) s.w cv, Value.agg #[Value.slice (some ⟨gK, 0, none⟩) s.w cKK, Value.slice (some ⟨gv, 0, none⟩) s.w cv], Value.pointer (some ⟨r, 0, none⟩), Value.int IntKind.i64 ↑l, Value.slice (some ⟨gp, 0, none⟩) (p + 1) (p + 1), Value.pointer (some ⟨m, 0, none⟩), Value.func (Fn.func 110) #[] #[Value.pointer (some ⟨bh, 0, none⟩), Value.pointer (some ⟨ch, 0, none⟩)], Value.int IntKind.i64 (x.1.1 : Nat), Value.int IntKind.i64 (x.1.2 : Nat), u66, u67, u68, u69, u70, u71, u72, u73, u74, u75, u76, u77, u78, u79, u80, u81], defers := [] }) ?assign ?body ?done ?stop
    case own =>
      have hO := holdsI_own w3 (wh.heap.size + 1) (fun (pre : List (Hd8 s.w hw)) => pre.flatMap fun x => ansR hw x.1.1 (headR hw (qO s b.blk p xs) x.1.1) (kcol K l p ++ [kvO s b.blk p xs]))
      exact hO
    case assign =>
      intro l x W' K hK
      simp only [encH]
      gi_wp2
      exact hK
    case body =>
      rintro l' pre x W' ⟨⟨v, hv, hrow⟩, hG⟩ hlt
      obtain ⟨hlh, hhi⟩ := x.2
      obtain ⟨lo, hlo⟩ : ∃ lo, x.1.1 = lo := ⟨_, rfl⟩
      obtain ⟨hi', hhi'⟩ : ∃ q, x.1.2 = q := ⟨_, rfl⟩
      rw [hlo, hhi'] at hlh
      rw [hhi'] at hhi
      simp only [hlo, hhi']
      have HLO := Lib.hid hlo
      clear hlo hhi'
      have Y0 : W'.cell? ⟨wh.heap.size + 1, 0, none⟩ = some v := hv.cell
      have Y1 : W'.cell? ⟨gq, 0, none⟩ = some (.slice (some ⟨g2, 0, none⟩) s.w c2) := by have : Boxed W' gq 24 (.slice (some ⟨g2, 0, none⟩) s.w c2) := (hG.block _ hgq3 (by simp; omega)).trans X11; exact this.cell
      have Y2 : W'.cell? ⟨wh.heap.size, 0, none⟩ = some (.slice (some ⟨gp, 0, none⟩) (p + 1) (p + 1)) := by have : Boxed W' wh.heap.size 159 (.slice (some ⟨gp, 0, none⟩) (p + 1) (p + 1)) := (hG.block _ (by omega) (by simp)).trans X12; exact this.cell
      have hBW0 : Below wh.heap.size wh W' := hB0.grown hG hB0.size (fun k e => by cases e; omega)
      have hBWd : Below wh.heap.size wh W'.drew := hBW0.drew
      have hlen : hi' - lo = hw := by omega
      have HQR : Rw.In .i8 W' ⟨some ⟨g2, lo, none⟩, hi' - lo, c2 - lo, headR hw (qO s b.blk p xs) lo⟩ := by
        have h1 := (rw_at (HEh.out.below hBW0) q1 q2).sub lo hw (by show lo + hw ≤ s.w; omega) (by omega)
        simp only [Rw.sub, Option.map_some, add_plain', Nat.zero_add] at h1
        rw [hlen]
        exact h1
      have cA := answer8 ⟨some ⟨g2, lo, none⟩, hi' - lo, c2 - lo, headR hw (qO s b.blk p xs) lo⟩ lo hi' hw (Lib.hid hlen) (by omega) (by omega) (by omega) (by omega) (some ⟨gp, 0, none⟩) (p + 1) (p + 1) ks W'.drew HQR (HKS.out.below hBWd) (by omega) (by omega) (Lib.hid (fun k hk => by have := HKN.out k hk; omega)) (HTh.out.below hBWd)
      simp only at cA
      have hne : ¬ c2 = lo := by omega
      have l1 : (lo : Int) ≤ (hi' : Int) := by omega
      have l2 : (hi' : Int) ≤ (c2 : Int) := by omega
      have l0 : (0 : Int) ≤ (lo : Int) := by omega
      obtain ⟨ls, hls⟩ : ∃ ls, (pre.flatMap fun x => ansR hw x.1.1 (headR hw (qO s b.blk p xs) x.1.1) (kcol K l p ++ [kvO s b.blk p xs])) = ls := ⟨_, rfl⟩
      have hll : ls.length ≤ 16 * 128 := by
        have hfl := flatL_len (fun (x : Hd8 s.w hw) => ansR hw x.1.1 (headR hw (qO s b.blk p xs) x.1.1) (kcol K l p ++ [kvO s b.blk p xs])) hw (fun _ => mixV_length _ _ _ _) pre
        rw [← hls, hfl]
        have h16 : s.h ≤ 16 := OK.out.bd.2.1.2
        exact Nat.mul_le_mul (by omega) (by omega)
      rw [hls] at hrow
      have HKVo := HKV.out
      rw [HKVo] at cA
      have hend : Hid ((pre ++ [x]).flatMap (fun x => ansR hw x.1.1 (headR hw (qO s b.blk p xs) x.1.1) (kcol K l p ++ [kvO s b.blk p xs])) = ls ++ ansR hw lo (headR hw (qO s b.blk p xs) lo) (kcol K l p ++ [kvO s b.blk p xs])) := Lib.hid (by
        rw [List.flatMap_append, hls]
        simp only [List.flatMap_cons, List.flatMap_nil, List.append_nil]
        rw [HLO.out])
      generalize ansR hw lo (headR hw (qO s b.blk p xs) lo) (kcol K l p ++ [kvO s b.blk p xs]) = ms at cA hend
      have HLS := Lib.hid hls
      have HLEN := Lib.hid hlen
      clear hls HKVo hlen hlh hhi HQR hBW0 hBWd
      gi_upto_region 10 with (fail)
      refine wpIn_region_round (S := (fun w' => w'.cell? ⟨gq, 0, none⟩ = some (.slice (some ⟨g2, 0, none⟩) s.w c2) ∧ w'.cell? ⟨wh.heap.size, 0, none⟩ = some (.slice (some ⟨gp, 0, none⟩) (p + 1) (p + 1)))) (by kernel_rfl) (by kernel_rfl) (fun a w h => h) ?_ (fun hHeld => ?_)
      · exact ⟨Y1, Y2⟩
      refine wpAnyH_take (i := 1) (oi := ⟨some 67, _, _, _, _, _⟩) (v := ?_) rfl (by kernel_rfl) (by kernel_rfl) (by kernel_rfl) (fun _ _ _ h => h) (Or.inl ⟨by rfl, ?hy1⟩) hHeld ?rest1
      case hy1 => (intro W hSw; (try dsimp only at hSw); go_simp; (try with_reducible rfl))
      simp only [Act.put, List.setIfInBounds_toArray, List.set_cons_zero, List.set_cons_succ]
      refine wpAnyH_take (i := 2) (oi := ⟨some 68, _, _, _, _, _⟩) (v := ?_) rfl (by kernel_rfl) (by kernel_rfl) (by kernel_rfl) (fun _ _ _ h => h) (Or.inl ⟨by rfl, ?hy2⟩) hHeld ?rest2
      case hy2 => (intro W hSw; (try dsimp only at hSw); go_simp; (try with_reducible rfl))
      simp only [Act.put, List.setIfInBounds_toArray, List.set_cons_zero, List.set_cons_succ]
      refine wpAnyH_take (i := 3) (oi := ⟨some 69, _, _, _, _, _⟩) (v := ?_) rfl (by kernel_rfl) (by kernel_rfl) (by kernel_rfl) (fun _ _ _ h => h) (Or.inl ⟨by rfl, ?hy3⟩) hHeld ?rest3
      case hy3 => (intro W hSw; (try dsimp only at hSw); go_simp; (try with_reducible rfl))
      simp only [Act.put, List.setIfInBounds_toArray, List.set_cons_zero, List.set_cons_succ]
      refine wpAnyH_take (i := 4) (oi := ⟨some 70, _, _, _, _, _⟩) (v := ?_) rfl (by kernel_rfl) (by kernel_rfl) (by kernel_rfl) (fun _ _ _ h => h) (Or.inl ⟨by rfl, ?hy4⟩) hHeld ?rest4
      case hy4 => (intro W hSw; (try dsimp only at hSw); go_simp; (try with_reducible rfl))
      simp only [Act.put, List.setIfInBounds_toArray, List.set_cons_zero, List.set_cons_succ]
      refine wpAnyH_take (i := 5) (oi := ⟨some 71, _, _, _, _, _⟩) (v := ?_) rfl (by kernel_rfl) (by kernel_rfl) (by kernel_rfl) (fun _ _ _ h => h) (Or.inl ⟨by rfl, ?hy5⟩) hHeld ?rest5
      case hy5 => (intro W hSw; (try dsimp only at hSw); go_simp; (try with_reducible rfl))
      simp only [Act.put, List.setIfInBounds_toArray, List.set_cons_zero, List.set_cons_succ]
      refine wpAnyH_take (i := 6) (oi := ⟨some 72, _, _, _, _, _⟩) (v := ?_) rfl (by kernel_rfl) (by kernel_rfl) (by kernel_rfl) (fun _ _ _ h => h) (Or.inl ⟨by rfl, ?hy6⟩) hHeld ?rest6
      case hy6 => (intro W hSw; (try dsimp only at hSw); go_simp; (try with_reducible rfl))
      simp only [Act.put, List.setIfInBounds_toArray, List.set_cons_zero, List.set_cons_succ]
      refine wpAnyH_take (i := 7) (oi := ⟨some 73, _, _, _, _, _⟩) (v := ?_) rfl (by kernel_rfl) (by kernel_rfl) (by kernel_rfl) (fun _ _ _ h => h) (Or.inl ⟨by rfl, ?hy7⟩) hHeld ?rest7
      case hy7 => (intro W hSw; (try dsimp only at hSw); go_simp; (try with_reducible rfl))
      simp only [Act.put, List.setIfInBounds_toArray, List.set_cons_zero, List.set_cons_succ]
      refine wpAnyH_ready (rs := [0, 8]) (by kernel_rfl) (by simp) ?_
      refine AllReadyH.cons (o := ⟨some 66, _, _, _, _, _⟩) rfl (fun K hK => ?_) (AllReadyH.cons (o := ⟨some 74, _, _, _, _, _⟩) rfl (fun K hK => ?_) AllReadyH.nil)
      · go_simp
        refine hK.out _ _ ?_ (fun hNew => ?_)
        · ((try dsimp only); (first | exact ⟨Y1, Y2⟩ | exact ⟨Z1, Z2⟩ | exact ⟨P1, P2⟩ | exact ⟨Q1, Q2⟩))
        clear hK K hHeld
        have hHeld := hNew
        clear hNew
        try simp only [Act.put, List.setIfInBounds_toArray, List.set_cons_zero, List.set_cons_succ]
        refine wpAnyH_ready (rs := [8]) (by kernel_rfl) (by simp) ?_
        refine AllReadyH.cons (o := ⟨some 74, _, _, _, _, _⟩) rfl (fun K hK => ?_) AllReadyH.nil
        go_simp
        (go_at_call 88; (with_reducible refine cA.mono ?_); rintro e wa ⟨⟨g, ca2, rfl, hEa, u1, u2⟩, hba⟩)
        have hbW : Below W'.heap.size W' wa := ((Below.refl _ W').drew).trans hba
        have Z0 := cell_kept6 hbW Y0
        have Z1 := cell_kept6 hbW Y1
        have Z2 := cell_kept6 hbW Y2
        have hrA := own_below hrow hbW
        obtain ⟨v', w1, hrun, hown, hgrow, _⟩ := run_append_elems (P := Tryz.prog) .i8 wa w3.heap.size 24 64 1 (by decide) Tryz.underlying24 info_i8 v ls.length ls hrA (some ⟨g, 0, none⟩) hw ca2 _ hEa (fun e => (by cases e)) (by omega) (by omega) (Nat.le_trans hG.size hbW.size)
        have K9 := HoldsI.next hG hv hBAlt hrow hbW (by rw [hEa.1]; exact hown) hgrow
        obtain ⟨g', cap', hv2⟩ := own_some hown (by omega)
        subst hv2
        have hvB : Boxed wa (wh.heap.size + 1) 24 v := (hbW.block _ hv.lt).trans hv
        obtain ⟨P0, F0⟩ := cell_own hgrow hrA hBAlt hvB
        have P1 := (World.cell?_of_block (w := wa) (a := ⟨gq, 0, none⟩) (hgrow.block gq (Nat.lt_of_lt_of_le hgq3 (Nat.le_trans hG.size hbW.size)) (fun e => by have := (hrA.lt gq e.symm).1; omega))).trans Z1
        have P2 := (World.cell?_of_block (w := wa) (a := ⟨wh.heap.size, 0, none⟩) (hgrow.block wh.heap.size (Nat.lt_of_lt_of_le (by omega) (Nat.le_trans hG.size hbW.size)) (fun e => by have := (hrA.lt _ e.symm).1; omega))).trans Z2
        have Q1 := cell_set P1 (q := ⟨wh.heap.size + 1, 0, none⟩) (.slice (some ⟨g', 0, none⟩) (ls.length + hw) cap') (by simp; omega)
        have Q2 := cell_set P2 (q := ⟨wh.heap.size + 1, 0, none⟩) (.slice (some ⟨g', 0, none⟩) (ls.length + hw) cap') (by simp)
        (try go_wp2_with fail)
        refine hK.out _ _ ?_ (fun hNew => ?_)
        · ((try dsimp only); (first | exact ⟨Y1, Y2⟩ | exact ⟨Z1, Z2⟩ | exact ⟨P1, P2⟩ | exact ⟨Q1, Q2⟩))
        clear hK K hHeld
        have hHeld := hNew
        clear hNew
        try simp only [Act.put, List.setIfInBounds_toArray, List.set_cons_zero, List.set_cons_succ]
        refine wpAnyH_ready (rs := [9]) (by kernel_rfl) (by simp) ?_
        refine AllReadyH.cons (o := ⟨some 75, _, _, _, _, _⟩) rfl (fun K hK => ?_) AllReadyH.nil
        ((with_reducible refine step_append_run ?_ (.tmp 66) (.tmp 74) 24 ?_ _ _ ?_ ?_ hrun ?_); rfl; rfl; rfl; rfl)
        refine hK.out _ _ ?_ (fun hNew => ?_)
        · ((try dsimp only); (first | exact ⟨Y1, Y2⟩ | exact ⟨Z1, Z2⟩ | exact ⟨P1, P2⟩ | exact ⟨Q1, Q2⟩))
        clear hK K hHeld
        have hHeld := hNew
        clear hNew
        try simp only [Act.put, List.setIfInBounds_toArray, List.set_cons_zero, List.set_cons_succ]
        refine wpAnyH_ready (rs := [10]) (by kernel_rfl) (by simp) ?_
        refine AllReadyH.cons (o := ⟨none, _, _, _, _, _⟩) rfl (fun K hK => ?_) AllReadyH.nil
        go_simp
        refine hK.out _ _ ?_ (fun hNew => ?_)
        · ((try dsimp only); (first | exact ⟨Y1, Y2⟩ | exact ⟨Z1, Z2⟩ | exact ⟨P1, P2⟩ | exact ⟨Q1, Q2⟩))
        clear hK K hHeld
        have hHeld := hNew
        clear hNew
        try simp only [Act.put, List.setIfInBounds_toArray, List.set_cons_zero, List.set_cons_succ]
        refine wpAnyH_done (by kernel_rfl) ?_ _
        exact ⟨K9.2.1.from _, K9.2.2 ch (by omega) hclt, by show HoldsI _ _ _ _; rw [hend.out]; exact K9.1⟩
      · go_simp
        (go_at_call 88; (with_reducible refine cA.mono ?_); rintro e wa ⟨⟨g, ca2, rfl, hEa, u1, u2⟩, hba⟩)
        have hbW : Below W'.heap.size W' wa := ((Below.refl _ W').drew).trans hba
        have Z0 := cell_kept6 hbW Y0
        have Z1 := cell_kept6 hbW Y1
        have Z2 := cell_kept6 hbW Y2
        have hrA := own_below hrow hbW
        obtain ⟨v', w1, hrun, hown, hgrow, _⟩ := run_append_elems (P := Tryz.prog) .i8 wa w3.heap.size 24 64 1 (by decide) Tryz.underlying24 info_i8 v ls.length ls hrA (some ⟨g, 0, none⟩) hw ca2 _ hEa (fun e => (by cases e)) (by omega) (by omega) (Nat.le_trans hG.size hbW.size)
        have K9 := HoldsI.next hG hv hBAlt hrow hbW (by rw [hEa.1]; exact hown) hgrow
        obtain ⟨g', cap', hv2⟩ := own_some hown (by omega)
        subst hv2
        have hvB : Boxed wa (wh.heap.size + 1) 24 v := (hbW.block _ hv.lt).trans hv
        obtain ⟨P0, F0⟩ := cell_own hgrow hrA hBAlt hvB
        have P1 := (World.cell?_of_block (w := wa) (a := ⟨gq, 0, none⟩) (hgrow.block gq (Nat.lt_of_lt_of_le hgq3 (Nat.le_trans hG.size hbW.size)) (fun e => by have := (hrA.lt gq e.symm).1; omega))).trans Z1
        have P2 := (World.cell?_of_block (w := wa) (a := ⟨wh.heap.size, 0, none⟩) (hgrow.block wh.heap.size (Nat.lt_of_lt_of_le (by omega) (Nat.le_trans hG.size hbW.size)) (fun e => by have := (hrA.lt _ e.symm).1; omega))).trans Z2
        have Q1 := cell_set P1 (q := ⟨wh.heap.size + 1, 0, none⟩) (.slice (some ⟨g', 0, none⟩) (ls.length + hw) cap') (by simp; omega)
        have Q2 := cell_set P2 (q := ⟨wh.heap.size + 1, 0, none⟩) (.slice (some ⟨g', 0, none⟩) (ls.length + hw) cap') (by simp)
        (try go_wp2_with fail)
        refine hK.out _ _ ?_ (fun hNew => ?_)
        · ((try dsimp only); (first | exact ⟨Y1, Y2⟩ | exact ⟨Z1, Z2⟩ | exact ⟨P1, P2⟩ | exact ⟨Q1, Q2⟩))
        clear hK K hHeld
        have hHeld := hNew
        clear hNew
        try simp only [Act.put, List.setIfInBounds_toArray, List.set_cons_zero, List.set_cons_succ]
        refine wpAnyH_ready (rs := [0]) (by kernel_rfl) (by simp) ?_
        refine AllReadyH.cons (o := ⟨some 66, _, _, _, _, _⟩) rfl (fun K hK => ?_) AllReadyH.nil
        go_simp
        refine hK.out _ _ ?_ (fun hNew => ?_)
        · ((try dsimp only); (first | exact ⟨Y1, Y2⟩ | exact ⟨Z1, Z2⟩ | exact ⟨P1, P2⟩ | exact ⟨Q1, Q2⟩))
        clear hK K hHeld
        have hHeld := hNew
        clear hNew
        try simp only [Act.put, List.setIfInBounds_toArray, List.set_cons_zero, List.set_cons_succ]
        refine wpAnyH_ready (rs := [9]) (by kernel_rfl) (by simp) ?_
        refine AllReadyH.cons (o := ⟨some 75, _, _, _, _, _⟩) rfl (fun K hK => ?_) AllReadyH.nil
        ((with_reducible refine step_append_run ?_ (.tmp 66) (.tmp 74) 24 ?_ _ _ ?_ ?_ hrun ?_); rfl; rfl; rfl; rfl)
        refine hK.out _ _ ?_ (fun hNew => ?_)
        · ((try dsimp only); (first | exact ⟨Y1, Y2⟩ | exact ⟨Z1, Z2⟩ | exact ⟨P1, P2⟩ | exact ⟨Q1, Q2⟩))
        clear hK K hHeld
        have hHeld := hNew
        clear hNew
        try simp only [Act.put, List.setIfInBounds_toArray, List.set_cons_zero, List.set_cons_succ]
        refine wpAnyH_ready (rs := [10]) (by kernel_rfl) (by simp) ?_
        refine AllReadyH.cons (o := ⟨none, _, _, _, _, _⟩) rfl (fun K hK => ?_) AllReadyH.nil
        go_simp
        refine hK.out _ _ ?_ (fun hNew => ?_)
        · ((try dsimp only); (first | exact ⟨Y1, Y2⟩ | exact ⟨Z1, Z2⟩ | exact ⟨P1, P2⟩ | exact ⟨Q1, Q2⟩))
        clear hK K hHeld
        have hHeld := hNew
        clear hNew
        try simp only [Act.put, List.setIfInBounds_toArray, List.set_cons_zero, List.set_cons_succ]
        refine wpAnyH_done (by kernel_rfl) ?_ _
        exact ⟨K9.2.1.from _, K9.2.2 ch (by omega) hclt, by show HoldsI _ _ _ _; rw [hend.out]; exact K9.1⟩
    case done =>
      rintro D9 ys W' hD9 hys ⟨⟨v, hv, hrow⟩, hG⟩ hK
      have hls : (ys.flatMap fun x => ansR hw x.1.1 (headR hw (qO s b.blk p xs) x.1.1) (kcol K l p ++ [kvO s b.blk p xs])) = ansAll s (qO s b.blk p xs) (kcol K l p ++ [kvO s b.blk p xs]) := by
        have e : (ys.flatMap fun x => ansR hw x.1.1 (headR hw (qO s b.blk p xs) x.1.1) (kcol K l p ++ [kvO s b.blk p xs])) = (ys.map (·.1)).flatMap fun q => ansR hw q.1 (headR hw (qO s b.blk p xs) q.1) (kcol K l p ++ [kvO s b.blk p xs]) := by rw [List.flatMap_map]
        rw [e, hys]
        unfold ansAll
        rw [HW.out]
        exact allH_flat s.h hw (fun k => ansO hw k (qO s b.blk p xs) (kcol K l p ++ [kvO s b.blk p xs])) _ (fun k => rfl)
      rw [hls] at hrow
      have hln := ansAll_length s (qO s b.blk p xs) (kcol K l p ++ [kvO s b.blk p xs])
      rw [HW.out, HQ.out] at hln
      rw [hln] at hrow
      obtain ⟨g, cap', rfl⟩ := own_some hrow (by omega)
      have hcap' : s.w ≤ cap' ∧ cap' ≤ 9223372036854775807 := by
        rcases hrow.2 with ⟨h1, _⟩ | ⟨g9, c9, cur, h1, _, _, h3, h4, _⟩
        · cases h1
        · simp only [Value.slice.injEq] at h1
          unfold maxLen at h4
          omega
      obtain ⟨a', c', hv', hEr⟩ := own_form hrow (by omega) (ansAll_wf _ _ _)
      simp only [Value.slice.injEq, true_and] at hv'
      obtain ⟨e1, e2⟩ := hv'
      subst e1 e2
      have hc := hv.cell
      have hBWg : Below wg.heap.size wg W' := HG3.out.grown hG HG3.out.size (fun k e => by cases e; omega)
      have hX' : Box W' w.heap.size 66 b.cells := HXg.out.bel hBWg
      obtain ⟨_, _, _, _, _, _, _, _, _, _, _, z11, z12, z13, _⟩ := box_bk hX'
      have HATT : Hid (attO s b.blk p xs (kcol K l p ++ [kvO s b.blk p xs]) = joinL 1 4 xs (mv b.o.v (ansAll s (qO s b.blk p xs) (kcol K l p ++ [kvO s b.blk p xs])) s.w s.w) s.w) := Lib.hid rfl
      have cP2 := product8 b.o ⟨some ⟨g, 0, none⟩, s.w, cap', _⟩ s.w s.w HM6.out rfl (by omega) (by omega) W' (HIg.out.below hBWg) (rw_at hEr hcap'.1 hcap'.2)
      have HBWg := Lib.hid hBWg
      have HXXw := Lib.hid (HXXg.out.below hBWg)
      clear hrow hys hls hln hv hEr hX' hBWg hcap'
      go_wp2_with fail
      refine cP2.mono ?_
      rintro e wi ⟨⟨g4, c4, rfl, hE4, _, _⟩, hb7⟩
      have cJ := joined8 xa (some ⟨g4, 0, none⟩) s.w xcap c4 xs _ wi (HXXw.out.below hb7) hE4 (by omega)
      clear cP2 hE4
      go_wp2_with fail
      refine cJ.mono ?_
      rintro e wj ⟨⟨g5, c5, rfl, hE5, q5, q6⟩, hb8⟩
      have HE5 := Lib.hid hE5
      clear cJ hE5
      go_wp2
      have hb9 := below_two hb7 hb8
      have hKj : wj.heap[D9]? = some (.deferred (some [])) := (hb9.block D9 (Array.getElem?_eq_some_iff.1 hK).1).trans hK
      have hEnd : Below wg.heap.size wg (wj.putObj D9 (.deferred none)) := (below_two HBWg.out hb9).trans (belowK_b (w := wg) (Nat.le_refl _) wj D9 _ _ (Nat.le_trans HG3.out.size hD9) hKj rfl rfl)
      have hEnd2 : Below wj.heap.size wj (wj.putObj D9 (.deferred none)) ∨ True := .inr trivial
      refine ⟨by simp, .inl ⟨_, _, rfl, run_takeDeferred hKj, ?_⟩⟩
      refine ⟨_, results_tmp rfl _ _ _, ⟨g5, c5, rfl, ?_, q5, q6⟩, grown_bel GG.out hEnd, _, HOg.out.bel hEnd, KD.out.bel hEnd⟩
      rw [HATT.out]
      exact HE5.out.cellsK (fun q v hq => cell_putObj hKj hq)
    case stop =>
      rintro D' c' pre W' _ _ hf _
      exact hf.elim

end Go.Proofs.YtoeihigdndkjeaaGreatDoor
