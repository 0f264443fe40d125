import Derived.Test.YtoeihigdndkjeaaGreatDoorJ18
/-
  A copy of a block.
-/
namespace Go.Proofs.YtoeihigdndkjeaaGreatDoor
open Go.RowKit Go.Shelf
set_option linter.unusedVariables false
attribute [local go_sem] Oper.semAt_some

/-- two blocks hold the same numbers; a block is none of what lies below B; a block's rows aren't long -/
def Bk7.Same (a b : Bk7) : Prop := a.x.v = b.x.v ∧ a.x.n = b.x.n ∧ a.y.v = b.y.v ∧ a.y.n = b.y.n ∧ (a.q.v = b.q.v ∧ a.q.n = b.q.n ∧ a.q.r = b.q.r ∧ a.q.c = b.q.c) ∧ (a.k.v = b.k.v ∧ a.k.n = b.k.n ∧ a.k.r = b.k.r ∧ a.k.c = b.k.c) ∧ (a.v.v = b.v.v ∧ a.v.n = b.v.n ∧ a.v.r = b.v.r ∧ a.v.c = b.v.c) ∧ (a.o.v = b.o.v ∧ a.o.n = b.o.n ∧ a.o.r = b.o.r ∧ a.o.c = b.o.c) ∧ (a.u.v = b.u.v ∧ a.u.n = b.u.n ∧ a.u.r = b.u.r ∧ a.u.c = b.u.c) ∧ (a.d.v = b.d.v ∧ a.d.n = b.d.n ∧ a.d.r = b.d.r ∧ a.d.c = b.d.c)
def Bk7.Own (B : Nat) (b : Bk7) : Prop := (∀ x, b.x.a = some x → B ≤ x.block) ∧ (∀ x, b.y.a = some x → B ≤ x.block) ∧ (∀ x, b.q.a = some x → B ≤ x.block) ∧ (∀ x, b.k.a = some x → B ≤ x.block) ∧ (∀ x, b.v.a = some x → B ≤ x.block) ∧ (∀ x, b.o.a = some x → B ≤ x.block) ∧ (∀ x, b.u.a = some x → B ≤ x.block) ∧ (∀ x, b.d.a = some x → B ≤ x.block)
def Bk7.Small (b : Bk7) : Prop := b.x.n ≤ 65536 ∧ b.y.n ≤ 65536 ∧ b.q.n ≤ 65536 ∧ b.k.n ≤ 65536 ∧ b.v.n ≤ 65536 ∧ b.o.n ≤ 65536 ∧ b.u.n ≤ 65536 ∧ b.d.n ≤ 65536
theorem Bk7.Same.blk {a b : Bk7} (h : a.Same b) : a.blk = b.blk := by
  obtain ⟨h1, _, h2, _, ⟨h3, _⟩, ⟨h4, _⟩, ⟨h5, _⟩, ⟨h6, _⟩, ⟨h7, _⟩, h8, _⟩ := h
  unfold Bk7.blk
  rw [h1, h2, h3, h4, h5, h6, h7, h8]
theorem Bk7.Same.bkB {a b : Bk7} (h : a.Same b) (s : Sz) : bkB s a = bkB s b := by
  obtain ⟨_, h1, _, h2, ⟨_, a1, a2, a3⟩, ⟨_, b1, b2, b3⟩, ⟨_, c1, c2, c3⟩, ⟨_, d1, d2, d3⟩, ⟨_, e1, e2, e3⟩, _, f1, f2, f3⟩ := h
  unfold Go.Proofs.YtoeihigdndkjeaaGreatDoor.bkB matB
  simp only [List.all_cons, List.all_nil]
  rw [h1, h2, a1, a2, a3, b1, b2, b3, c1, c2, c3, d1, d2, d3, e1, e2, e3, f1, f2, f3]

theorem gr_kept {w w' : World} {g : Gr} (h : g.In8 w) {B : Nat} (hq : ∀ x, g.a = some x → B ≤ x.block) (hk : ∀ k, B ≤ k → k < w.heap.size → w'.heap[k]? = w.heap[k]?) : g.In8 w' :=
  ⟨(rw_kept (q := g.row) ⟨h.1, h.2.1, h.2.2.1, h.2.2.2.1⟩ hq hk).1, h.2⟩

set_option maxHeartbeats 8000000 in
set_option maxRecDepth 100000 in
theorem block8 (b : Bk7) (w : World) (h : b.In w) (hs : b.Small) :
    Calls Tryz.prog 43 #[.agg b.cells] w fun e w' => (∃ a : Bk7, e = .returned (.agg a.cells) ∧ a.In w' ∧ a.Same b ∧ a.Own w.heap.size) ∧ Below w.heap.size w w' := by
  obtain ⟨ix, iy, iq, ik, iv, io, iu, id⟩ := h
  obtain ⟨sx, sy, sq, sk, sv, so, su, sd⟩ := hs
  have c0 : ∀ V, Below w.heap.size w V → Calls Tryz.prog 38 #[.slice b.x.a b.x.n b.x.cap] V fun e w' => CopyR .i8 b.x V e w' := fun V hV => clone8 b.x V (ix.below hV) sx
  have c1 : ∀ V, Below w.heap.size w V → Calls Tryz.prog 42 #[.agg #[.int .i64 b.q.r, .int .i64 b.q.c, .slice b.q.a b.q.n b.q.cap]] V fun e w' => CopyG b.q V e w' := fun V hV => matrix8 b.q V (iq.bel hV) sq
  have c2 : ∀ V, Below w.heap.size w V → Calls Tryz.prog 42 #[.agg #[.int .i64 b.k.r, .int .i64 b.k.c, .slice b.k.a b.k.n b.k.cap]] V fun e w' => CopyG b.k V e w' := fun V hV => matrix8 b.k V (ik.bel hV) sk
  have c3 : ∀ V, Below w.heap.size w V → Calls Tryz.prog 42 #[.agg #[.int .i64 b.v.r, .int .i64 b.v.c, .slice b.v.a b.v.n b.v.cap]] V fun e w' => CopyG b.v V e w' := fun V hV => matrix8 b.v V (iv.bel hV) sv
  have c4 : ∀ V, Below w.heap.size w V → Calls Tryz.prog 42 #[.agg #[.int .i64 b.o.r, .int .i64 b.o.c, .slice b.o.a b.o.n b.o.cap]] V fun e w' => CopyG b.o V e w' := fun V hV => matrix8 b.o V (io.bel hV) so
  have c5 : ∀ V, Below w.heap.size w V → Calls Tryz.prog 38 #[.slice b.y.a b.y.n b.y.cap] V fun e w' => CopyR .i8 b.y V e w' := fun V hV => clone8 b.y V (iy.below hV) sy
  have c6 : ∀ V, Below w.heap.size w V → Calls Tryz.prog 42 #[.agg #[.int .i64 b.u.r, .int .i64 b.u.c, .slice b.u.a b.u.n b.u.cap]] V fun e w' => CopyG b.u V e w' := fun V hV => matrix8 b.u V (iu.bel hV) su
  have c7 : ∀ V, Below w.heap.size w V → Calls Tryz.prog 42 #[.agg #[.int .i64 b.d.r, .int .i64 b.d.c, .slice b.d.a b.d.n b.d.cap]] V fun e w' => CopyG b.d V e w' := fun V hV => matrix8 b.d V (id.bel hV) sd
  clear ix iy iq ik iv io iu id sx sy sq sk sv so su sd
  go_enter Tryz.func43, Tryz.ntmps43
  go_upto_region 1 with (fail)
  generalize hwa : World.alloc _ _ = wa
  have X : Box wa w.heap.size 66 b.cells := by rw [← hwa]; exact (box_new _ _ _).alloc _
  have hY : ∃ cs, cs.size = 20 ∧ Box wa (w.heap.size + 1) 66 cs := by rw [← hwa]; exact ⟨_, rfl, box_at (by simp) _ _⟩
  have hB0 : Below w.heap.size w wa := by rw [← hwa]; exact ((Below.refl _ _).alloc (Nat.le_refl _) _).alloc (by simp) _
  clear hwa
  obtain ⟨cs, hcs, Y⟩ := hY
  have HCS := Lib.hid hcs
  clear hcs
  have hs2 : w.heap.size + 2 ≤ wa.heap.size := Y.lt
  have D0 : Below wa.heap.size wa wa.drew := (Below.refl _ _).drew
  have HBw := Lib.hid hB0
  have X0 : Box wa.drew w.heap.size 66 b.cells := X
  have Y0 : Box wa.drew (w.heap.size + 1) 66 cs := Y
  have cC0 := fun V hV => c0 V (below_two HBw.out hV)
  have cC1 := fun V hV => c1 V (below_two HBw.out hV)
  have cC2 := fun V hV => c2 V (below_two HBw.out hV)
  have cC3 := fun V hV => c3 V (below_two HBw.out hV)
  have cC4 := fun V hV => c4 V (below_two HBw.out hV)
  have cC5 := fun V hV => c5 V (below_two HBw.out hV)
  have cC6 := fun V hV => c6 V (below_two HBw.out hV)
  have cC7 := fun V hV => c7 V (below_two HBw.out hV)
  clear c0 c1 c2 c3 c4 c5 c6 c7 X Y hB0
  refine wp_region_held_drew (S := fun w' => w'.cell? ⟨w.heap.size, 0, none⟩ = some (.slice b.x.a b.x.n b.x.cap) ∧ w'.cell? ⟨w.heap.size, 1, none⟩ = some (.slice b.y.a b.y.n b.y.cap) ∧ w'.cell? ⟨w.heap.size, 2, none⟩ = some (.int .i64 b.q.r) ∧ w'.cell? ⟨w.heap.size, 3, none⟩ = some (.int .i64 b.q.c) ∧ w'.cell? ⟨w.heap.size, 4, none⟩ = some (.slice b.q.a b.q.n b.q.cap) ∧ w'.cell? ⟨w.heap.size, 5, none⟩ = some (.int .i64 b.k.r) ∧ w'.cell? ⟨w.heap.size, 6, none⟩ = some (.int .i64 b.k.c) ∧ w'.cell? ⟨w.heap.size, 7, none⟩ = some (.slice b.k.a b.k.n b.k.cap) ∧ w'.cell? ⟨w.heap.size, 8, none⟩ = some (.int .i64 b.v.r) ∧ w'.cell? ⟨w.heap.size, 9, none⟩ = some (.int .i64 b.v.c) ∧ w'.cell? ⟨w.heap.size, 10, none⟩ = some (.slice b.v.a b.v.n b.v.cap) ∧ w'.cell? ⟨w.heap.size, 11, none⟩ = some (.int .i64 b.o.r) ∧ w'.cell? ⟨w.heap.size, 12, none⟩ = some (.int .i64 b.o.c) ∧ w'.cell? ⟨w.heap.size, 13, none⟩ = some (.slice b.o.a b.o.n b.o.cap) ∧ w'.cell? ⟨w.heap.size, 14, none⟩ = some (.int .i64 b.u.r) ∧ w'.cell? ⟨w.heap.size, 15, none⟩ = some (.int .i64 b.u.c) ∧ w'.cell? ⟨w.heap.size, 16, none⟩ = some (.slice b.u.a b.u.n b.u.cap) ∧ w'.cell? ⟨w.heap.size, 17, none⟩ = some (.int .i64 b.d.r) ∧ w'.cell? ⟨w.heap.size, 18, none⟩ = some (.int .i64 b.d.c) ∧ w'.cell? ⟨w.heap.size, 19, none⟩ = some (.slice b.d.a b.d.n b.d.cap)) (by kernel_rfl) ?_ (fun hHeld => ?_)
  · ((try dsimp only); (first | exact box_bk X8 | exact box_bk X7 | exact box_bk X6 | exact box_bk X5 | exact box_bk X4 | exact box_bk X3 | exact box_bk X2 | exact box_bk X1 | exact box_bk X0 | exact box_bk XZ))
  refine wpAnyH_take (i := 0) (oi := ⟨some 3, _, _, _, _, _⟩) (v := ?_) rfl (by kernel_rfl) (by kernel_rfl) (by kernel_rfl) (fun _ _ _ h => h) (Or.inl ⟨by rfl, ?hy1⟩) hHeld ?rest1
  case hy1 => (intro W hSw; (try dsimp only at hSw); go_simp; (try with_reducible rfl))
  simp only [Act.put, List.setIfInBounds_toArray, List.set_cons_zero, List.set_cons_succ]
  refine wpAnyH_take (i := 1) (oi := ⟨some 4, _, _, _, _, _⟩) (v := ?_) rfl (by kernel_rfl) (by kernel_rfl) (by kernel_rfl) (fun _ _ _ h => h) (Or.inl ⟨by rfl, ?hy2⟩) hHeld ?rest2
  case hy2 => (intro W hSw; (try dsimp only at hSw); go_simp; (try with_reducible rfl))
  simp only [Act.put, List.setIfInBounds_toArray, List.set_cons_zero, List.set_cons_succ]
  refine wpAnyH_take (i := 3) (oi := ⟨some 6, _, _, _, _, _⟩) (v := ?_) rfl (by kernel_rfl) (by kernel_rfl) (by kernel_rfl) (fun _ _ _ h => h) (Or.inl ⟨by rfl, ?hy3⟩) hHeld ?rest3
  case hy3 => (intro W hSw; (try dsimp only at hSw); go_simp; (try with_reducible rfl))
  simp only [Act.put, List.setIfInBounds_toArray, List.set_cons_zero, List.set_cons_succ]
  refine wpAnyH_take (i := 4) (oi := ⟨some 7, _, _, _, _, _⟩) (v := ?_) rfl (by kernel_rfl) (by kernel_rfl) (by kernel_rfl) (fun _ _ _ h => h) (Or.inl ⟨by rfl, ?hy4⟩) hHeld ?rest4
  case hy4 => (intro W hSw; (try dsimp only at hSw); go_simp; (try with_reducible rfl))
  simp only [Act.put, List.setIfInBounds_toArray, List.set_cons_zero, List.set_cons_succ]
  refine wpAnyH_take (i := 6) (oi := ⟨some 9, _, _, _, _, _⟩) (v := ?_) rfl (by kernel_rfl) (by kernel_rfl) (by kernel_rfl) (fun _ _ _ h => h) (Or.inl ⟨by rfl, ?hy5⟩) hHeld ?rest5
  case hy5 => (intro W hSw; (try dsimp only at hSw); go_simp; (try with_reducible rfl))
  simp only [Act.put, List.setIfInBounds_toArray, List.set_cons_zero, List.set_cons_succ]
  refine wpAnyH_take (i := 7) (oi := ⟨some 10, _, _, _, _, _⟩) (v := ?_) rfl (by kernel_rfl) (by kernel_rfl) (by kernel_rfl) (fun _ _ _ h => h) (Or.inl ⟨by rfl, ?hy6⟩) hHeld ?rest6
  case hy6 => (intro W hSw; (try dsimp only at hSw); go_simp; (try with_reducible rfl))
  simp only [Act.put, List.setIfInBounds_toArray, List.set_cons_zero, List.set_cons_succ]
  refine wpAnyH_take (i := 9) (oi := ⟨some 12, _, _, _, _, _⟩) (v := ?_) rfl (by kernel_rfl) (by kernel_rfl) (by kernel_rfl) (fun _ _ _ h => h) (Or.inl ⟨by rfl, ?hy7⟩) hHeld ?rest7
  case hy7 => (intro W hSw; (try dsimp only at hSw); go_simp; (try with_reducible rfl))
  simp only [Act.put, List.setIfInBounds_toArray, List.set_cons_zero, List.set_cons_succ]
  refine wpAnyH_take (i := 10) (oi := ⟨some 13, _, _, _, _, _⟩) (v := ?_) rfl (by kernel_rfl) (by kernel_rfl) (by kernel_rfl) (fun _ _ _ h => h) (Or.inl ⟨by rfl, ?hy8⟩) hHeld ?rest8
  case hy8 => (intro W hSw; (try dsimp only at hSw); go_simp; (try with_reducible rfl))
  simp only [Act.put, List.setIfInBounds_toArray, List.set_cons_zero, List.set_cons_succ]
  refine wpAnyH_take (i := 12) (oi := ⟨some 15, _, _, _, _, _⟩) (v := ?_) rfl (by kernel_rfl) (by kernel_rfl) (by kernel_rfl) (fun _ _ _ h => h) (Or.inl ⟨by rfl, ?hy9⟩) hHeld ?rest9
  case hy9 => (intro W hSw; (try dsimp only at hSw); go_simp; (try with_reducible rfl))
  simp only [Act.put, List.setIfInBounds_toArray, List.set_cons_zero, List.set_cons_succ]
  refine wpAnyH_take (i := 13) (oi := ⟨some 16, _, _, _, _, _⟩) (v := ?_) rfl (by kernel_rfl) (by kernel_rfl) (by kernel_rfl) (fun _ _ _ h => h) (Or.inl ⟨by rfl, ?hy10⟩) hHeld ?rest10
  case hy10 => (intro W hSw; (try dsimp only at hSw); go_simp; (try with_reducible rfl))
  simp only [Act.put, List.setIfInBounds_toArray, List.set_cons_zero, List.set_cons_succ]
  refine wpAnyH_take (i := 15) (oi := ⟨some 18, _, _, _, _, _⟩) (v := ?_) rfl (by kernel_rfl) (by kernel_rfl) (by kernel_rfl) (fun _ _ _ h => h) (Or.inl ⟨by rfl, ?hy11⟩) hHeld ?rest11
  case hy11 => (intro W hSw; (try dsimp only at hSw); go_simp; (try with_reducible rfl))
  simp only [Act.put, List.setIfInBounds_toArray, List.set_cons_zero, List.set_cons_succ]
  refine wpAnyH_take (i := 16) (oi := ⟨some 19, _, _, _, _, _⟩) (v := ?_) rfl (by kernel_rfl) (by kernel_rfl) (by kernel_rfl) (fun _ _ _ h => h) (Or.inl ⟨by rfl, ?hy12⟩) hHeld ?rest12
  case hy12 => (intro W hSw; (try dsimp only at hSw); go_simp; (try with_reducible rfl))
  simp only [Act.put, List.setIfInBounds_toArray, List.set_cons_zero, List.set_cons_succ]
  refine wpAnyH_take (i := 18) (oi := ⟨some 21, _, _, _, _, _⟩) (v := ?_) rfl (by kernel_rfl) (by kernel_rfl) (by kernel_rfl) (fun _ _ _ h => h) (Or.inl ⟨by rfl, ?hy13⟩) hHeld ?rest13
  case hy13 => (intro W hSw; (try dsimp only at hSw); go_simp; (try with_reducible rfl))
  simp only [Act.put, List.setIfInBounds_toArray, List.set_cons_zero, List.set_cons_succ]
  refine wpAnyH_take (i := 19) (oi := ⟨some 22, _, _, _, _, _⟩) (v := ?_) rfl (by kernel_rfl) (by kernel_rfl) (by kernel_rfl) (fun _ _ _ h => h) (Or.inl ⟨by rfl, ?hy14⟩) hHeld ?rest14
  case hy14 => (intro W hSw; (try dsimp only at hSw); go_simp; (try with_reducible rfl))
  simp only [Act.put, List.setIfInBounds_toArray, List.set_cons_zero, List.set_cons_succ]
  refine wpAnyH_take (i := 21) (oi := ⟨some 24, _, _, _, _, _⟩) (v := ?_) rfl (by kernel_rfl) (by kernel_rfl) (by kernel_rfl) (fun _ _ _ h => h) (Or.inl ⟨by rfl, ?hy15⟩) hHeld ?rest15
  case hy15 => (intro W hSw; (try dsimp only at hSw); go_simp; (try with_reducible rfl))
  simp only [Act.put, List.setIfInBounds_toArray, List.set_cons_zero, List.set_cons_succ]
  refine wpAnyH_take (i := 22) (oi := ⟨some 25, _, _, _, _, _⟩) (v := ?_) rfl (by kernel_rfl) (by kernel_rfl) (by kernel_rfl) (fun _ _ _ h => h) (Or.inl ⟨by rfl, ?hy16⟩) hHeld ?rest16
  case hy16 => (intro W hSw; (try dsimp only at hSw); go_simp; (try with_reducible rfl))
  simp only [Act.put, List.setIfInBounds_toArray, List.set_cons_zero, List.set_cons_succ]
  refine wpAnyH_ready (rs := [2]) (by kernel_rfl) (by simp) ?_
  refine AllReadyH.cons (o := ⟨some 5, _, _, _, _, _⟩) rfl (fun K hK => ?_) AllReadyH.nil
  go_simp
  (go_at_call 38; (with_reducible refine (cC0 _ D0).mono ?_); rintro e w1 ⟨⟨g0, rfl, hi, hv, hn, hb⟩, hB⟩)
  have HI0 := Lib.hid hi
  have HS0 : Hid (g0.v = b.x.v ∧ g0.n = b.x.n) := Lib.hid ⟨hv, hn⟩
  have HO0 : Hid (∀ x, g0.a = some x → w.heap.size + 2 ≤ x.block) := Lib.hid fun x hx => Nat.le_trans (Nat.le_trans hs2 D0.size) (hb x hx)
  have HB0 := Lib.hid hB
  have D1 := below_two D0 hB
  have X1 := X0.bel hB
  have Y1 := Y0.bel hB
  clear hi hv hn hb hB
  (try go_wp2_with fail)
  refine hK.out _ _ ?_ (fun hNew => ?_)
  · ((try dsimp only); (first | exact box_bk X8 | exact box_bk X7 | exact box_bk X6 | exact box_bk X5 | exact box_bk X4 | exact box_bk X3 | exact box_bk X2 | exact box_bk X1 | exact box_bk X0 | exact box_bk XZ))
  clear hK K hHeld
  have hHeld := hNew
  clear hNew
  try simp only [Act.put, List.setIfInBounds_toArray, List.set_cons_zero, List.set_cons_succ]
  refine wpAnyH_ready (rs := [5]) (by kernel_rfl) (by simp) ?_
  refine AllReadyH.cons (o := ⟨some 8, _, _, _, _, _⟩) rfl (fun K hK => ?_) AllReadyH.nil
  go_simp
  (go_at_call 42; (with_reducible refine (cC1 _ D1).mono ?_); rintro e w2 ⟨⟨g1, rfl, hi, hv, hn, hr, hc, hb⟩, hB⟩)
  have HI1 := Lib.hid hi
  have HS1 : Hid (g1.v = b.q.v ∧ g1.n = b.q.n ∧ g1.r = b.q.r ∧ g1.c = b.q.c) := Lib.hid ⟨hv, hn, hr, hc⟩
  have HO1 : Hid (∀ x, g1.a = some x → w.heap.size + 2 ≤ x.block) := Lib.hid fun x hx => Nat.le_trans (Nat.le_trans hs2 D1.size) (hb x hx)
  have HB1 := Lib.hid hB
  have D2 := below_two D1 hB
  have X2 := X1.bel hB
  have Y2 := Y1.bel hB
  clear hi hv hn hr hc hb hB
  (try go_wp2_with fail)
  refine hK.out _ _ ?_ (fun hNew => ?_)
  · ((try dsimp only); (first | exact box_bk X8 | exact box_bk X7 | exact box_bk X6 | exact box_bk X5 | exact box_bk X4 | exact box_bk X3 | exact box_bk X2 | exact box_bk X1 | exact box_bk X0 | exact box_bk XZ))
  clear hK K hHeld
  have hHeld := hNew
  clear hNew
  try simp only [Act.put, List.setIfInBounds_toArray, List.set_cons_zero, List.set_cons_succ]
  refine wpAnyH_ready (rs := [8]) (by kernel_rfl) (by simp) ?_
  refine AllReadyH.cons (o := ⟨some 11, _, _, _, _, _⟩) rfl (fun K hK => ?_) AllReadyH.nil
  go_simp
  (go_at_call 42; (with_reducible refine (cC2 _ D2).mono ?_); rintro e w3 ⟨⟨g2, rfl, hi, hv, hn, hr, hc, hb⟩, hB⟩)
  have HI2 := Lib.hid hi
  have HS2 : Hid (g2.v = b.k.v ∧ g2.n = b.k.n ∧ g2.r = b.k.r ∧ g2.c = b.k.c) := Lib.hid ⟨hv, hn, hr, hc⟩
  have HO2 : Hid (∀ x, g2.a = some x → w.heap.size + 2 ≤ x.block) := Lib.hid fun x hx => Nat.le_trans (Nat.le_trans hs2 D2.size) (hb x hx)
  have HB2 := Lib.hid hB
  have D3 := below_two D2 hB
  have X3 := X2.bel hB
  have Y3 := Y2.bel hB
  clear hi hv hn hr hc hb hB
  (try go_wp2_with fail)
  refine hK.out _ _ ?_ (fun hNew => ?_)
  · ((try dsimp only); (first | exact box_bk X8 | exact box_bk X7 | exact box_bk X6 | exact box_bk X5 | exact box_bk X4 | exact box_bk X3 | exact box_bk X2 | exact box_bk X1 | exact box_bk X0 | exact box_bk XZ))
  clear hK K hHeld
  have hHeld := hNew
  clear hNew
  try simp only [Act.put, List.setIfInBounds_toArray, List.set_cons_zero, List.set_cons_succ]
  refine wpAnyH_ready (rs := [11]) (by kernel_rfl) (by simp) ?_
  refine AllReadyH.cons (o := ⟨some 14, _, _, _, _, _⟩) rfl (fun K hK => ?_) AllReadyH.nil
  go_simp
  (go_at_call 42; (with_reducible refine (cC3 _ D3).mono ?_); rintro e w4 ⟨⟨g3, rfl, hi, hv, hn, hr, hc, hb⟩, hB⟩)
  have HI3 := Lib.hid hi
  have HS3 : Hid (g3.v = b.v.v ∧ g3.n = b.v.n ∧ g3.r = b.v.r ∧ g3.c = b.v.c) := Lib.hid ⟨hv, hn, hr, hc⟩
  have HO3 : Hid (∀ x, g3.a = some x → w.heap.size + 2 ≤ x.block) := Lib.hid fun x hx => Nat.le_trans (Nat.le_trans hs2 D3.size) (hb x hx)
  have HB3 := Lib.hid hB
  have D4 := below_two D3 hB
  have X4 := X3.bel hB
  have Y4 := Y3.bel hB
  clear hi hv hn hr hc hb hB
  (try go_wp2_with fail)
  refine hK.out _ _ ?_ (fun hNew => ?_)
  · ((try dsimp only); (first | exact box_bk X8 | exact box_bk X7 | exact box_bk X6 | exact box_bk X5 | exact box_bk X4 | exact box_bk X3 | exact box_bk X2 | exact box_bk X1 | exact box_bk X0 | exact box_bk XZ))
  clear hK K hHeld
  have hHeld := hNew
  clear hNew
  try simp only [Act.put, List.setIfInBounds_toArray, List.set_cons_zero, List.set_cons_succ]
  refine wpAnyH_ready (rs := [14]) (by kernel_rfl) (by simp) ?_
  refine AllReadyH.cons (o := ⟨some 17, _, _, _, _, _⟩) rfl (fun K hK => ?_) AllReadyH.nil
  go_simp
  (go_at_call 42; (with_reducible refine (cC4 _ D4).mono ?_); rintro e w5 ⟨⟨g4, rfl, hi, hv, hn, hr, hc, hb⟩, hB⟩)
  have HI4 := Lib.hid hi
  have HS4 : Hid (g4.v = b.o.v ∧ g4.n = b.o.n ∧ g4.r = b.o.r ∧ g4.c = b.o.c) := Lib.hid ⟨hv, hn, hr, hc⟩
  have HO4 : Hid (∀ x, g4.a = some x → w.heap.size + 2 ≤ x.block) := Lib.hid fun x hx => Nat.le_trans (Nat.le_trans hs2 D4.size) (hb x hx)
  have HB4 := Lib.hid hB
  have D5 := below_two D4 hB
  have X5 := X4.bel hB
  have Y5 := Y4.bel hB
  clear hi hv hn hr hc hb hB
  (try go_wp2_with fail)
  refine hK.out _ _ ?_ (fun hNew => ?_)
  · ((try dsimp only); (first | exact box_bk X8 | exact box_bk X7 | exact box_bk X6 | exact box_bk X5 | exact box_bk X4 | exact box_bk X3 | exact box_bk X2 | exact box_bk X1 | exact box_bk X0 | exact box_bk XZ))
  clear hK K hHeld
  have hHeld := hNew
  clear hNew
  try simp only [Act.put, List.setIfInBounds_toArray, List.set_cons_zero, List.set_cons_succ]
  refine wpAnyH_ready (rs := [17]) (by kernel_rfl) (by simp) ?_
  refine AllReadyH.cons (o := ⟨some 20, _, _, _, _, _⟩) rfl (fun K hK => ?_) AllReadyH.nil
  go_simp
  (go_at_call 38; (with_reducible refine (cC5 _ D5).mono ?_); rintro e w6 ⟨⟨g5, rfl, hi, hv, hn, hb⟩, hB⟩)
  have HI5 := Lib.hid hi
  have HS5 : Hid (g5.v = b.y.v ∧ g5.n = b.y.n) := Lib.hid ⟨hv, hn⟩
  have HO5 : Hid (∀ x, g5.a = some x → w.heap.size + 2 ≤ x.block) := Lib.hid fun x hx => Nat.le_trans (Nat.le_trans hs2 D5.size) (hb x hx)
  have HB5 := Lib.hid hB
  have D6 := below_two D5 hB
  have X6 := X5.bel hB
  have Y6 := Y5.bel hB
  clear hi hv hn hb hB
  (try go_wp2_with fail)
  refine hK.out _ _ ?_ (fun hNew => ?_)
  · ((try dsimp only); (first | exact box_bk X8 | exact box_bk X7 | exact box_bk X6 | exact box_bk X5 | exact box_bk X4 | exact box_bk X3 | exact box_bk X2 | exact box_bk X1 | exact box_bk X0 | exact box_bk XZ))
  clear hK K hHeld
  have hHeld := hNew
  clear hNew
  try simp only [Act.put, List.setIfInBounds_toArray, List.set_cons_zero, List.set_cons_succ]
  refine wpAnyH_ready (rs := [20]) (by kernel_rfl) (by simp) ?_
  refine AllReadyH.cons (o := ⟨some 23, _, _, _, _, _⟩) rfl (fun K hK => ?_) AllReadyH.nil
  go_simp
  (go_at_call 42; (with_reducible refine (cC6 _ D6).mono ?_); rintro e w7 ⟨⟨g6, rfl, hi, hv, hn, hr, hc, hb⟩, hB⟩)
  have HI6 := Lib.hid hi
  have HS6 : Hid (g6.v = b.u.v ∧ g6.n = b.u.n ∧ g6.r = b.u.r ∧ g6.c = b.u.c) := Lib.hid ⟨hv, hn, hr, hc⟩
  have HO6 : Hid (∀ x, g6.a = some x → w.heap.size + 2 ≤ x.block) := Lib.hid fun x hx => Nat.le_trans (Nat.le_trans hs2 D6.size) (hb x hx)
  have HB6 := Lib.hid hB
  have D7 := below_two D6 hB
  have X7 := X6.bel hB
  have Y7 := Y6.bel hB
  clear hi hv hn hr hc hb hB
  (try go_wp2_with fail)
  refine hK.out _ _ ?_ (fun hNew => ?_)
  · ((try dsimp only); (first | exact box_bk X8 | exact box_bk X7 | exact box_bk X6 | exact box_bk X5 | exact box_bk X4 | exact box_bk X3 | exact box_bk X2 | exact box_bk X1 | exact box_bk X0 | exact box_bk XZ))
  clear hK K hHeld
  have hHeld := hNew
  clear hNew
  try simp only [Act.put, List.setIfInBounds_toArray, List.set_cons_zero, List.set_cons_succ]
  refine wpAnyH_ready (rs := [23]) (by kernel_rfl) (by simp) ?_
  refine AllReadyH.cons (o := ⟨some 26, _, _, _, _, _⟩) rfl (fun K hK => ?_) AllReadyH.nil
  go_simp
  (go_at_call 42; (with_reducible refine (cC7 _ D7).mono ?_); rintro e w8 ⟨⟨g7, rfl, hi, hv, hn, hr, hc, hb⟩, hB⟩)
  have HI7 := Lib.hid hi
  have HS7 : Hid (g7.v = b.d.v ∧ g7.n = b.d.n ∧ g7.r = b.d.r ∧ g7.c = b.d.c) := Lib.hid ⟨hv, hn, hr, hc⟩
  have HO7 : Hid (∀ x, g7.a = some x → w.heap.size + 2 ≤ x.block) := Lib.hid fun x hx => Nat.le_trans (Nat.le_trans hs2 D7.size) (hb x hx)
  have HB7 := Lib.hid hB
  have D8 := below_two D7 hB
  have X8 := X7.bel hB
  have Y8 := Y7.bel hB
  clear hi hv hn hr hc hb hB
  (try go_wp2_with fail)
  refine hK.out _ _ ?_ (fun hNew => ?_)
  · ((try dsimp only); (first | exact box_bk X8 | exact box_bk X7 | exact box_bk X6 | exact box_bk X5 | exact box_bk X4 | exact box_bk X3 | exact box_bk X2 | exact box_bk X1 | exact box_bk X0 | exact box_bk XZ))
  clear hK K hHeld
  have hHeld := hNew
  clear hNew
  try simp only [Act.put, List.setIfInBounds_toArray, List.set_cons_zero, List.set_cons_succ]
  refine wpAnyH_take (i := 24) (oi := ⟨some 27, _, _, _, _, _⟩) (v := ?_) rfl (by kernel_rfl) (by kernel_rfl) (by kernel_rfl) (fun _ _ _ h => h) (Or.inl ⟨by rfl, ?hy17⟩) hHeld ?rest17
  case hy17 => (intro W hSw; (try dsimp only at hSw); go_simp; (try with_reducible rfl))
  simp only [Act.put, List.setIfInBounds_toArray, List.set_cons_zero, List.set_cons_succ]
  refine wpAnyH_ready (rs := [25]) (by kernel_rfl) (by simp) ?_
  refine AllReadyH.cons (o := ⟨none, _, _, _, _, _⟩) rfl (fun K hK => ?_) AllReadyH.nil
  refine wp_store_row 66 _ _ rfl (w.heap.size + 1) (Bk7.mk g0 g5 g1 g2 g3 g4 g6 g7).cells rfl rfl 66 _ Y8 (by kernel_rfl) HCS.out (bk_one _) ?_
  have XZ := X8.setRow_other (g' := w.heap.size + 1) (cs' := (Bk7.mk g0 g5 g1 g2 g3 g4 g6 g7).cells) (by simp)
  refine hK.out _ _ ?_ (fun hNew => ?_)
  · ((try dsimp only); (first | exact box_bk X8 | exact box_bk X7 | exact box_bk X6 | exact box_bk X5 | exact box_bk X4 | exact box_bk X3 | exact box_bk X2 | exact box_bk X1 | exact box_bk X0 | exact box_bk XZ))
  clear hK K hHeld
  have hHeld := hNew
  clear hNew
  refine wpAnyH_done (by kernel_rfl) ?_ _
  have D9 := below_two HBw.out D8
  have Jx := rw_kept (w' := w8.setRow (w.heap.size + 1) (Bk7.mk g0 g5 g1 g2 g3 g4 g6 g7).cells) ((((((((HI0.out).below HB1.out).below HB2.out).below HB3.out).below HB4.out).below HB5.out).below HB6.out).below HB7.out) HO0.out (fun k hk hl => (grownBy_setRow w8 (w.heap.size + 1) _).block k hl (by simp; omega))
  have Jy := rw_kept (w' := w8.setRow (w.heap.size + 1) (Bk7.mk g0 g5 g1 g2 g3 g4 g6 g7).cells) (((HI5.out).below HB6.out).below HB7.out) HO5.out (fun k hk hl => (grownBy_setRow w8 (w.heap.size + 1) _).block k hl (by simp; omega))
  have Jq := gr_kept (w' := w8.setRow (w.heap.size + 1) (Bk7.mk g0 g5 g1 g2 g3 g4 g6 g7).cells) (((((((HI1.out).bel HB2.out).bel HB3.out).bel HB4.out).bel HB5.out).bel HB6.out).bel HB7.out) HO1.out (fun k hk hl => (grownBy_setRow w8 (w.heap.size + 1) _).block k hl (by simp; omega))
  have Jk := gr_kept (w' := w8.setRow (w.heap.size + 1) (Bk7.mk g0 g5 g1 g2 g3 g4 g6 g7).cells) ((((((HI2.out).bel HB3.out).bel HB4.out).bel HB5.out).bel HB6.out).bel HB7.out) HO2.out (fun k hk hl => (grownBy_setRow w8 (w.heap.size + 1) _).block k hl (by simp; omega))
  have Jv := gr_kept (w' := w8.setRow (w.heap.size + 1) (Bk7.mk g0 g5 g1 g2 g3 g4 g6 g7).cells) (((((HI3.out).bel HB4.out).bel HB5.out).bel HB6.out).bel HB7.out) HO3.out (fun k hk hl => (grownBy_setRow w8 (w.heap.size + 1) _).block k hl (by simp; omega))
  have Jo := gr_kept (w' := w8.setRow (w.heap.size + 1) (Bk7.mk g0 g5 g1 g2 g3 g4 g6 g7).cells) ((((HI4.out).bel HB5.out).bel HB6.out).bel HB7.out) HO4.out (fun k hk hl => (grownBy_setRow w8 (w.heap.size + 1) _).block k hl (by simp; omega))
  have Ju := gr_kept (w' := w8.setRow (w.heap.size + 1) (Bk7.mk g0 g5 g1 g2 g3 g4 g6 g7).cells) ((HI6.out).bel HB7.out) HO6.out (fun k hk hl => (grownBy_setRow w8 (w.heap.size + 1) _).block k hl (by simp; omega))
  have Jd := gr_kept (w' := w8.setRow (w.heap.size + 1) (Bk7.mk g0 g5 g1 g2 g3 g4 g6 g7).cells) (HI7.out) HO7.out (fun k hk hl => (grownBy_setRow w8 (w.heap.size + 1) _).block k hl (by simp; omega))
  have HH : Hid ((∃ a : Bk7, Ending.returned (.agg (Bk7.mk g0 g5 g1 g2 g3 g4 g6 g7).cells) = .returned (.agg a.cells) ∧ a.In (w8.setRow (w.heap.size + 1) (Bk7.mk g0 g5 g1 g2 g3 g4 g6 g7).cells) ∧ a.Same b ∧ a.Own w.heap.size) ∧ Below w.heap.size w (w8.setRow (w.heap.size + 1) (Bk7.mk g0 g5 g1 g2 g3 g4 g6 g7).cells)) := Lib.hid
    ⟨⟨_, rfl, ⟨Jx, Jy, Jq, Jk, Jv, Jo, Ju, Jd⟩, ⟨HS0.out.1, HS0.out.2, HS5.out.1, HS5.out.2, HS1.out, HS2.out, HS3.out, HS4.out, HS6.out, HS7.out⟩, ⟨fun x hx => Nat.le_trans (Nat.le_add_right _ 2) (HO0.out x hx), fun x hx => Nat.le_trans (Nat.le_add_right _ 2) (HO5.out x hx), fun x hx => Nat.le_trans (Nat.le_add_right _ 2) (HO1.out x hx), fun x hx => Nat.le_trans (Nat.le_add_right _ 2) (HO2.out x hx), fun x hx => Nat.le_trans (Nat.le_add_right _ 2) (HO3.out x hx), fun x hx => Nat.le_trans (Nat.le_add_right _ 2) (HO4.out x hx), fun x hx => Nat.le_trans (Nat.le_add_right _ 2) (HO6.out x hx), fun x hx => Nat.le_trans (Nat.le_add_right _ 2) (HO7.out x hx)⟩⟩, below_setRow D9 (Nat.le_succ _) D9.size⟩
  have Y9 := Lib.hid (Y8.setRow (cs' := (Bk7.mk g0 g5 g1 g2 g3 g4 g6 g7).cells))
  clear Jx Jy Jq Jk Jv Jo Ju Jd D9 D8 X8 XZ Y8 hHeld
  go_wp2
  exact bodyPost_ret (v := .agg (Bk7.mk g0 g5 g1 g2 g3 g4 g6 g7).cells) (results_row rfl rfl Y9.out Tryz.underlying66 rfl (by kernel_rfl)) rfl HH.out

end Go.Proofs.YtoeihigdndkjeaaGreatDoor
