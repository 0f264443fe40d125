/-
  Are weights right? The code's odd, whole, Whole.
-/
import Derived.Test.YtgbbfmpofmeadaaSided
namespace Go.Proofs.Ytgbbfmpofmeadaa
open Go.RowKit
set_option linter.unusedVariables false

/-- has a block a shape's sides? -/
def bkB (s : Sz) (b : Bk7) : Bool := decide (b.x.n = s.w) && (decide (b.y.n = s.w) && ([b.q, b.k, b.v, b.o].all (matB s.w s.w) && ([b.u].all (matB s.i s.w) && [b.d].all (matB s.w s.i))))
/-- have weights a shape's sides? -/
def wtB (s : Sz) (W : Wt7) : Bool := [W.e, W.hd].all (matB s.v s.w) && (decide (W.t.n = s.w) && (decide (W.bn = s.l) && W.bs.all (bkB s)))
/-- are weights right? -/
def WholeP (W : Wt7) : Prop := ∃ s : Sz, s.Ok ∧ W.l = s.l ∧ W.w = s.w ∧ W.h = s.h ∧ W.i = s.i ∧ W.v = s.v ∧ W.p = s.p ∧ wtB s W = true

theorem mats_lit {w : World} {T : TypeId} {cs : Array Value} {n : Nat} {gs : List Gr} (hl : gs.length = n) (hn : n ≤ 100) (hin : ∀ g ∈ gs, g.In8 w)
    (hcs : ∀ k, k < n → cs[k * 3]? = some (.int .i64 (gs.getD k default).r) ∧ cs[k * 3 + 1]? = some (.int .i64 (gs.getD k default).c) ∧ cs[k * 3 + 2]? = some (.slice (gs.getD k default).a (gs.getD k default).n (gs.getD k default).cap)) :
    Mats (w.alloc (.cells cs T)) (some ⟨w.heap.size, 0, none⟩) n gs := by
  refine ⟨hl, by omega, fun g hg => (hin g hg).below ((Below.refl _ _).alloc (Nat.le_refl _) _), fun _ => ⟨w.heap.size, 0, rfl, fun i hi => ?_⟩⟩
  obtain ⟨h0, h1, h2⟩ := hcs i hi
  simp only [Nat.zero_add]
  exact ⟨((box_new w T cs).cell _).trans h0, ((box_new w T cs).cell _).trans h1, ((box_new w T cs).cell _).trans h2⟩

set_option maxHeartbeats 3200000 in
set_option maxRecDepth 100000 in
theorem odd_any (s : Sz) (ok : s.Ok) (b : Bk7) (w : World) (hb : b.In w) :
    Calls Try.prog 30 #[s.val, .agg b.cells] w fun e w' => e = .returned (.bool (!bkB s b)) ∧ Below w.heap.size w w' := by
  obtain ⟨hl, hh, hw, hi, hv, hp⟩ := ok.bd
  have p1 := Nat.mul_le_mul hw.2 hw.2
  have p2 := Nat.mul_le_mul hi.2 hw.2
  have p3 := Nat.mul_le_mul hw.2 hi.2
  have S1 : ∀ (V : World) (T : TypeId), Below w.heap.size w V → Calls Try.prog 28 #[.int .i64 s.w, .int .i64 s.w, .slice (some ⟨V.heap.size, 0, none⟩) 4 4] (V.alloc (.cells #[.int .i64 b.q.r, .int .i64 b.q.c, .slice b.q.a b.q.n b.q.cap, .int .i64 b.k.r, .int .i64 b.k.c, .slice b.k.a b.k.n b.k.cap, .int .i64 b.v.r, .int .i64 b.v.c, .slice b.v.a b.v.n b.v.cap, .int .i64 b.o.r, .int .i64 b.o.c, .slice b.o.a b.o.n b.o.cap] T)) fun e w' => e = .returned (.bool ([b.q, b.k, b.v, b.o].all (matB s.w s.w))) ∧ Below V.heap.size V w' := fun V T hV =>
    (sided_any s.w s.w (by omega) (by omega) (by omega) _ 4 4 [b.q, b.k, b.v, b.o] _ (mats_lit rfl (by omega) (by
      obtain ⟨h1, h2, h3, h4, h5, h6, h7, h8⟩ := hb.bel hV
      intro g hg
      simp only [List.mem_cons, List.not_mem_nil, or_false] at hg
      rcases hg with rfl | rfl | rfl | rfl <;> assumption) (lits4 _ _ _ _))).mono fun e w' ⟨h1, h2⟩ => ⟨h1, ((Below.refl _ _).alloc (Nat.le_refl _) _).trans (h2.mono (by simp))⟩
  have S2 : ∀ (V : World) (T : TypeId) (g : Gr) (r c : Nat), r ≤ 1000 → c ≤ 1000 → r * c ≤ 1048576 → g.In8 w → Below w.heap.size w V → Calls Try.prog 28 #[.int .i64 r, .int .i64 c, .slice (some ⟨V.heap.size, 0, none⟩) 1 1] (V.alloc (.cells #[.int .i64 g.r, .int .i64 g.c, .slice g.a g.n g.cap] T)) fun e w' => e = .returned (.bool ([g].all (matB r c))) ∧ Below V.heap.size V w' := fun V T g r c h1 h2 h3 hg hV =>
    (sided_any r c h1 h2 h3 _ 1 1 [g] _ (mats_lit rfl (by omega) (by
      intro g' hg'
      simp only [List.mem_cons, List.not_mem_nil, or_false] at hg'
      subst hg'
      exact hg.below hV) (lits1 _))).mono fun e w' ⟨h1, h2⟩ => ⟨h1, ((Below.refl _ _).alloc (Nat.le_refl _) _).trans (h2.mono (by simp))⟩
  have S3 := fun V T hV => S2 V T b.u s.i s.w (by omega) (by omega) (by omega) hb.2.2.2.2.2.2.1 hV
  have S4 := fun V T hV => S2 V T b.d s.w s.i (by omega) (by omega) (by omega) hb.2.2.2.2.2.2.2 hV
  have HR : Hid (bkB s b = (decide (b.x.n = s.w) && (decide (b.y.n = s.w) && ([b.q, b.k, b.v, b.o].all (matB s.w s.w) && ([b.u].all (matB s.i s.w) && [b.d].all (matB s.w s.i)))))) := Lib.hid rfl
  generalize [b.q, b.k, b.v, b.o].all (matB s.w s.w) = x1 at *
  generalize [b.u].all (matB s.i s.w) = x2 at *
  generalize [b.d].all (matB s.w s.i) = x3 at *
  generalize bkB s b = R at *
  clear hb S2 p1 p2 p3 ok
  obtain ⟨l, W, h, i, v, p⟩ := s
  unfold Sz.val Bk7.cells
  simp only at *
  go_enter Try.func30, Try.ntmps30
  go_upto_region 1 with (fail)
  generalize hwa : (w.alloc _).alloc _ = wa
  have hB : Below w.heap.size w wa := by rw [← hwa]; exact ((Below.refl _ _).alloc (Nat.le_refl _) _).alloc (by simp) _
  have XS : Box wa w.heap.size 54 #[.int .i64 l, .int .i64 W, .int .i64 h, .int .i64 i, .int .i64 v, .int .i64 p] := by rw [← hwa]; exact (box_new _ _ _).alloc _
  have XB : Box wa (w.heap.size + 1) 39 b.cells := by rw [← hwa]; exact box_at (by simp) _ _
  have HZ := Lib.hid (show wa.heap.size = w.heap.size + 2 by rw [← hwa]; simp)
  clear hwa
  have HB := Lib.hid hB
  have HXS := Lib.hid XS
  have HXB := Lib.hid XB
  have T1 := fun T => S1 wa T hB
  obtain ⟨c0, c1, c2, c3, c4, c5⟩ := XS.cells6
  obtain ⟨z0, z1, z2, z3, z4, z5, z6, z7, z8, z9, z10, z11, z12, z13, z14, z15, z16, z17, z18, z19⟩ := box_bk XB
  clear hB XS XB S1
  by_cases h1 : b.x.n = W
  · have e1 : ((b.x.n : Int) != (W : Int)) = false := by simp; omega
    by_cases h2 : b.y.n = W
    · have e2 : ((b.y.n : Int) != (W : Int)) = false := by simp; omega
      have HR2 : Hid (R = (x1 && (x2 && x3))) := Lib.hid (by rw [HR.out, decide_eq_true h1, decide_eq_true h2]; simp)
      clear HR h1 h2
      go_wp2_with fail
      refine (T1 _).mono ?_
      rintro e w1 ⟨rfl, hb1⟩
      have HB1 := Lib.hid (HB.out.trans (hb1.mono HB.out.size))
      have XS1 := HXS.out.bel hb1
      have XB1 := HXB.out.bel hb1
      clear T1 e1 e2 z0 z1 z2 z3 z4 z5 z6 z7 z8 z9 z10 z11 z12 z13 z14 z15 z16 z17 z18 z19 c0 c1 c2 c3 c4 c5 hb1
      cases x1 with
      | false =>
        go_wp2_with fail
        go_ret
        exact ⟨ret_bool (by rw [HR2.out]; rfl), HB1.out⟩
      | true =>
        have T2 := fun T => S3 w1 T HB1.out
        have HS1 := Lib.hid XS1
        have HX1 := Lib.hid XB1
        obtain ⟨c0, c1, c2, c3, c4, c5⟩ := XS1.cells6
        obtain ⟨z0, z1, z2, z3, z4, z5, z6, z7, z8, z9, z10, z11, z12, z13, z14, z15, z16, z17, z18, z19⟩ := box_bk XB1
        clear XS1 XB1 S3
        go_wp2_with fail
        refine (T2 _).mono ?_
        rintro e w2 ⟨rfl, hb2⟩
        have HB2 := Lib.hid (HB1.out.trans (hb2.mono HB1.out.size))
        have XS2 := HS1.out.bel hb2
        have XB2 := HX1.out.bel hb2
        clear T2 z0 z1 z2 z3 z4 z5 z6 z7 z8 z9 z10 z11 z12 z13 z14 z15 z16 z17 z18 z19 c0 c1 c2 c3 c4 c5 hb2
        cases x2 with
        | false =>
          go_wp2_with fail
          go_ret
          exact ⟨ret_bool (by rw [HR2.out]; rfl), HB2.out⟩
        | true =>
          have T3 := fun T => S4 w2 T HB2.out
          obtain ⟨c0, c1, c2, c3, c4, c5⟩ := XS2.cells6
          obtain ⟨z0, z1, z2, z3, z4, z5, z6, z7, z8, z9, z10, z11, z12, z13, z14, z15, z16, z17, z18, z19⟩ := box_bk XB2
          clear XS2 XB2 S4
          go_wp2_with fail
          refine (T3 _).mono ?_
          rintro e w3 ⟨rfl, hb3⟩
          have HB3 := Lib.hid (HB2.out.trans (hb3.mono HB2.out.size))
          clear T3 z0 z1 z2 z3 z4 z5 z6 z7 z8 z9 z10 z11 z12 z13 z14 z15 z16 z17 z18 z19 c0 c1 c2 c3 c4 c5 hb3
          go_wp2_with fail
          go_ret
          exact ⟨ret_bool (by rw [HR2.out]; simp), HB3.out⟩
    · have e2 : ((b.y.n : Int) != (W : Int)) = true := by simp; omega
      have HR2 : Hid (R = false) := Lib.hid (by rw [HR.out, decide_eq_false h2]; simp)
      clear HR h1 h2 T1 S3 S4
      go_wp2_with fail
      go_ret
      exact ⟨ret_bool (by rw [HR2.out]; rfl), HB.out⟩
  · have e2 : ((b.x.n : Int) != (W : Int)) = true := by simp; omega
    have HR2 : Hid (R = false) := Lib.hid (by rw [HR.out, decide_eq_false h1]; simp)
    clear HR h1 T1 S3 S4
    go_wp2_with fail
    go_ret
    exact ⟨ret_bool (by rw [HR2.out]; rfl), HB.out⟩

/-- where the first block that hasn't the shape's sides stands -/
def IdxOdd (s : Sz) (bs : List Bk7) (e : Ending) : Prop :=
  (e = .returned (.int .i64 (-1)) ∧ bs.all (bkB s) = true) ∨ ∃ i : Nat, e = .returned (.int .i64 i) ∧ bs.all (bkB s) = false ∧ i ≤ 9223372036854775807
set_option maxHeartbeats 1600000 in
set_option maxRecDepth 100000 in
theorem index_odd (s : Sz) (ok : s.Ok) (a : Option Addr) (n cap : Nat) (bs : List Bk7) (w : World) (h : BksAt w a n bs) :
    Calls Try.prog 34 #[.slice a n cap, .func (.func 30) #[s.val] #[]] w fun e w' => IdxOdd s bs e ∧ Below w.heap.size w w' := by
  have hn := h.2.1
  have hl := Lib.hid h.1
  have HH := Lib.hid h
  have OD := fun b W (hb : Bk7.In W b) => odd_any s ok b W hb
  clear h ok
  go_enter Try.func34, Try.ntmps34
  go_wp2_with fail
  go_loopw [8] (fun i wr => ∃ k : Nat, k ≤ n ∧ i = .int .i64 k ∧ Hid ((bs.take k).all (bkB s) = true) ∧ Hid (Below w.heap.size w wr)) (fun i _ => n - (intOf i).toNat)
  case atStart => exact ⟨0, by omega, rfl, Lib.hid (by simp), Lib.hid (Below.refl _ _)⟩
  case round =>
    obtain ⟨k, hk, rfl, ht, hbel⟩ := hrel
    by_cases hlt : k < n
    · obtain ⟨g, off, b, rfl, hglt, hc, hbs, hbin⟩ := (HH.out.bel hbel.out).at_ hlt
      obtain ⟨hst, hend⟩ := all_step (bkB s) bs k (by rw [hl.out]; exact hlt) b hbs.out ht.out
      have HST := Lib.hid hst
      have HEND := Lib.hid hend
      have HC := Lib.hid hc
      have hq := OD b wr hbin
      have i1 : (k : Int) < (n : Int) := by omega
      clear hst hend hc hbs hbin
      cases hs : bkB s b with
      | true =>
        have HS := Lib.hid hs
        rw [hs] at hq
        have hst2 : Hid ((bs.take (k + 1)).all (bkB s) = true) := Lib.hid (by rw [HST.out, HS.out])
        clear hs HST HEND
        go_wp2_with (refine wpList_load_part rfl 39 _ rfl g (off + k * 20) rfl b.cells _ HC.out Try.underlying39 rfl (by kernel_rfl) ?_)
        refine hq.mono ?_
        rintro e wc ⟨rfl, hb⟩
        have hB := Lib.hid (below_two hbel.out hb)
        clear hq hb
        go_wp2_with fail
        go_roundw
        case rel => exact ⟨k + 1, by omega, by go_num, hst2, hB⟩
        case measure => simp [intOf]; omega
      | false =>
        have hf := Lib.hid (HEND.out hs)
        rw [hs] at hq
        clear hs HST HEND
        go_wp2_with (refine wpList_load_part rfl 39 _ rfl g (off + k * 20) rfl b.cells _ HC.out Try.underlying39 rfl (by kernel_rfl) ?_)
        refine hq.mono ?_
        rintro e wc ⟨rfl, hb⟩
        have hB := Lib.hid (below_two hbel.out hb)
        clear hq hb
        go_wp2_with fail
        go_ret
        exact ⟨.inr ⟨k, rfl, hf.out, by omega⟩, hB.out⟩
    · obtain rfl : k = n := by omega
      have R : Hid (bs.all (bkB s) = true) := Lib.hid (by rw [← ht.out, List.take_of_length_le (by rw [hl.out]; omega)])
      go_wp2_with fail
      go_ret
      exact ⟨.inl ⟨rfl, R.out⟩, hbel.out⟩

set_option maxHeartbeats 1600000 in
theorem contains_odd (s : Sz) (ok : s.Ok) (a : Option Addr) (n cap : Nat) (bs : List Bk7) (w : World) (h : BksAt w a n bs) :
    Calls Try.prog 29 #[.slice a n cap, .func (.func 30) #[s.val] #[]] w fun e w' => e = .returned (.bool (!bs.all (bkB s))) ∧ Below w.heap.size w w' := by
  have hq := index_odd s ok a n cap bs w h
  clear h ok
  go_enter Try.func29, Try.ntmps29
  go_wp2_with fail
  refine hq.mono ?_
  rintro e wc ⟨hi, hb⟩
  clear hq
  have HB := Lib.hid hb
  clear hb
  rcases hi with ⟨rfl, hi⟩ | ⟨i, rfl, hi, hi2⟩
  · have HI := Lib.hid hi
    clear hi
    go_wp2_with fail
    go_ret
    exact ⟨ret_bool (by rw [HI.out]; rfl), HB.out⟩
  · have HI := Lib.hid hi
    clear hi
    go_wp2_with fail
    go_ret
    exact ⟨ret_bool (by rw [HI.out]; simp), HB.out⟩

set_option maxHeartbeats 3200000 in
set_option maxRecDepth 100000 in
theorem whole_any (s : Sz) (ok : s.Ok) (W : Wt7) (w : World) (hIn : W.In w) :
    Calls Try.prog 21 #[s.val, .agg W.cells] w fun e w' => e = .returned (.bool (wtB s W)) ∧ Below w.heap.size w w' := by
  obtain ⟨hl, hh, hw, hi, hv, hp⟩ := ok.bd
  have p1 := Nat.mul_le_mul hv.2 hw.2
  have S1 : ∀ (V : World) (T : TypeId), Below w.heap.size w V → Calls Try.prog 28 #[.int .i64 s.v, .int .i64 s.w, .slice (some ⟨V.heap.size, 0, none⟩) 2 2] (V.alloc (.cells #[.int .i64 W.e.r, .int .i64 W.e.c, .slice W.e.a W.e.n W.e.cap, .int .i64 W.hd.r, .int .i64 W.hd.c, .slice W.hd.a W.hd.n W.hd.cap] T)) fun e w' => e = .returned (.bool ([W.e, W.hd].all (matB s.v s.w))) ∧ Below V.heap.size V w' := fun V T hV =>
    (sided_any s.v s.w (by omega) (by omega) (by omega) _ 2 2 [W.e, W.hd] _ (mats_lit rfl (by omega) (by
      obtain ⟨h1, h2, h3⟩ := hIn.bel hV
      intro g hg
      simp only [List.mem_cons, List.not_mem_nil, or_false] at hg
      rcases hg with rfl | rfl <;> assumption) (lits2 _ _))).mono fun e w' ⟨h1, h2⟩ => ⟨h1, ((Below.refl _ _).alloc (Nat.le_refl _) _).trans (h2.mono (by simp))⟩
  have S2 := fun V (hV : Below w.heap.size w V) => contains_odd s ok W.ba W.bn W.bcap W.bs V (hIn.bel hV).2.2.2.1
  have HR : Hid (wtB s W = ([W.e, W.hd].all (matB s.v s.w) && (decide (W.t.n = s.w) && (decide (W.bn = s.l) && W.bs.all (bkB s))))) := Lib.hid rfl
  generalize [W.e, W.hd].all (matB s.v s.w) = x1 at *
  generalize W.bs.all (bkB s) = x2 at *
  generalize wtB s W = R at *
  have HBN := hIn.2.2.2.1.2.1
  clear hIn p1 ok
  obtain ⟨l, wd, h, i, v, p⟩ := s
  unfold Sz.val at S2 ⊢
  unfold Wt7.cells
  simp only at *
  go_enter Try.func21, Try.ntmps21
  go_upto_region 1 with (fail)
  generalize hwa : (w.alloc _).alloc _ = wa
  have hB : Below w.heap.size w wa := by rw [← hwa]; exact ((Below.refl _ _).alloc (Nat.le_refl _) _).alloc (by simp) _
  have XS : Box wa w.heap.size 54 #[.int .i64 l, .int .i64 wd, .int .i64 h, .int .i64 i, .int .i64 v, .int .i64 p] := by rw [← hwa]; exact (box_new _ _ _).alloc _
  have XB : Box wa (w.heap.size + 1) 32 W.cells := by rw [← hwa]; exact box_at (by simp) _ _
  have HZ := Lib.hid (show wa.heap.size = w.heap.size + 2 by rw [← hwa]; simp)
  clear hwa
  have HB := Lib.hid hB
  have HXS := Lib.hid XS
  have HXB := Lib.hid XB
  have T1 := fun T => S1 wa T hB
  obtain ⟨c0, c1, c2, c3, c4, c5⟩ := XS.cells6
  obtain ⟨z0, z1, z2, z3, z4, z5, z6, z7, z8, z9, z10, z11, z12, z13⟩ := box_wt XB
  clear hB XS XB S1
  go_wp2_with fail
  refine (T1 _).mono ?_
  rintro e w1 ⟨rfl, hb1⟩
  have HB1 := Lib.hid (HB.out.trans (hb1.mono HB.out.size))
  have XS1 := HXS.out.bel hb1
  have XB1 := HXB.out.bel hb1
  clear T1 z0 z1 z2 z3 z4 z5 z6 z7 z8 z9 z10 z11 z12 z13 c0 c1 c2 c3 c4 c5 hb1
  cases x1 with
  | false =>
    go_wp2_with fail
    go_ret
    exact ⟨ret_bool (by rw [HR.out, Bool.false_and]), HB1.out⟩
  | true =>
    obtain ⟨c0, c1, c2, c3, c4, c5⟩ := XS1.cells6
    obtain ⟨z0, z1, z2, z3, z4, z5, z6, z7, z8, z9, z10, z11, z12, z13⟩ := box_wt XB1
    by_cases h1 : W.t.n = wd
    · have e1 : ((W.t.n : Int) == (wd : Int)) = true := by simp; omega
      by_cases h2 : W.bn = l
      · have e2 : ((W.bn : Int) == (l : Int)) = true := by simp; omega
        have HR2 : Hid (R = x2) := Lib.hid (by rw [HR.out, decide_eq_true h1, decide_eq_true h2]; simp)
        have T2 := S2 w1 HB1.out
        clear S2 XS1 XB1 HR h1 h2
        go_wp2_with fail
        refine T2.mono ?_
        rintro e w2 ⟨rfl, hb2⟩
        have HB2 := Lib.hid (HB1.out.trans (hb2.mono HB1.out.size))
        clear T2 z0 z1 z2 z3 z4 z5 z6 z7 z8 z9 z10 z11 z12 z13 c0 c1 c2 c3 c4 c5 hb2
        go_wp2_with fail
        go_ret
        exact ⟨ret_bool (by rw [HR2.out]), HB2.out⟩
      · have e2 : ((W.bn : Int) == (l : Int)) = false := by simp; omega
        have HR2 : Hid (R = false) := Lib.hid (by rw [HR.out, decide_eq_false h2]; simp)
        clear S2 XS1 XB1 HR h1 h2
        go_wp2_with fail
        go_ret
        exact ⟨ret_bool (by rw [HR2.out]), HB1.out⟩
    · have e1 : ((W.t.n : Int) == (wd : Int)) = false := by simp; omega
      have HR2 : Hid (R = false) := Lib.hid (by rw [HR.out, decide_eq_false h1]; simp)
      clear S2 XS1 XB1 HR h1
      go_wp2_with fail
      go_ret
      exact ⟨ret_bool (by rw [HR2.out]), HB1.out⟩

noncomputable instance (W : Wt7) : Decidable (WholeP W) := Classical.propDecidable _
noncomputable def wholeB (W : Wt7) : Bool := decide (WholeP W)
theorem wholeB_ok {W : Wt7} {s : Sz} (ok : s.Ok) (h : W.l = s.l ∧ W.w = s.w ∧ W.h = s.h ∧ W.i = s.i ∧ W.v = s.v ∧ W.p = s.p) : wholeB W = wtB s W := by
  obtain ⟨h1, h2, h3, h4, h5, h6⟩ := h
  unfold wholeB
  cases hb : wtB s W with
  | true => exact decide_eq_true ⟨s, ok, h1, h2, h3, h4, h5, h6, hb⟩
  | false =>
    refine decide_eq_false ?_
    rintro ⟨s', _, g1, g2, g3, g4, g5, g6, g7⟩
    have : s' = s := by
      obtain ⟨a1, a2, a3, a4, a5, a6⟩ := s
      obtain ⟨b1, b2, b3, b4, b5, b6⟩ := s'
      simp only at h1 h2 h3 h4 h5 h6 g1 g2 g3 g4 g5 g6
      simp only [Sz.mk.injEq]
      omega
    rw [this, hb] at g7
    cases g7
theorem wholeB_no {W : Wt7} (no : ¬ OkI W.l W.w W.h W.i W.v W.p) : wholeB W = false := by
  unfold wholeB
  refine decide_eq_false ?_
  rintro ⟨s, ok, g1, g2, g3, g4, g5, g6, _⟩
  apply no
  rw [g1, g2, g3, g4, g5, g6]
  exact ok

instance : Inhabited Wt7 := ⟨⟨0, 0, 0, 0, 0, 0, default, none, 0, 0, [], default, default⟩⟩
/-- n weights in block b -/
def WtsAt (w : World) (b n : Nat) (ws : List Wt7) : Prop :=
  ws.length = n ∧ n ≤ 100 ∧ (∀ W ∈ ws, W.In w) ∧ b < w.heap.size ∧ ∀ i, i < n → ∀ k, k < 14 → w.cell? ⟨b, i * 14 + k, none⟩ = (ws.getD i default).cells[k]?
theorem WtsAt.bel {w w' : World} {b n : Nat} {ws : List Wt7} (h : WtsAt w b n ws) (hb : Below w.heap.size w w') : WtsAt w' b n ws :=
  ⟨h.1, h.2.1, fun W hW => (h.2.2.1 W hW).bel hb, Nat.lt_of_lt_of_le h.2.2.2.1 hb.size, fun i hi k hk => (hb.cell (p := ⟨b, _, none⟩) h.2.2.2.1).trans (h.2.2.2.2 i hi k hk)⟩
theorem wt_size (W : Wt7) : W.cells.size = 14 := rfl
theorem wt_one (W : Wt7) : W.cells.all (·.oneCell') = true := by simp [Wt7.cells, Value.oneCell']
theorem wts_one {w : World} {T : TypeId} (W : Wt7) (h : W.In w) : WtsAt (w.alloc (.cells W.cells T)) w.heap.size 1 [W] := by
  refine ⟨rfl, by omega, ?_, by simp, fun i hi k hk => ?_⟩
  · intro V hV
    simp only [List.mem_cons, List.not_mem_nil, or_false] at hV
    subst hV
    exact h.bel ((Below.refl _ _).alloc (Nat.le_refl _) _)
  · obtain rfl : i = 0 := by omega
    rw [Nat.zero_mul, Nat.zero_add]
    exact (box_new w T W.cells).cell k
theorem wts_two {w : World} {T : TypeId} (W V : Wt7) (h : W.In w) (h2 : V.In w) : WtsAt (w.alloc (.cells (W.cells ++ V.cells) T)) w.heap.size 2 [W, V] := by
  refine ⟨rfl, by omega, ?_, by simp, fun i hi k hk => ?_⟩
  · intro U hU
    simp only [List.mem_cons, List.not_mem_nil, or_false] at hU
    rcases hU with rfl | rfl
    · exact h.bel ((Below.refl _ _).alloc (Nat.le_refl _) _)
    · exact h2.bel ((Below.refl _ _).alloc (Nat.le_refl _) _)
  · rw [(box_new w T (W.cells ++ V.cells)).cell]
    have : i = 0 ∨ i = 1 := by omega
    rcases this with rfl | rfl
    · rw [Array.getElem?_append_left (by rw [wt_size]; omega)]; simp
    · rw [Array.getElem?_append_right (by rw [wt_size]; omega), wt_size]; simp

set_option maxHeartbeats 3200000 in
set_option maxRecDepth 100000 in
theorem code_whole (b n cap : Nat) (ws : List Wt7) (w : World) (h : WtsAt w b n ws) :
    Calls Try.prog 9 #[.slice (some ⟨b, 0, none⟩) n cap] w fun e w' => e = .returned (.bool (ws.all wholeB)) ∧ Below w.heap.size w w' := by
  have hl := Lib.hid h.1
  have hn := h.2.1
  have HH := Lib.hid h
  clear h
  go_enter Try.func9, Try.ntmps9
  go_wp2_with fail
  go_loopw [7] (fun i wr => ∃ k : Nat, k ≤ n ∧ i = .int .i64 k ∧ Hid ((ws.take k).all wholeB = true) ∧ Hid (Below w.heap.size w wr)) (fun i _ => n - (intOf i).toNat)
  case atStart => exact ⟨0, by omega, rfl, Lib.hid (by simp), Lib.hid (Below.refl _ _)⟩
  case round =>
    obtain ⟨k, hk, rfl, ht, hbel⟩ := hrel
    by_cases hlt : k < n
    · have hW := HH.out.bel hbel.out
      obtain ⟨W, hWd⟩ : ∃ W, ws.getD k default = W := ⟨_, rfl⟩
      have hWin : W.In wr := hW.2.2.1 _ (by rw [← hWd, List.getD_eq_getElem?_getD, List.getElem?_eq_getElem (by rw [hl.out]; exact hlt)]; exact List.getElem_mem _)
      have HC : Hid (∀ q, q < W.cells.size → wr.cell? ⟨b, k * 14 + q, none⟩ = W.cells[q]?) := Lib.hid (fun q hq => by rw [← hWd]; exact hW.2.2.2.2 k hlt q hq)
      obtain ⟨hst, hend⟩ := all_step wholeB ws k (by rw [hl.out]; exact hlt) W hWd ht.out
      have HST := Lib.hid hst
      have HEND := Lib.hid hend
      have HI := Lib.hid hWin
      have i1 : (k : Int) < (n : Int) := by omega
      clear hst hend hW hWd hWin
      go_upto_region 4 with (first
        | (refine wpList_load_part rfl 32 _ rfl b (k * 14) rfl W.cells _ HC.out Try.underlying32 rfl (by kernel_rfl) ?_)
        | (refine wpList_store_row rfl 32 _ _ rfl wr.heap.size W.cells rfl rfl 32 _ (box_new _ _ _) (by kernel_rfl) rfl (wt_one W) ?_))
      generalize hw1 : World.setRow _ wr.heap.size W.cells = w1
      have hb1 : Below wr.heap.size wr w1 := by rw [← hw1]; exact below_setRow ((Below.refl _ _).alloc (Nat.le_refl _) _) (Nat.le_refl _) (by simp)
      have XC1 : Box w1 wr.heap.size 32 W.cells := by rw [← hw1]; exact (box_new _ _ _).setRow
      clear hw1
      have HB1 := Lib.hid (below_two hbel.out hb1)
      have hI1 := HI.out.bel hb1
      have HX1 := Lib.hid XC1
      obtain ⟨z0, z1, z2, z3, z4, z5, z6, z7, z8, z9, z10, z11, z12, z13⟩ := box_wt XC1
      have h64 := hI1.2.2.2.2.2.2
      clear XC1 hb1
      by_cases ok : OkI W.l W.w W.h W.i W.v W.p
      · have r1 := right_yes W.l W.w W.h W.i W.v W.p w1 ok
        obtain ⟨s, hok, e1, e2, e3, e4, e5, e6⟩ := Sz.of ok
        have HWB := Lib.hid (wholeB_ok hok ⟨e1, e2, e3, e4, e5, e6⟩)
        have r2 := fun V (hV : Below w1.heap.size w1 V) => whole_any s hok W V (hI1.bel hV)
        unfold Sz.val at r2
        rw [← e1, ← e2, ← e3, ← e4, ← e5, ← e6] at r2
        unfold shv at r1
        clear ok h64 hI1 e1 e2 e3 e4 e5 e6 hok
        go_wp2_with fail
        refine r1.mono ?_
        rintro e w2 ⟨rfl, hb2⟩
        have HB2 := Lib.hid (below_two HB1.out hb2)
        have T2 := r2 w2 hb2
        have XC2 := HX1.out.bel hb2
        clear r1 r2 hb2 z0 z1 z2 z3 z4 z5 z6 z7 z8 z9 z10 z11 z12 z13
        obtain ⟨z0, z1, z2, z3, z4, z5, z6, z7, z8, z9, z10, z11, z12, z13⟩ := box_wt XC2
        clear XC2
        cases hs : wtB s W with
        | true =>
          rw [hs] at T2
          have hst2 : Hid ((ws.take (k + 1)).all wholeB = true) := Lib.hid (by rw [HST.out, HWB.out, hs])
          clear hs HST HEND HWB
          go_wp2_with fail
          refine T2.mono ?_
          rintro e w3 ⟨rfl, hb3⟩
          have HB3 := Lib.hid (below_two HB2.out hb3)
          clear T2 hb3 z0 z1 z2 z3 z4 z5 z6 z7 z8 z9 z10 z11 z12 z13
          go_wp2_with fail
          go_roundw
          case rel => exact ⟨k + 1, by omega, by go_num, hst2, HB3⟩
          case measure => simp [intOf]; omega
        | false =>
          rw [hs] at T2
          have HNO := Lib.hid (HEND.out (HWB.out.trans hs))
          clear hs HST HEND HWB
          go_wp2_with fail
          refine T2.mono ?_
          rintro e w3 ⟨rfl, hb3⟩
          have HB3 := Lib.hid (below_two HB2.out hb3)
          clear T2 hb3 z0 z1 z2 z3 z4 z5 z6 z7 z8 z9 z10 z11 z12 z13
          go_wp2_with fail
          go_ret
          exact ⟨ret_bool HNO.out.symm, HB3.out⟩
      · have HNO := Lib.hid (HEND.out (wholeB_no ok))
        have r1 := right_no W.l W.w W.h W.i W.v W.p w1 h64 ok
        clear HST HEND ok h64 hI1
        unfold shv at r1
        go_wp2_with fail
        refine r1.mono ?_
        rintro e w2 ⟨rfl, hb2⟩
        have HB2 := Lib.hid (below_two HB1.out hb2)
        clear r1 hb2 z0 z1 z2 z3 z4 z5 z6 z7 z8 z9 z10 z11 z12 z13
        go_wp2_with fail
        go_ret
        exact ⟨ret_bool HNO.out.symm, HB2.out⟩
    · obtain rfl : k = n := by omega
      have R : Hid (ws.all wholeB = true) := Lib.hid (by rw [← ht.out, List.take_of_length_le (by rw [hl.out]; omega)])
      go_wp2_with fail
      go_ret
      exact ⟨ret_bool R.out.symm, hbel.out⟩

end Go.Proofs.Ytgbbfmpofmeadaa
