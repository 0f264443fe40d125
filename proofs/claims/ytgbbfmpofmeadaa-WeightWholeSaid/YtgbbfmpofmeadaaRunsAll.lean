/-
  The code's runs: all rows of weights, in the file's order.
-/
import Derived.Test.YtgbbfmpofmeadaaRuns
import Derived.Test.YtgbbfmpofmeadaaLoadPart
import Derived.Deep.CutRange
namespace Go.Proofs.Ytgbbfmpofmeadaa
open Go.RowKit
set_option linter.unusedVariables false

theorem box_bk {w : World} {g : Nat} {T : TypeId} {b : Bk7} (h : Box w g T b.cells) :
    w.cell? ⟨g, 0, none⟩ = some (.slice b.x.a b.x.n b.x.cap) ∧ w.cell? ⟨g, 1, none⟩ = some (.slice b.y.a b.y.n b.y.cap) ∧ w.cell? ⟨g, 2, none⟩ = some (.int .i64 b.q.r) ∧ w.cell? ⟨g, 3, none⟩ = some (.int .i64 b.q.c) ∧ w.cell? ⟨g, 4, none⟩ = some (.slice b.q.a b.q.n b.q.cap) ∧ w.cell? ⟨g, 5, none⟩ = some (.int .i64 b.k.r) ∧ w.cell? ⟨g, 6, none⟩ = some (.int .i64 b.k.c) ∧ w.cell? ⟨g, 7, none⟩ = some (.slice b.k.a b.k.n b.k.cap) ∧ w.cell? ⟨g, 8, none⟩ = some (.int .i64 b.v.r) ∧ w.cell? ⟨g, 9, none⟩ = some (.int .i64 b.v.c) ∧ w.cell? ⟨g, 10, none⟩ = some (.slice b.v.a b.v.n b.v.cap) ∧ w.cell? ⟨g, 11, none⟩ = some (.int .i64 b.o.r) ∧ w.cell? ⟨g, 12, none⟩ = some (.int .i64 b.o.c) ∧ w.cell? ⟨g, 13, none⟩ = some (.slice b.o.a b.o.n b.o.cap) ∧ w.cell? ⟨g, 14, none⟩ = some (.int .i64 b.u.r) ∧ w.cell? ⟨g, 15, none⟩ = some (.int .i64 b.u.c) ∧ w.cell? ⟨g, 16, none⟩ = some (.slice b.u.a b.u.n b.u.cap) ∧ w.cell? ⟨g, 17, none⟩ = some (.int .i64 b.d.r) ∧ w.cell? ⟨g, 18, none⟩ = some (.int .i64 b.d.c) ∧ w.cell? ⟨g, 19, none⟩ = some (.slice b.d.a b.d.n b.d.cap) :=
  ⟨h.cell 0, h.cell 1, h.cell 2, h.cell 3, h.cell 4, h.cell 5, h.cell 6, h.cell 7, h.cell 8, h.cell 9, h.cell 10, h.cell 11, h.cell 12, h.cell 13, h.cell 14, h.cell 15, h.cell 16, h.cell 17, h.cell 18, h.cell 19⟩
theorem box_wt {w : World} {g : Nat} {T : TypeId} {W : Wt7} (h : Box w g T W.cells) :
    w.cell? ⟨g, 0, none⟩ = some (.int .i64 W.l) ∧ w.cell? ⟨g, 1, none⟩ = some (.int .i64 W.w) ∧ w.cell? ⟨g, 2, none⟩ = some (.int .i64 W.h) ∧ w.cell? ⟨g, 3, none⟩ = some (.int .i64 W.i) ∧ w.cell? ⟨g, 4, none⟩ = some (.int .i64 W.v) ∧ w.cell? ⟨g, 5, none⟩ = some (.int .i64 W.p) ∧ w.cell? ⟨g, 6, none⟩ = some (.int .i64 W.e.r) ∧ w.cell? ⟨g, 7, none⟩ = some (.int .i64 W.e.c) ∧ w.cell? ⟨g, 8, none⟩ = some (.slice W.e.a W.e.n W.e.cap) ∧ w.cell? ⟨g, 9, none⟩ = some (.slice W.ba W.bn W.bcap) ∧ w.cell? ⟨g, 10, none⟩ = some (.slice W.t.a W.t.n W.t.cap) ∧ w.cell? ⟨g, 11, none⟩ = some (.int .i64 W.hd.r) ∧ w.cell? ⟨g, 12, none⟩ = some (.int .i64 W.hd.c) ∧ w.cell? ⟨g, 13, none⟩ = some (.slice W.hd.a W.hd.n W.hd.cap) :=
  ⟨h.cell 0, h.cell 1, h.cell 2, h.cell 3, h.cell 4, h.cell 5, h.cell 6, h.cell 7, h.cell 8, h.cell 9, h.cell 10, h.cell 11, h.cell 12, h.cell 13⟩
theorem bk_one (b : Bk7) : b.cells.all (·.oneCell') = true := by simp [Bk7.cells, Value.oneCell']
theorem lits1 (g : Gr) : ∀ k, k < 1 → (#[.int .i64 g.r, .int .i64 g.c, .slice g.a g.n g.cap] : Array Value)[k * 3]? = some (.int .i64 (([g] : List Gr).getD k default).r) ∧ (#[.int .i64 g.r, .int .i64 g.c, .slice g.a g.n g.cap] : Array Value)[k * 3 + 1]? = some (.int .i64 (([g] : List Gr).getD k default).c) ∧ (#[.int .i64 g.r, .int .i64 g.c, .slice g.a g.n g.cap] : Array Value)[k * 3 + 2]? = some (.slice (([g] : List Gr).getD k default).a (([g] : List Gr).getD k default).n (([g] : List Gr).getD k default).cap) := by
  intro k hk
  obtain rfl : k = 0 := by omega
  exact ⟨rfl, rfl, rfl⟩
theorem lits2 (g h : Gr) : ∀ k, k < 2 → (#[.int .i64 g.r, .int .i64 g.c, .slice g.a g.n g.cap, .int .i64 h.r, .int .i64 h.c, .slice h.a h.n h.cap] : Array Value)[k * 3]? = some (.int .i64 (([g, h] : List Gr).getD k default).r) ∧ (#[.int .i64 g.r, .int .i64 g.c, .slice g.a g.n g.cap, .int .i64 h.r, .int .i64 h.c, .slice h.a h.n h.cap] : Array Value)[k * 3 + 1]? = some (.int .i64 (([g, h] : List Gr).getD k default).c) ∧ (#[.int .i64 g.r, .int .i64 g.c, .slice g.a g.n g.cap, .int .i64 h.r, .int .i64 h.c, .slice h.a h.n h.cap] : Array Value)[k * 3 + 2]? = some (.slice (([g, h] : List Gr).getD k default).a (([g, h] : List Gr).getD k default).n (([g, h] : List Gr).getD k default).cap) := by
  intro k hk
  have : k = 0 ∨ k = 1 := by omega
  rcases this with rfl | rfl <;> exact ⟨rfl, rfl, rfl⟩
theorem lits4 (g h i j : Gr) : ∀ k, k < 4 → (#[.int .i64 g.r, .int .i64 g.c, .slice g.a g.n g.cap, .int .i64 h.r, .int .i64 h.c, .slice h.a h.n h.cap, .int .i64 i.r, .int .i64 i.c, .slice i.a i.n i.cap, .int .i64 j.r, .int .i64 j.c, .slice j.a j.n j.cap] : Array Value)[k * 3]? = some (.int .i64 (([g, h, i, j] : List Gr).getD k default).r) ∧ (#[.int .i64 g.r, .int .i64 g.c, .slice g.a g.n g.cap, .int .i64 h.r, .int .i64 h.c, .slice h.a h.n h.cap, .int .i64 i.r, .int .i64 i.c, .slice i.a i.n i.cap, .int .i64 j.r, .int .i64 j.c, .slice j.a j.n j.cap] : Array Value)[k * 3 + 1]? = some (.int .i64 (([g, h, i, j] : List Gr).getD k default).c) ∧ (#[.int .i64 g.r, .int .i64 g.c, .slice g.a g.n g.cap, .int .i64 h.r, .int .i64 h.c, .slice h.a h.n h.cap, .int .i64 i.r, .int .i64 i.c, .slice i.a i.n i.cap, .int .i64 j.r, .int .i64 j.c, .slice j.a j.n j.cap] : Array Value)[k * 3 + 2]? = some (.slice (([g, h, i, j] : List Gr).getD k default).a (([g, h, i, j] : List Gr).getD k default).n (([g, h, i, j] : List Gr).getD k default).cap) := by
  intro k hk
  have : k = 0 ∨ k = 1 ∨ k = 2 ∨ k = 3 := by omega
  rcases this with rfl | rfl | rfl | rfl <;> exact ⟨rfl, rfl, rfl⟩

set_option maxHeartbeats 6400000 in
set_option maxRecDepth 100000 in
theorem runs_any (W : Wt7) (w : World) (hIn : W.In w) (hbn : W.bn ≤ 16) :
    Calls Try.prog 19 #[.agg W.cells] w fun e w' => (∃ v, e = .returned v ∧ w'.ownsRow w.heap.size 63 2 v (8 * W.bn + 3) (W.runs.flatMap rnc)) ∧ Below w.heap.size w w' := by
  obtain ⟨l, wd, h, i, v, p, e, ba, bn, bcap, bs, t, hd⟩ := W
  have HL : Hid (bs.length = bn) := Lib.hid hIn.2.2.2.1.1
  have HBK : Hid (BksAt w ba bn bs) := Lib.hid hIn.2.2.2.1
  have hbn' : bn ≤ 16 := hbn
  clear hIn hbn
  show Calls Try.prog 19 #[.agg #[.int .i64 l, .int .i64 wd, .int .i64 h, .int .i64 i, .int .i64 v, .int .i64 p, .int .i64 e.r, .int .i64 e.c, .slice e.a e.n e.cap, .slice ba bn bcap, .slice t.a t.n t.cap, .int .i64 hd.r, .int .i64 hd.c, .slice hd.a hd.n hd.cap]] w fun e' w' => (∃ v', e' = .returned v' ∧ w'.ownsRow w.heap.size 63 2 v' (8 * bn + 3) (((false, e.row) :: bruns bs ++ [(true, t), (false, hd.row)]).flatMap rnc)) ∧ Below w.heap.size w w'
  go_enter Try.func19, Try.ntmps19
  go_wp2_with fail
  generalize hwa : ((w.alloc _).alloc _).alloc _ = wa
  have hz : wa.heap.size = w.heap.size + 3 := by rw [← hwa]; simp
  have XB : Box wa w.heap.size 32 #[.int .i64 l, .int .i64 wd, .int .i64 h, .int .i64 i, .int .i64 v, .int .i64 p, .int .i64 e.r, .int .i64 e.c, .slice e.a e.n e.cap, .slice ba bn bcap, .slice t.a t.n t.cap, .int .i64 hd.r, .int .i64 hd.c, .slice hd.a hd.n hd.cap] := by rw [← hwa]; exact ((box_new _ _ _).alloc _).alloc _
  have hA : AllIs wa (w.heap.size + 1) (w.heap.size + 1 + 1) [] := by
    refine ⟨.slice none 0 0, ?_, ⟨rfl, .inl ⟨rfl, rfl⟩⟩, by omega, by omega⟩
    rw [← hwa]; exact (box_at (by simp) _ _).alloc _
  have XM : Box wa (w.heap.size + 1 + 1) 29 #[.int .i64 e.r, .int .i64 e.c, .slice e.a e.n e.cap] := by rw [← hwa]; exact box_at (by simp) _ _
  have hB : Below w.heap.size w wa := by rw [← hwa]; exact (((Below.refl _ _).alloc (Nat.le_refl _) _).alloc (by simp) _).alloc (by simp; omega) _
  clear hwa
  refine (matrices_any wa (w.heap.size + 1) (w.heap.size + 1 + 1) [] hA (w.heap.size + 1 + 1) 1 1 [e] 29 _ (by decide) XM (by omega) rfl (by omega) (lits1 e) (by simp)).mono ?_
  rintro e' w1 ⟨rfl, hA1, hP1, hB1, hs1⟩
  have XB1 := hP1 _ _ _ (by decide) (by omega) XB
  have hBB1 := hB.trans (hB1.mono (by omega))
  have c9 : w1.cell? ⟨w.heap.size, 9, none⟩ = some (.slice ba bn bcap) := XB1.cell 9
  have HXB := Lib.hid XB1
  have HA1 : Hid (AllIs w1 (w.heap.size + 1) (w.heap.size + 1 + 1) ((false, e.row) :: bruns (bs.take 0))) := Lib.hid hA1
  have HB1 := Lib.hid hBB1
  clear hA XB XM hB hA1 hP1 hB1 XB1 hBB1
  go_wp2_with fail
  clear c9
  go_loopw [18] (fun i' wr => ∃ k : Nat, k ≤ bn ∧ i' = .int .i64 k ∧ Hid (AllIs wr (w.heap.size + 1) (w.heap.size + 1 + 1) ((false, e.row) :: bruns (bs.take k))) ∧ Hid (Box wr w.heap.size 32 #[.int .i64 l, .int .i64 wd, .int .i64 h, .int .i64 i, .int .i64 v, .int .i64 p, .int .i64 e.r, .int .i64 e.c, .slice e.a e.n e.cap, .slice ba bn bcap, .slice t.a t.n t.cap, .int .i64 hd.r, .int .i64 hd.c, .slice hd.a hd.n hd.cap]) ∧ Hid (Below w.heap.size w wr) ∧ w.heap.size + 3 ≤ wr.heap.size) (fun i' _ => bn - (intOf i').toNat)
  case atStart => exact ⟨0, by omega, rfl, HA1, HXB, HB1, by omega⟩
  case round =>
    obtain ⟨k, hk, rfl, hA, hX, hB, hs⟩ := hrel
    have hlk : ((false, e.row) :: bruns (bs.take k)).length ≤ 200 := by rw [List.length_cons, bruns_len, List.length_take]; omega
    by_cases hlt : k < bn
    · obtain ⟨g, off, b, rfl, hglt, hc, hbs, hbin⟩ := (HBK.out.bel hB.out).at_ hlt
      have hst := Lib.hid (bruns_step bs k (by rw [HL.out]; exact hlt))
      have hbs2 := Lib.hid hbs.out
      clear hbs hbin
      have HC := Lib.hid hc
      clear hc
      go_upto_region 8 with (first
        | (refine wpList_load_part rfl 39 _ rfl g (off + k * 20) rfl b.cells _ HC.out Try.underlying39 rfl (by kernel_rfl) ?_)
        | (refine wpList_store_row rfl 39 _ _ rfl wr.heap.size b.cells rfl rfl 39 _ (box_new _ _ _) (by kernel_rfl) rfl (bk_one b) ?_))
      generalize hw1 : World.setRow _ wr.heap.size b.cells = w1
      have hb1 : Below wr.heap.size wr w1 := by rw [← hw1]; exact below_setRow ((Below.refl _ _).alloc (Nat.le_refl _) _) (Nat.le_refl _) (by simp)
      have XC1 : Box w1 wr.heap.size 39 b.cells := by rw [← hw1]; exact (box_new _ _ _).setRow
      have hz1 : w1.heap.size = wr.heap.size + 1 := by rw [← hw1]; simp [World.setRow]
      clear hw1
      have hA1 := hA.out.below hb1
      have XB1 := hX.out.bel hb1
      have hB1 := hB.out.trans (hb1.mono (by omega))
      obtain ⟨z0, z1, z2, z3, z4, z5, z6, z7, z8, z9, z10, z11, z12, z13, z14, z15, z16, z17, z18, z19⟩ := box_bk XC1
      go_wp2_with fail
      clear hb1 z0 z1 z2 z3 z4 z5 z6 z7 z8 z9 z10 z11 z12 z13 z14 z15 z16 z17 z18 z19
      refine (gains_any w1 (w.heap.size + 1) (w.heap.size + 1 + 1) _ hA1 b.x (by omega)).mono ?_
      rintro e' w2 ⟨rfl, hA2, hP2, hL2, hs2⟩
      have XB2 := hP2 _ _ _ (by decide) (by omega) XB1
      have XC2 := hP2 _ _ _ (by decide) (by omega) XC1
      have hB2 := hB1.trans (hL2.mono (by omega))
      clear hA1 XB1 XC1 hB1 hP2 hL2
      obtain ⟨z0, z1, z2, z3, z4, z5, z6, z7, z8, z9, z10, z11, z12, z13, z14, z15, z16, z17, z18, z19⟩ := box_bk XC2
      go_wp2_with fail
      clear z0 z1 z2 z3 z4 z5 z6 z7 z8 z9 z10 z11 z12 z13 z14 z15 z16 z17 z18 z19
      have hA3 := hA2.below ((Below.refl w2.heap.size w2).alloc (Nat.le_refl _) (.cells #[.int .i64 b.q.r, .int .i64 b.q.c, .slice b.q.a b.q.n b.q.cap, .int .i64 b.k.r, .int .i64 b.k.c, .slice b.k.a b.k.n b.k.cap, .int .i64 b.v.r, .int .i64 b.v.c, .slice b.v.a b.v.n b.v.cap, .int .i64 b.o.r, .int .i64 b.o.c, .slice b.o.a b.o.n b.o.cap] 29))
      have XB3 := XB2.alloc (.cells #[.int .i64 b.q.r, .int .i64 b.q.c, .slice b.q.a b.q.n b.q.cap, .int .i64 b.k.r, .int .i64 b.k.c, .slice b.k.a b.k.n b.k.cap, .int .i64 b.v.r, .int .i64 b.v.c, .slice b.v.a b.v.n b.v.cap, .int .i64 b.o.r, .int .i64 b.o.c, .slice b.o.a b.o.n b.o.cap] 29)
      have XC3 := XC2.alloc (.cells #[.int .i64 b.q.r, .int .i64 b.q.c, .slice b.q.a b.q.n b.q.cap, .int .i64 b.k.r, .int .i64 b.k.c, .slice b.k.a b.k.n b.k.cap, .int .i64 b.v.r, .int .i64 b.v.c, .slice b.v.a b.v.n b.v.cap, .int .i64 b.o.r, .int .i64 b.o.c, .slice b.o.a b.o.n b.o.cap] 29)
      have XM3 := box_new w2 29 #[.int .i64 b.q.r, .int .i64 b.q.c, .slice b.q.a b.q.n b.q.cap, .int .i64 b.k.r, .int .i64 b.k.c, .slice b.k.a b.k.n b.k.cap, .int .i64 b.v.r, .int .i64 b.v.c, .slice b.v.a b.v.n b.v.cap, .int .i64 b.o.r, .int .i64 b.o.c, .slice b.o.a b.o.n b.o.cap]
      have hB3 := hB2.alloc (by omega) (.cells #[.int .i64 b.q.r, .int .i64 b.q.c, .slice b.q.a b.q.n b.q.cap, .int .i64 b.k.r, .int .i64 b.k.c, .slice b.k.a b.k.n b.k.cap, .int .i64 b.v.r, .int .i64 b.v.c, .slice b.v.a b.v.n b.v.cap, .int .i64 b.o.r, .int .i64 b.o.c, .slice b.o.a b.o.n b.o.cap] 29)
      have hz3 : (w2.alloc (.cells #[.int .i64 b.q.r, .int .i64 b.q.c, .slice b.q.a b.q.n b.q.cap, .int .i64 b.k.r, .int .i64 b.k.c, .slice b.k.a b.k.n b.k.cap, .int .i64 b.v.r, .int .i64 b.v.c, .slice b.v.a b.v.n b.v.cap, .int .i64 b.o.r, .int .i64 b.o.c, .slice b.o.a b.o.n b.o.cap] 29)).heap.size = w2.heap.size + 1 := World.size_alloc _ _
      generalize w2.alloc (.cells #[.int .i64 b.q.r, .int .i64 b.q.c, .slice b.q.a b.q.n b.q.cap, .int .i64 b.k.r, .int .i64 b.k.c, .slice b.k.a b.k.n b.k.cap, .int .i64 b.v.r, .int .i64 b.v.c, .slice b.v.a b.v.n b.v.cap, .int .i64 b.o.r, .int .i64 b.o.c, .slice b.o.a b.o.n b.o.cap] 29) = w3 at hA3 XB3 XC3 XM3 hB3 hz3 ⊢
      refine (matrices_any w3 (w.heap.size + 1) (w.heap.size + 1 + 1) _ hA3 w2.heap.size 4 4 [b.q, b.k, b.v, b.o] 29 _ (by decide) XM3 (by omega) rfl (by omega) (lits4 _ _ _ _) (by rw [List.length_append, List.length_singleton]; omega)).mono ?_
      rintro e' w4 ⟨rfl, hA4, hP4, hL4, hs4⟩
      have XB4 := hP4 _ _ _ (by decide) (by omega) XB3
      have XC4 := hP4 _ _ _ (by decide) (by omega) XC3
      have hB4 := hB3.trans (hL4.mono (by omega))
      clear hA2 XB2 XC2 hB2 hA3 XB3 XC3 XM3 hB3 hP4 hL4
      obtain ⟨z0, z1, z2, z3, z4, z5, z6, z7, z8, z9, z10, z11, z12, z13, z14, z15, z16, z17, z18, z19⟩ := box_bk XC4
      go_wp2_with fail
      clear z0 z1 z2 z3 z4 z5 z6 z7 z8 z9 z10 z11 z12 z13 z14 z15 z16 z17 z18 z19
      refine (gains_any w4 (w.heap.size + 1) (w.heap.size + 1 + 1) _ hA4 b.y (by simp only [List.length_append, mruns, List.length_map, List.length_cons, List.length_nil] at hlk ⊢; omega)).mono ?_
      rintro e' w5 ⟨rfl, hA5, hP5, hL5, hs5⟩
      have XB5 := hP5 _ _ _ (by decide) (by omega) XB4
      have XC5 := hP5 _ _ _ (by decide) (by omega) XC4
      have hB5 := hB4.trans (hL5.mono (by omega))
      clear hA4 XB4 XC4 hB4 hP5 hL5
      obtain ⟨z0, z1, z2, z3, z4, z5, z6, z7, z8, z9, z10, z11, z12, z13, z14, z15, z16, z17, z18, z19⟩ := box_bk XC5
      go_wp2_with fail
      clear z0 z1 z2 z3 z4 z5 z6 z7 z8 z9 z10 z11 z12 z13 z14 z15 z16 z17 z18 z19
      have hA6 := hA5.below ((Below.refl w5.heap.size w5).alloc (Nat.le_refl _) (.cells #[.int .i64 b.u.r, .int .i64 b.u.c, .slice b.u.a b.u.n b.u.cap, .int .i64 b.d.r, .int .i64 b.d.c, .slice b.d.a b.d.n b.d.cap] 29))
      have XB6 := XB5.alloc (.cells #[.int .i64 b.u.r, .int .i64 b.u.c, .slice b.u.a b.u.n b.u.cap, .int .i64 b.d.r, .int .i64 b.d.c, .slice b.d.a b.d.n b.d.cap] 29)
      have XM6 := box_new w5 29 #[.int .i64 b.u.r, .int .i64 b.u.c, .slice b.u.a b.u.n b.u.cap, .int .i64 b.d.r, .int .i64 b.d.c, .slice b.d.a b.d.n b.d.cap]
      have hB6 := hB5.alloc (by omega) (.cells #[.int .i64 b.u.r, .int .i64 b.u.c, .slice b.u.a b.u.n b.u.cap, .int .i64 b.d.r, .int .i64 b.d.c, .slice b.d.a b.d.n b.d.cap] 29)
      have hz6 : (w5.alloc (.cells #[.int .i64 b.u.r, .int .i64 b.u.c, .slice b.u.a b.u.n b.u.cap, .int .i64 b.d.r, .int .i64 b.d.c, .slice b.d.a b.d.n b.d.cap] 29)).heap.size = w5.heap.size + 1 := World.size_alloc _ _
      generalize w5.alloc (.cells #[.int .i64 b.u.r, .int .i64 b.u.c, .slice b.u.a b.u.n b.u.cap, .int .i64 b.d.r, .int .i64 b.d.c, .slice b.d.a b.d.n b.d.cap] 29) = w6 at hA6 XB6 XM6 hB6 hz6 ⊢
      refine (matrices_any w6 (w.heap.size + 1) (w.heap.size + 1 + 1) _ hA6 w5.heap.size 2 2 [b.u, b.d] 29 _ (by decide) XM6 (by omega) rfl (by omega) (lits2 _ _) (by simp only [List.length_append, mruns, List.length_map, List.length_cons, List.length_nil] at hlk ⊢; omega)).mono ?_
      rintro e' w7 ⟨rfl, hA7, hP7, hL7, hs7⟩
      have XB7 := Lib.hid (hP7 _ _ _ (by decide) (by omega) XB6)
      have hB7 := Lib.hid (hB6.trans (hL7.mono (by omega)))
      have HA7 : Hid (AllIs w7 (w.heap.size + 1) (w.heap.size + 1 + 1) ((false, e.row) :: bruns (bs.take (k + 1)))) := Lib.hid (by
        rw [hst.out, hbs2.out]
        simpa [Bk7.runs, mruns, List.append_assoc] using hA7)
      clear hA5 XB5 XC5 hB5 hA6 XB6 XM6 hB6 hP7 hL7 hA7
      go_wp2
      go_roundw
      case rel => exact ⟨k + 1, by omega, by go_num, HA7, XB7, hB7, by omega⟩
      case measure => simp [intOf]; omega
    · obtain rfl : k = bn := by omega
      have HA0 : AllIs wr (w.heap.size + 1) (w.heap.size + 1 + 1) ((false, e.row) :: bruns bs) := by have h1 := hA.out; rwa [List.take_of_length_le (by rw [HL.out]; omega)] at h1
      have hlk2 : ((false, e.row) :: bruns bs).length ≤ 200 := by rw [List.length_cons, bruns_len, HL.out]; omega
      have hlk3 : ((false, e.row) :: bruns bs).length = 8 * k + 1 := by rw [List.length_cons, bruns_len, HL.out]
      have HLK := Lib.hid hlk3
      clear hlk3
      have c10 : wr.cell? ⟨w.heap.size, 10, none⟩ = some (.slice t.a t.n t.cap) := hX.out.cell 10
      go_wp2_with fail
      clear c10
      refine (gains_any wr (w.heap.size + 1) (w.heap.size + 1 + 1) _ HA0 t (by omega)).mono ?_
      rintro e' w2 ⟨rfl, hA2, hP2, hL2, hs2⟩
      have XB2 := hP2 _ _ _ (by decide) (by omega) hX.out
      have hB2 := hB.out.trans (hL2.mono (by omega))
      clear hP2 hL2
      have c11 : w2.cell? ⟨w.heap.size, 11, none⟩ = some (.int .i64 hd.r) := XB2.cell 11
      have c12 : w2.cell? ⟨w.heap.size, 12, none⟩ = some (.int .i64 hd.c) := XB2.cell 12
      have c13 : w2.cell? ⟨w.heap.size, 13, none⟩ = some (.slice hd.a hd.n hd.cap) := XB2.cell 13
      go_wp2_with fail
      clear c11 c12 c13
      have hA3 := hA2.below ((Below.refl w2.heap.size w2).alloc (Nat.le_refl _) (.cells #[.int .i64 hd.r, .int .i64 hd.c, .slice hd.a hd.n hd.cap] 29))
      have XM3 := box_new w2 29 #[.int .i64 hd.r, .int .i64 hd.c, .slice hd.a hd.n hd.cap]
      have hB3 := hB2.alloc (by omega) (.cells #[.int .i64 hd.r, .int .i64 hd.c, .slice hd.a hd.n hd.cap] 29)
      have hz3 : (w2.alloc (.cells #[.int .i64 hd.r, .int .i64 hd.c, .slice hd.a hd.n hd.cap] 29)).heap.size = w2.heap.size + 1 := World.size_alloc _ _
      generalize w2.alloc (.cells #[.int .i64 hd.r, .int .i64 hd.c, .slice hd.a hd.n hd.cap] 29) = w3 at hA3 XM3 hB3 hz3 ⊢
      refine (matrices_any w3 (w.heap.size + 1) (w.heap.size + 1 + 1) _ hA3 w2.heap.size 1 1 [hd] 29 _ (by decide) XM3 (by omega) rfl (by omega) (lits1 _) (by rw [List.length_append, List.length_singleton]; omega)).mono ?_
      rintro e' w4 ⟨rfl, hA4, hP4, hL4, hs4⟩
      have hB4 := Lib.hid (hB3.trans (hL4.mono (by omega)))
      obtain ⟨v', hv1, hv2, hv3, hv4⟩ := hA4
      have hv5 : Hid (w4.ownsRow w.heap.size 63 2 v' (8 * k + 3) (((false, e.row) :: bruns bs ++ [(true, t), (false, hd.row)]).flatMap rnc)) := Lib.hid (by
        have h3 := Go.Joins.ownsRow_le hv2 (show w.heap.size ≤ (w.heap.size + 1 + 1) by omega)
        simp only [List.length_append, HLK.out, List.length_singleton, mruns, List.map_cons, List.map_nil, List.append_assoc] at h3
        exact h3)
      have c0 : w4.cell? ⟨w.heap.size + 1, 0, none⟩ = some v' := hv1.cell 0
      clear hA2 XB2 hB2 hA3 XM3 hB3 hP4 hL4 hv1 hv2 HA0
      go_wp2
      go_ret
      exact ⟨⟨v', rfl, hv5.out⟩, hB4.out⟩

end Go.Proofs.Ytgbbfmpofmeadaa
