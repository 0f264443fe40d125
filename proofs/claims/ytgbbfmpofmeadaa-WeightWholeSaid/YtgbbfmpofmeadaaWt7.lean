/-
  Weights as they stand in memory: a block, a slice of blocks, the whole; their rows in the file's order.
-/
import Derived.Test.YtgbbfmpofmeadaaMats
import Derived.Test.YtgbbfmpofmeadaaSetN
import Derived.Test.YtgbbfmpofmeadaaShape
namespace Go.Proofs.Ytgbbfmpofmeadaa
open Go.RowKit
set_option linter.unusedVariables false

/-- a block: two rows of gains, six matrices -/
structure Bk7 where
  x : Rw
  y : Rw
  q : Gr
  k : Gr
  v : Gr
  o : Gr
  u : Gr
  d : Gr
deriving Inhabited
/-- a matrix's numbers, as a row -/
def Gr.row (g : Gr) : Rw := ⟨g.a, g.n, g.cap, g.v⟩
def Bk7.cells (b : Bk7) : Array Value := #[.slice b.x.a b.x.n b.x.cap, .slice b.y.a b.y.n b.y.cap, .int .i64 b.q.r, .int .i64 b.q.c, .slice b.q.a b.q.n b.q.cap, .int .i64 b.k.r, .int .i64 b.k.c, .slice b.k.a b.k.n b.k.cap, .int .i64 b.v.r, .int .i64 b.v.c, .slice b.v.a b.v.n b.v.cap, .int .i64 b.o.r, .int .i64 b.o.c, .slice b.o.a b.o.n b.o.cap, .int .i64 b.u.r, .int .i64 b.u.c, .slice b.u.a b.u.n b.u.cap, .int .i64 b.d.r, .int .i64 b.d.c, .slice b.d.a b.d.n b.d.cap]
def Bk7.In (w : World) (b : Bk7) : Prop := b.x.In .i8 w ∧ b.y.In .i8 w ∧ b.q.In8 w ∧ b.k.In8 w ∧ b.v.In8 w ∧ b.o.In8 w ∧ b.u.In8 w ∧ b.d.In8 w
theorem Gr.In8.bel {w w' : World} {g : Gr} (h : g.In8 w) (hb : Below w.heap.size w w') : g.In8 w' := ⟨h.1.below hb, h.2⟩
theorem Bk7.In.bel {w w' : World} {b : Bk7} (h : b.In w) (hb : Below w.heap.size w w') : b.In w' := by
  obtain ⟨h1, h2, h3, h4, h5, h6, h7, h8⟩ := h
  exact ⟨h1.below hb, h2.below hb, h3.bel hb, h4.bel hb, h5.bel hb, h6.bel hb, h7.bel hb, h8.bel hb⟩
theorem Gr.In8.row {w : World} {g : Gr} (h : g.In8 w) : g.row.In .i8 w := ⟨h.1, h.2.1, h.2.2.1, h.2.2.2.1⟩

/-- n blocks at a -/
def BksAt (w : World) (a : Option Addr) (n : Nat) (bs : List Bk7) : Prop :=
  bs.length = n ∧ n ≤ 9223372036854775807 ∧ (∀ b ∈ bs, b.In w) ∧
    (0 < n → ∃ g off, a = some ⟨g, off, none⟩ ∧ g < w.heap.size ∧ ∀ i, i < n → ∀ k, k < 20 → w.cell? ⟨g, off + i * 20 + k, none⟩ = (bs.getD i default).cells[k]?)
theorem BksAt.bel {w w' : World} {a : Option Addr} {n : Nat} {bs : List Bk7} (h : BksAt w a n bs) (hb : Below w.heap.size w w') : BksAt w' a n bs := by
  refine ⟨h.1, h.2.1, fun b hb' => (h.2.2.1 b hb').bel hb, fun hn => ?_⟩
  obtain ⟨g, off, rfl, hlt, hc⟩ := h.2.2.2 hn
  exact ⟨g, off, rfl, Nat.lt_of_lt_of_le hlt hb.size, fun i hi k hk => (hb.cell (p := ⟨g, _, none⟩) hlt).trans (hc i hi k hk)⟩
theorem BksAt.at_ {w : World} {a : Option Addr} {n : Nat} {bs : List Bk7} (h : BksAt w a n bs) {i : Nat} (hi : i < n) :
    ∃ g off b, a = some ⟨g, off, none⟩ ∧ g < w.heap.size ∧ (∀ k, k < 20 → w.cell? ⟨g, off + i * 20 + k, none⟩ = b.cells[k]?) ∧ Hid (bs.getD i default = b) ∧ b.In w := by
  obtain ⟨g, off, rfl, hlt, hc⟩ := h.2.2.2 (by omega)
  refine ⟨g, off, _, rfl, hlt, hc i hi, Lib.hid rfl, h.2.2.1 _ ?_⟩
  rw [List.getD_eq_getElem?_getD, List.getElem?_eq_getElem (by rw [h.1]; exact hi)]
  exact List.getElem_mem _
/-- the cells of an element, one by one -/
theorem bk_cells {w : World} {g o : Nat} {b : Bk7} (h : ∀ k, k < 20 → w.cell? ⟨g, o + k, none⟩ = b.cells[k]?) :
    w.cell? ⟨g, o, none⟩ = some (.slice b.x.a b.x.n b.x.cap) ∧ w.cell? ⟨g, o + 1, none⟩ = some (.slice b.y.a b.y.n b.y.cap) ∧ w.cell? ⟨g, o + 2, none⟩ = some (.int .i64 b.q.r) ∧ w.cell? ⟨g, o + 3, none⟩ = some (.int .i64 b.q.c) ∧ w.cell? ⟨g, o + 4, none⟩ = some (.slice b.q.a b.q.n b.q.cap) ∧ w.cell? ⟨g, o + 5, none⟩ = some (.int .i64 b.k.r) ∧ w.cell? ⟨g, o + 6, none⟩ = some (.int .i64 b.k.c) ∧ w.cell? ⟨g, o + 7, none⟩ = some (.slice b.k.a b.k.n b.k.cap) ∧ w.cell? ⟨g, o + 8, none⟩ = some (.int .i64 b.v.r) ∧ w.cell? ⟨g, o + 9, none⟩ = some (.int .i64 b.v.c) ∧ w.cell? ⟨g, o + 10, none⟩ = some (.slice b.v.a b.v.n b.v.cap) ∧ w.cell? ⟨g, o + 11, none⟩ = some (.int .i64 b.o.r) ∧ w.cell? ⟨g, o + 12, none⟩ = some (.int .i64 b.o.c) ∧ w.cell? ⟨g, o + 13, none⟩ = some (.slice b.o.a b.o.n b.o.cap) ∧ w.cell? ⟨g, o + 14, none⟩ = some (.int .i64 b.u.r) ∧ w.cell? ⟨g, o + 15, none⟩ = some (.int .i64 b.u.c) ∧ w.cell? ⟨g, o + 16, none⟩ = some (.slice b.u.a b.u.n b.u.cap) ∧ w.cell? ⟨g, o + 17, none⟩ = some (.int .i64 b.d.r) ∧ w.cell? ⟨g, o + 18, none⟩ = some (.int .i64 b.d.c) ∧ w.cell? ⟨g, o + 19, none⟩ = some (.slice b.d.a b.d.n b.d.cap) :=
  ⟨h 0 (by decide), h 1 (by decide), h 2 (by decide), h 3 (by decide), h 4 (by decide), h 5 (by decide), h 6 (by decide), h 7 (by decide), h 8 (by decide), h 9 (by decide), h 10 (by decide), h 11 (by decide), h 12 (by decide), h 13 (by decide), h 14 (by decide), h 15 (by decide), h 16 (by decide), h 17 (by decide), h 18 (by decide), h 19 (by decide)⟩

/-- weights: a shape (of whatever numbers), what they hold -/
structure Wt7 where
  l : Int
  w : Int
  h : Int
  i : Int
  v : Int
  p : Int
  e : Gr
  ba : Option Addr
  bn : Nat
  bcap : Nat
  bs : List Bk7
  t : Rw
  hd : Gr
def Wt7.cells (W : Wt7) : Array Value := #[.int .i64 W.l, .int .i64 W.w, .int .i64 W.h, .int .i64 W.i, .int .i64 W.v, .int .i64 W.p, .int .i64 W.e.r, .int .i64 W.e.c, .slice W.e.a W.e.n W.e.cap, .slice W.ba W.bn W.bcap, .slice W.t.a W.t.n W.t.cap, .int .i64 W.hd.r, .int .i64 W.hd.c, .slice W.hd.a W.hd.n W.hd.cap]
def Six64 (W : Wt7) : Prop := (-9223372036854775808 ≤ W.l ∧ W.l ≤ 9223372036854775807) ∧ (-9223372036854775808 ≤ W.w ∧ W.w ≤ 9223372036854775807) ∧ (-9223372036854775808 ≤ W.h ∧ W.h ≤ 9223372036854775807)
def Wt7.In (w : World) (W : Wt7) : Prop := W.e.In8 w ∧ W.hd.In8 w ∧ W.t.In .i8 w ∧ BksAt w W.ba W.bn W.bs ∧ W.bn ≤ W.bcap ∧ W.bcap ≤ 9223372036854775807 ∧ Six64 W
theorem Wt7.In.bel {w w' : World} {W : Wt7} (h : W.In w) (hb : Below w.heap.size w w') : W.In w' := by
  obtain ⟨h1, h2, h3, h4, h5⟩ := h
  exact ⟨h1.bel hb, h2.bel hb, h3.below hb, h4.bel hb, h5⟩

/-- a block's rows, in the file's order; the weights' -/
def Bk7.runs (b : Bk7) : List (Bool × Rw) := [(true, b.x), (false, b.q.row), (false, b.k.row), (false, b.v.row), (false, b.o.row), (true, b.y), (false, b.u.row), (false, b.d.row)]
def bruns (bs : List Bk7) : List (Bool × Rw) := bs.flatMap Bk7.runs
def Wt7.runs (W : Wt7) : List (Bool × Rw) := (false, W.e.row) :: bruns W.bs ++ [(true, W.t), (false, W.hd.row)]
/-- all numbers, in the file's order -/
def Wt7.flat (W : Wt7) : List Int := W.runs.flatMap (fun r => r.2.v)
theorem bruns_len (bs : List Bk7) : (bruns bs).length = 8 * bs.length := by
  unfold bruns
  induction bs with
  | nil => rfl
  | cons b bs ih => rw [List.flatMap_cons, List.length_append, ih]; simp [Bk7.runs]; omega
theorem bruns_step (bs : List Bk7) (k : Nat) (hk : k < bs.length) : bruns (bs.take (k + 1)) = bruns (bs.take k) ++ (bs.getD k default).runs := by
  unfold bruns
  rw [List.take_add_one, List.flatMap_append]
  simp [List.getD, List.getElem?_eq_getElem hk]

end Go.Proofs.Ytgbbfmpofmeadaa
