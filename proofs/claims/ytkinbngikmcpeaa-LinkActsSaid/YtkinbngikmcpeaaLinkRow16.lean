/-
  Structs and rows of structs that the laws of links take.
-/
import Derived.Test.YtkinbngikmcpeaaRowOf
namespace Go.Proofs.Ytkinbngikmcpeaa
open Go.RowKit Go.ChangeShapes Go.WideShapes Go.Deep Go.Joins
set_option linter.unusedVariables false

structure Sides16 where
  win : Int
  span : Int
  room : Int
  deriving Inhabited
def Sides16.cells (x : Sides16) : List Value := [.int .i64 x.win, .int .i64 x.span, .int .i64 x.room]
def Sides16.In (w : World) (x : Sides16) : Prop := (Lit.int .i64 x.win).wf = true ∧ (Lit.int .i64 x.span).wf = true ∧ (Lit.int .i64 x.room).wf = true
theorem Sides16.len (x : Sides16) : x.cells.length = 3 := rfl
theorem Sides16.In.below {w w' : World} {x : Sides16} (h : x.In w) (hb : Below w.heap.size w w') : x.In w' := by
  obtain ⟨h0, h1, h2⟩ := h
  exact ⟨h0, h1, h2⟩
set_option maxRecDepth 100000 in
theorem Sides16.reads {H : Type} {enc : TypeId × Value → H} {w : World} (n : Nat) (cs : List Value) (y : DataW H × List MemPlace) (h : DataW.trod enc Try.prog w 0 (fun _ => true) true n 23 cs = some y) : ∃ x : Sides16, cs = x.cells ∧ x.In w := by
  obtain ⟨ys, m, _, hx, hl, hlen, hg⟩ := DataW.trod_struct Try.underlying23 h
  have hl2 : cs.length = 3 := hl.trans (by kernel_rfl)
  match cs, hl2 with
  | [c0, c1, c2], _ =>
    match ys, hlen with
    | [y0, y1, y2], _ =>
      have g0 : DataW.trod enc Try.prog w 0 (fun _ => true) true m 3 (([c0, c1, c2].drop 0).take (Try.prog.cellsOf 3)) = some y0 := hg 0 _ rfl
      rw [show Try.prog.cellsOf 3 = 1 by kernel_rfl] at g0
      have s0 : DataW.trod enc Try.prog w 0 (fun _ => true) true m 3 [c0] = some y0 := g0
      have g1 : DataW.trod enc Try.prog w 0 (fun _ => true) true m 3 (([c0, c1, c2].drop 1).take (Try.prog.cellsOf 3)) = some y1 := hg 1 _ rfl
      rw [show Try.prog.cellsOf 3 = 1 by kernel_rfl] at g1
      have s1 : DataW.trod enc Try.prog w 0 (fun _ => true) true m 3 [c1] = some y1 := g1
      have g2 : DataW.trod enc Try.prog w 0 (fun _ => true) true m 3 (([c0, c1, c2].drop 2).take (Try.prog.cellsOf 3)) = some y2 := hg 2 _ rfl
      rw [show Try.prog.cellsOf 3 = 1 by kernel_rfl] at g2
      have s2 : DataW.trod enc Try.prog w 0 (fun _ => true) true m 3 [c2] = some y2 := g2
      obtain ⟨v0, e0, _, w0⟩ := DataW.trod_int Try.underlying3 s0
      simp only [List.cons.injEq, and_true] at e0
      subst e0
      obtain ⟨v1, e1, _, w1⟩ := DataW.trod_int Try.underlying3 s1
      simp only [List.cons.injEq, and_true] at e1
      subst e1
      obtain ⟨v2, e2, _, w2⟩ := DataW.trod_int Try.underlying3 s2
      simp only [List.cons.injEq, and_true] at e2
      subst e2
      exact ⟨⟨v0, v1, v2⟩, rfl, w0, w1, w2⟩
theorem open_Sides16 {H : Type} {enc : TypeId × Value → H} {w : World} {r : Reach} {b0 : Nat} {v : Value} {d : DataW H} {p : List MemPlace} (hv : Value.okWide Try.prog w r b0 23 v) (h : DataW.Trod enc Try.prog w 0 (fun _ => true) true 23 v d p) :
    ∃ x : Sides16, v = .agg #[.int .i64 x.win, .int .i64 x.span, .int .i64 x.room] ∧ x.In w := by
  obtain ⟨cs, rfl, hsz⟩ := okWide_struct Try.underlying23 hv
  obtain ⟨fuel, hf⟩ := h
  obtain ⟨l⟩ := cs
  obtain ⟨x, e, hx⟩ := Sides16.reads _ _ _ hf
  simp only [Value.cells] at e
  subst e
  exact ⟨x, rfl, hx⟩

structure Seg16a where
  e : Int
  s : Int
  k : Int
  q : Rw
  deriving Inhabited
def Seg16a.cells (x : Seg16a) : List Value := [.int .i64 x.e, .int .i64 x.s, .int .i64 x.k, .slice x.q.a x.q.n x.q.cap]
def Seg16a.In (w : World) (x : Seg16a) : Prop := (Lit.int .i64 x.e).wf = true ∧ (Lit.int .i64 x.s).wf = true ∧ (Lit.int .i64 x.k).wf = true ∧ x.q.In .u8 w
theorem Seg16a.len (x : Seg16a) : x.cells.length = 4 := rfl
theorem Seg16a.In.below {w w' : World} {x : Seg16a} (h : x.In w) (hb : Below w.heap.size w w') : x.In w' := by
  obtain ⟨h0, h1, h2, h3⟩ := h
  exact ⟨h0, h1, h2, h3.below hb⟩
set_option maxRecDepth 100000 in
theorem Seg16a.reads {H : Type} {enc : TypeId × Value → H} {w : World} (n : Nat) (cs : List Value) (y : DataW H × List MemPlace) (h : DataW.trod enc Try.prog w 0 (fun _ => true) true n 39 cs = some y) : ∃ x : Seg16a, cs = x.cells ∧ x.In w := by
  obtain ⟨ys, m, _, hx, hl, hlen, hg⟩ := DataW.trod_struct Try.underlying39 h
  have hl2 : cs.length = 4 := hl.trans (by kernel_rfl)
  match cs, hl2 with
  | [c0, c1, c2, c3], _ =>
    match ys, hlen with
    | [y0, y1, y2, y3], _ =>
      have g0 : DataW.trod enc Try.prog w 0 (fun _ => true) true m 3 (([c0, c1, c2, c3].drop 0).take (Try.prog.cellsOf 3)) = some y0 := hg 0 _ rfl
      rw [show Try.prog.cellsOf 3 = 1 by kernel_rfl] at g0
      have s0 : DataW.trod enc Try.prog w 0 (fun _ => true) true m 3 [c0] = some y0 := g0
      have g1 : DataW.trod enc Try.prog w 0 (fun _ => true) true m 3 (([c0, c1, c2, c3].drop 1).take (Try.prog.cellsOf 3)) = some y1 := hg 1 _ rfl
      rw [show Try.prog.cellsOf 3 = 1 by kernel_rfl] at g1
      have s1 : DataW.trod enc Try.prog w 0 (fun _ => true) true m 3 [c1] = some y1 := g1
      have g2 : DataW.trod enc Try.prog w 0 (fun _ => true) true m 3 (([c0, c1, c2, c3].drop 2).take (Try.prog.cellsOf 3)) = some y2 := hg 2 _ rfl
      rw [show Try.prog.cellsOf 3 = 1 by kernel_rfl] at g2
      have s2 : DataW.trod enc Try.prog w 0 (fun _ => true) true m 3 [c2] = some y2 := g2
      have g3 : DataW.trod enc Try.prog w 0 (fun _ => true) true m 37 (([c0, c1, c2, c3].drop 3).take (Try.prog.cellsOf 37)) = some y3 := hg 3 _ rfl
      rw [show Try.prog.cellsOf 37 = 1 by kernel_rfl] at g3
      have s3 : DataW.trod enc Try.prog w 0 (fun _ => true) true m 37 [c3] = some y3 := g3
      obtain ⟨v0, e0, _, w0⟩ := DataW.trod_int Try.underlying3 s0
      simp only [List.cons.injEq, and_true] at e0
      subst e0
      obtain ⟨v1, e1, _, w1⟩ := DataW.trod_int Try.underlying3 s1
      simp only [List.cons.injEq, and_true] at e1
      subst e1
      obtain ⟨v2, e2, _, w2⟩ := DataW.trod_int Try.underlying3 s2
      simp only [List.cons.injEq, and_true] at e2
      subst e2
      obtain ⟨v3, rfl, w3⟩ := rw_of_reads Try.underlying37 Try.underlying5 (by kernel_rfl) s3
      exact ⟨⟨v0, v1, v2, v3⟩, rfl, w0, w1, w2, w3⟩
theorem open_Seg16a {H : Type} {enc : TypeId × Value → H} {w : World} {r : Reach} {b0 : Nat} {v : Value} {d : DataW H} {p : List MemPlace} (hv : Value.okWide Try.prog w r b0 39 v) (h : DataW.Trod enc Try.prog w 0 (fun _ => true) true 39 v d p) :
    ∃ x : Seg16a, v = .agg #[.int .i64 x.e, .int .i64 x.s, .int .i64 x.k, .slice x.q.a x.q.n x.q.cap] ∧ x.In w := by
  obtain ⟨cs, rfl, hsz⟩ := okWide_struct Try.underlying39 hv
  obtain ⟨fuel, hf⟩ := h
  obtain ⟨l⟩ := cs
  obtain ⟨x, e, hx⟩ := Seg16a.reads _ _ _ hf
  simp only [Value.cells] at e
  subst e
  exact ⟨x, rfl, hx⟩

structure Act16 where
  kind : Int
  n : Int
  bodies : RowOf Rw
  s : Seg16a
  deriving Inhabited
def Act16.cells (x : Act16) : List Value := [.int .i64 x.kind, .int .i64 x.n, .slice x.bodies.a x.bodies.n x.bodies.cap, .int .i64 x.s.e, .int .i64 x.s.s, .int .i64 x.s.k, .slice x.s.q.a x.s.q.n x.s.q.cap]
def Act16.In (w : World) (x : Act16) : Prop := (Lit.int .i64 x.kind).wf = true ∧ (Lit.int .i64 x.n).wf = true ∧ x.bodies.In rwCells (fun w q => Rw.In .u8 w q) 1 w ∧ x.s.In w
theorem Act16.len (x : Act16) : x.cells.length = 7 := rfl
theorem Act16.In.below {w w' : World} {x : Act16} (h : x.In w) (hb : Below w.heap.size w w') : x.In w' := by
  obtain ⟨h0, h1, h2, h3⟩ := h
  exact ⟨h0, h1, h2.below (fun _ => rfl) hb (fun x hx => hx.below hb), h3.below hb⟩
set_option maxRecDepth 100000 in
theorem Act16.reads {H : Type} {enc : TypeId × Value → H} {w : World} (n : Nat) (cs : List Value) (y : DataW H × List MemPlace) (h : DataW.trod enc Try.prog w 0 (fun _ => true) true n 41 cs = some y) : ∃ x : Act16, cs = x.cells ∧ x.In w := by
  obtain ⟨ys, m, _, hx, hl, hlen, hg⟩ := DataW.trod_struct Try.underlying41 h
  have hl2 : cs.length = 7 := hl.trans (by kernel_rfl)
  match cs, hl2 with
  | [c0, c1, c2, c3, c4, c5, c6], _ =>
    match ys, hlen with
    | [y0, y1, y2, y3], _ =>
      have g0 : DataW.trod enc Try.prog w 0 (fun _ => true) true m 3 (([c0, c1, c2, c3, c4, c5, c6].drop 0).take (Try.prog.cellsOf 3)) = some y0 := hg 0 _ rfl
      rw [show Try.prog.cellsOf 3 = 1 by kernel_rfl] at g0
      have s0 : DataW.trod enc Try.prog w 0 (fun _ => true) true m 3 [c0] = some y0 := g0
      have g1 : DataW.trod enc Try.prog w 0 (fun _ => true) true m 3 (([c0, c1, c2, c3, c4, c5, c6].drop 1).take (Try.prog.cellsOf 3)) = some y1 := hg 1 _ rfl
      rw [show Try.prog.cellsOf 3 = 1 by kernel_rfl] at g1
      have s1 : DataW.trod enc Try.prog w 0 (fun _ => true) true m 3 [c1] = some y1 := g1
      have g2 : DataW.trod enc Try.prog w 0 (fun _ => true) true m 36 (([c0, c1, c2, c3, c4, c5, c6].drop 2).take (Try.prog.cellsOf 36)) = some y2 := hg 2 _ rfl
      rw [show Try.prog.cellsOf 36 = 1 by kernel_rfl] at g2
      have s2 : DataW.trod enc Try.prog w 0 (fun _ => true) true m 36 [c2] = some y2 := g2
      have g3 : DataW.trod enc Try.prog w 0 (fun _ => true) true m 39 (([c0, c1, c2, c3, c4, c5, c6].drop 3).take (Try.prog.cellsOf 39)) = some y3 := hg 3 _ rfl
      rw [show Try.prog.cellsOf 39 = 4 by kernel_rfl] at g3
      have s3 : DataW.trod enc Try.prog w 0 (fun _ => true) true m 39 [c3, c4, c5, c6] = some y3 := g3
      obtain ⟨v0, e0, _, w0⟩ := DataW.trod_int Try.underlying3 s0
      simp only [List.cons.injEq, and_true] at e0
      subst e0
      obtain ⟨v1, e1, _, w1⟩ := DataW.trod_int Try.underlying3 s1
      simp only [List.cons.injEq, and_true] at e1
      subst e1
      obtain ⟨v2, rfl, w2⟩ := rowOf_reads rwCells (fun w q => Rw.In .u8 w q) 1 Try.underlying36 (by kernel_rfl) (by decide) (fun _ => rfl) (rwCells_reads Try.underlying37 Try.underlying5 (by kernel_rfl) (by kernel_rfl)) s2
      obtain ⟨v3, e3, w3⟩ := Seg16a.reads _ _ _ s3
      simp only [Seg16a.cells, List.cons.injEq, and_true] at e3
      obtain ⟨rfl, rfl, rfl, rfl⟩ := e3
      exact ⟨⟨v0, v1, v2, v3⟩, rfl, w0, w1, w2, w3⟩
theorem open_Act16 {H : Type} {enc : TypeId × Value → H} {w : World} {r : Reach} {b0 : Nat} {v : Value} {d : DataW H} {p : List MemPlace} (hv : Value.okWide Try.prog w r b0 41 v) (h : DataW.Trod enc Try.prog w 0 (fun _ => true) true 41 v d p) :
    ∃ x : Act16, v = .agg #[.int .i64 x.kind, .int .i64 x.n, .slice x.bodies.a x.bodies.n x.bodies.cap, .int .i64 x.s.e, .int .i64 x.s.s, .int .i64 x.s.k, .slice x.s.q.a x.s.q.n x.s.q.cap] ∧ x.In w := by
  obtain ⟨cs, rfl, hsz⟩ := okWide_struct Try.underlying41 hv
  obtain ⟨fuel, hf⟩ := h
  obtain ⟨l⟩ := cs
  obtain ⟨x, e, hx⟩ := Act16.reads _ _ _ hf
  simp only [Value.cells] at e
  subst e
  exact ⟨x, rfl, hx⟩
theorem open_rowAct16 {H : Type} {enc : TypeId × Value → H} {w : World} {r : Reach} {b0 : Nat} {v : Value} {d : DataW H} {p : List MemPlace} (hv : Value.okWide Try.prog w r b0 24 v) (h : DataW.Trod enc Try.prog w 0 (fun _ => true) true 24 v d p) :
    ∃ s : RowOf Act16, v = .slice s.a s.n s.cap ∧ s.In Act16.cells (fun w x => Act16.In w x) 7 w :=
  open_rowOf Act16.cells (fun w x => Act16.In w x) 7 Try.underlying24 (by kernel_rfl) (by decide) Act16.len Act16.reads hv h

structure Event16 where
  kind : Int
  a : Int
  n : Int
  b : Rw
  deriving Inhabited
def Event16.cells (x : Event16) : List Value := [.int .i64 x.kind, .int .i64 x.a, .int .i64 x.n, .slice x.b.a x.b.n x.b.cap]
def Event16.In (w : World) (x : Event16) : Prop := (Lit.int .i64 x.kind).wf = true ∧ (Lit.int .i64 x.a).wf = true ∧ (Lit.int .i64 x.n).wf = true ∧ x.b.In .u8 w
theorem Event16.len (x : Event16) : x.cells.length = 4 := rfl
theorem Event16.In.below {w w' : World} {x : Event16} (h : x.In w) (hb : Below w.heap.size w w') : x.In w' := by
  obtain ⟨h0, h1, h2, h3⟩ := h
  exact ⟨h0, h1, h2, h3.below hb⟩
set_option maxRecDepth 100000 in
theorem Event16.reads {H : Type} {enc : TypeId × Value → H} {w : World} (n : Nat) (cs : List Value) (y : DataW H × List MemPlace) (h : DataW.trod enc Try.prog w 0 (fun _ => true) true n 65 cs = some y) : ∃ x : Event16, cs = x.cells ∧ x.In w := by
  obtain ⟨ys, m, _, hx, hl, hlen, hg⟩ := DataW.trod_struct Try.underlying65 h
  have hl2 : cs.length = 4 := hl.trans (by kernel_rfl)
  match cs, hl2 with
  | [c0, c1, c2, c3], _ =>
    match ys, hlen with
    | [y0, y1, y2, y3], _ =>
      have g0 : DataW.trod enc Try.prog w 0 (fun _ => true) true m 3 (([c0, c1, c2, c3].drop 0).take (Try.prog.cellsOf 3)) = some y0 := hg 0 _ rfl
      rw [show Try.prog.cellsOf 3 = 1 by kernel_rfl] at g0
      have s0 : DataW.trod enc Try.prog w 0 (fun _ => true) true m 3 [c0] = some y0 := g0
      have g1 : DataW.trod enc Try.prog w 0 (fun _ => true) true m 3 (([c0, c1, c2, c3].drop 1).take (Try.prog.cellsOf 3)) = some y1 := hg 1 _ rfl
      rw [show Try.prog.cellsOf 3 = 1 by kernel_rfl] at g1
      have s1 : DataW.trod enc Try.prog w 0 (fun _ => true) true m 3 [c1] = some y1 := g1
      have g2 : DataW.trod enc Try.prog w 0 (fun _ => true) true m 3 (([c0, c1, c2, c3].drop 2).take (Try.prog.cellsOf 3)) = some y2 := hg 2 _ rfl
      rw [show Try.prog.cellsOf 3 = 1 by kernel_rfl] at g2
      have s2 : DataW.trod enc Try.prog w 0 (fun _ => true) true m 3 [c2] = some y2 := g2
      have g3 : DataW.trod enc Try.prog w 0 (fun _ => true) true m 37 (([c0, c1, c2, c3].drop 3).take (Try.prog.cellsOf 37)) = some y3 := hg 3 _ rfl
      rw [show Try.prog.cellsOf 37 = 1 by kernel_rfl] at g3
      have s3 : DataW.trod enc Try.prog w 0 (fun _ => true) true m 37 [c3] = some y3 := g3
      obtain ⟨v0, e0, _, w0⟩ := DataW.trod_int Try.underlying3 s0
      simp only [List.cons.injEq, and_true] at e0
      subst e0
      obtain ⟨v1, e1, _, w1⟩ := DataW.trod_int Try.underlying3 s1
      simp only [List.cons.injEq, and_true] at e1
      subst e1
      obtain ⟨v2, e2, _, w2⟩ := DataW.trod_int Try.underlying3 s2
      simp only [List.cons.injEq, and_true] at e2
      subst e2
      obtain ⟨v3, rfl, w3⟩ := rw_of_reads Try.underlying37 Try.underlying5 (by kernel_rfl) s3
      exact ⟨⟨v0, v1, v2, v3⟩, rfl, w0, w1, w2, w3⟩
theorem open_Event16 {H : Type} {enc : TypeId × Value → H} {w : World} {r : Reach} {b0 : Nat} {v : Value} {d : DataW H} {p : List MemPlace} (hv : Value.okWide Try.prog w r b0 65 v) (h : DataW.Trod enc Try.prog w 0 (fun _ => true) true 65 v d p) :
    ∃ x : Event16, v = .agg #[.int .i64 x.kind, .int .i64 x.a, .int .i64 x.n, .slice x.b.a x.b.n x.b.cap] ∧ x.In w := by
  obtain ⟨cs, rfl, hsz⟩ := okWide_struct Try.underlying65 hv
  obtain ⟨fuel, hf⟩ := h
  obtain ⟨l⟩ := cs
  obtain ⟨x, e, hx⟩ := Event16.reads _ _ _ hf
  simp only [Value.cells] at e
  subst e
  exact ⟨x, rfl, hx⟩
theorem open_rowEvent16 {H : Type} {enc : TypeId × Value → H} {w : World} {r : Reach} {b0 : Nat} {v : Value} {d : DataW H} {p : List MemPlace} (hv : Value.okWide Try.prog w r b0 56 v) (h : DataW.Trod enc Try.prog w 0 (fun _ => true) true 56 v d p) :
    ∃ s : RowOf Event16, v = .slice s.a s.n s.cap ∧ s.In Event16.cells (fun w x => Event16.In w x) 4 w :=
  open_rowOf Event16.cells (fun w x => Event16.In w x) 4 Try.underlying56 (by kernel_rfl) (by decide) Event16.len Event16.reads hv h

end Go.Proofs.Ytkinbngikmcpeaa
