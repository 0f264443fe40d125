/-
  Acts on a store, and spots, that come in as a row's arguments.
-/
import Derived.Test.YtolmejaedldeeaaRowOf
namespace Go.Proofs.Ytolmejaedldeeaa
open Go.RowKit Go.ChangeShapes Go.WideShapes Go.Deep Go.Joins
set_option linter.unusedVariables false

structure Spot12 where
  r : Int
  l : Int
  p : Int
  deriving Inhabited
def Spot12.cells (x : Spot12) : List Value := [.int .i64 x.r, .int .i64 x.l, .int .i64 x.p]
def Spot12.In (w : World) (x : Spot12) : Prop := (Lit.int .i64 x.r).wf = true ∧ (Lit.int .i64 x.l).wf = true ∧ (Lit.int .i64 x.p).wf = true
theorem Spot12.len (x : Spot12) : x.cells.length = 3 := rfl
theorem Spot12.In.below {w w' : World} {x : Spot12} (h : x.In w) (hb : Below w.heap.size w w') : x.In w' := by
  obtain ⟨h0, h1, h2⟩ := h
  exact ⟨h0, h1, h2⟩
set_option maxRecDepth 100000 in
theorem Spot12.reads {H : Type} {enc : TypeId × Value → H} {w : World} (n : Nat) (cs : List Value) (y : DataW H × List MemPlace) (h : DataW.trod enc Try.prog w 0 (fun _ => true) true n 33 cs = some y) : ∃ x : Spot12, cs = x.cells ∧ x.In w := by
  obtain ⟨ys, m, _, hx, hl, hlen, hg⟩ := DataW.trod_struct Try.underlying33 h
  have hl2 : cs.length = 3 := hl.trans (by kernel_rfl)
  match cs, hl2 with
  | [c0, c1, c2], _ =>
    match ys, hlen with
    | [y0, y1, y2], _ =>
      have g0 : DataW.trod enc Try.prog w 0 (fun _ => true) true m 3 (([c0, c1, c2].drop 0).take (Try.prog.cellsOf 3)) = some y0 := hg 0 _ rfl
      rw [show Try.prog.cellsOf 3 = 1 by kernel_rfl] at g0
      have s0 : DataW.trod enc Try.prog w 0 (fun _ => true) true m 3 [c0] = some y0 := g0
      have g1 : DataW.trod enc Try.prog w 0 (fun _ => true) true m 3 (([c0, c1, c2].drop 1).take (Try.prog.cellsOf 3)) = some y1 := hg 1 _ rfl
      rw [show Try.prog.cellsOf 3 = 1 by kernel_rfl] at g1
      have s1 : DataW.trod enc Try.prog w 0 (fun _ => true) true m 3 [c1] = some y1 := g1
      have g2 : DataW.trod enc Try.prog w 0 (fun _ => true) true m 3 (([c0, c1, c2].drop 2).take (Try.prog.cellsOf 3)) = some y2 := hg 2 _ rfl
      rw [show Try.prog.cellsOf 3 = 1 by kernel_rfl] at g2
      have s2 : DataW.trod enc Try.prog w 0 (fun _ => true) true m 3 [c2] = some y2 := g2
      obtain ⟨v0, e0, _, w0⟩ := DataW.trod_int Try.underlying3 s0
      simp only [List.cons.injEq, and_true] at e0
      subst e0
      obtain ⟨v1, e1, _, w1⟩ := DataW.trod_int Try.underlying3 s1
      simp only [List.cons.injEq, and_true] at e1
      subst e1
      obtain ⟨v2, e2, _, w2⟩ := DataW.trod_int Try.underlying3 s2
      simp only [List.cons.injEq, and_true] at e2
      subst e2
      exact ⟨⟨v0, v1, v2⟩, rfl, w0, w1, w2⟩
theorem open_Spot12 {H : Type} {enc : TypeId × Value → H} {w : World} {r : Reach} {b0 : Nat} {v : Value} {d : DataW H} {p : List MemPlace} (hv : Value.okWide Try.prog w r b0 33 v) (h : DataW.Trod enc Try.prog w 0 (fun _ => true) true 33 v d p) :
    ∃ x : Spot12, v = .agg #[.int .i64 x.r, .int .i64 x.l, .int .i64 x.p] ∧ x.In w := by
  obtain ⟨cs, rfl, hsz⟩ := okWide_struct Try.underlying33 hv
  obtain ⟨fuel, hf⟩ := h
  obtain ⟨l⟩ := cs
  obtain ⟨x, e, hx⟩ := Spot12.reads _ _ _ hf
  simp only [Value.cells] at e
  subst e
  exact ⟨x, rfl, hx⟩

structure Act12 where
  kind : Int
  at_ : Spot12
  k : Rw
  v : Rw
  deriving Inhabited
def Act12.cells (x : Act12) : List Value := [.int .i64 x.kind, .int .i64 x.at_.r, .int .i64 x.at_.l, .int .i64 x.at_.p, .slice x.k.a x.k.n x.k.cap, .slice x.v.a x.v.n x.v.cap]
def Act12.In (w : World) (x : Act12) : Prop := (Lit.int .i64 x.kind).wf = true ∧ x.at_.In w ∧ x.k.In .i8 w ∧ x.v.In .i8 w
theorem Act12.len (x : Act12) : x.cells.length = 6 := rfl
theorem Act12.In.below {w w' : World} {x : Act12} (h : x.In w) (hb : Below w.heap.size w w') : x.In w' := by
  obtain ⟨h0, h1, h2, h3⟩ := h
  exact ⟨h0, h1.below hb, h2.below hb, h3.below hb⟩
set_option maxRecDepth 100000 in
theorem Act12.reads {H : Type} {enc : TypeId × Value → H} {w : World} (n : Nat) (cs : List Value) (y : DataW H × List MemPlace) (h : DataW.trod enc Try.prog w 0 (fun _ => true) true n 36 cs = some y) : ∃ x : Act12, cs = x.cells ∧ x.In w := by
  obtain ⟨ys, m, _, hx, hl, hlen, hg⟩ := DataW.trod_struct Try.underlying36 h
  have hl2 : cs.length = 6 := hl.trans (by kernel_rfl)
  match cs, hl2 with
  | [c0, c1, c2, c3, c4, c5], _ =>
    match ys, hlen with
    | [y0, y1, y2, y3], _ =>
      have g0 : DataW.trod enc Try.prog w 0 (fun _ => true) true m 3 (([c0, c1, c2, c3, c4, c5].drop 0).take (Try.prog.cellsOf 3)) = some y0 := hg 0 _ rfl
      rw [show Try.prog.cellsOf 3 = 1 by kernel_rfl] at g0
      have s0 : DataW.trod enc Try.prog w 0 (fun _ => true) true m 3 [c0] = some y0 := g0
      have g1 : DataW.trod enc Try.prog w 0 (fun _ => true) true m 33 (([c0, c1, c2, c3, c4, c5].drop 1).take (Try.prog.cellsOf 33)) = some y1 := hg 1 _ rfl
      rw [show Try.prog.cellsOf 33 = 3 by kernel_rfl] at g1
      have s1 : DataW.trod enc Try.prog w 0 (fun _ => true) true m 33 [c1, c2, c3] = some y1 := g1
      have g2 : DataW.trod enc Try.prog w 0 (fun _ => true) true m 34 (([c0, c1, c2, c3, c4, c5].drop 4).take (Try.prog.cellsOf 34)) = some y2 := hg 2 _ rfl
      rw [show Try.prog.cellsOf 34 = 1 by kernel_rfl] at g2
      have s2 : DataW.trod enc Try.prog w 0 (fun _ => true) true m 34 [c4] = some y2 := g2
      have g3 : DataW.trod enc Try.prog w 0 (fun _ => true) true m 34 (([c0, c1, c2, c3, c4, c5].drop 5).take (Try.prog.cellsOf 34)) = some y3 := hg 3 _ rfl
      rw [show Try.prog.cellsOf 34 = 1 by kernel_rfl] at g3
      have s3 : DataW.trod enc Try.prog w 0 (fun _ => true) true m 34 [c5] = some y3 := g3
      obtain ⟨v0, e0, _, w0⟩ := DataW.trod_int Try.underlying3 s0
      simp only [List.cons.injEq, and_true] at e0
      subst e0
      obtain ⟨v1, e1, w1⟩ := Spot12.reads _ _ _ s1
      simp only [Spot12.cells, List.cons.injEq, and_true] at e1
      obtain ⟨rfl, rfl, rfl⟩ := e1
      obtain ⟨v2, rfl, w2⟩ := rw_of_reads Try.underlying34 Try.underlying39 (by kernel_rfl) s2
      obtain ⟨v3, rfl, w3⟩ := rw_of_reads Try.underlying34 Try.underlying39 (by kernel_rfl) s3
      exact ⟨⟨v0, v1, v2, v3⟩, rfl, w0, w1, w2, w3⟩
theorem open_Act12 {H : Type} {enc : TypeId × Value → H} {w : World} {r : Reach} {b0 : Nat} {v : Value} {d : DataW H} {p : List MemPlace} (hv : Value.okWide Try.prog w r b0 36 v) (h : DataW.Trod enc Try.prog w 0 (fun _ => true) true 36 v d p) :
    ∃ x : Act12, v = .agg #[.int .i64 x.kind, .int .i64 x.at_.r, .int .i64 x.at_.l, .int .i64 x.at_.p, .slice x.k.a x.k.n x.k.cap, .slice x.v.a x.v.n x.v.cap] ∧ x.In w := by
  obtain ⟨cs, rfl, hsz⟩ := okWide_struct Try.underlying36 hv
  obtain ⟨fuel, hf⟩ := h
  obtain ⟨l⟩ := cs
  obtain ⟨x, e, hx⟩ := Act12.reads _ _ _ hf
  simp only [Value.cells] at e
  subst e
  exact ⟨x, rfl, hx⟩
theorem open_rowAct12 {H : Type} {enc : TypeId × Value → H} {w : World} {r : Reach} {b0 : Nat} {v : Value} {d : DataW H} {p : List MemPlace} (hv : Value.okWide Try.prog w r b0 22 v) (h : DataW.Trod enc Try.prog w 0 (fun _ => true) true 22 v d p) :
    ∃ s : RowOf Act12, v = .slice s.a s.n s.cap ∧ s.In Act12.cells (fun w x => Act12.In w x) 6 w :=
  open_rowOf Act12.cells (fun w x => Act12.In w x) 6 Try.underlying22 (by kernel_rfl) (by decide) Act12.len Act12.reads hv h

end Go.Proofs.Ytolmejaedldeeaa
