/-
  Messages that come in as arguments.
-/
import Derived.Test.YtobogkilkmnpmaaRowOf
namespace Go.Proofs.Ytobogkilkmnpmaa
open Go.RowKit Go.ChangeShapes Go.WideShapes Go.Deep Go.Joins
set_option linter.unusedVariables false

structure Ms15 where
  kind : Int
  n0 : Int
  n1 : Int
  n2 : Int
  n3 : Int
  n4 : Int
  n5 : Int
  n6 : Int
  li : Rw
  deriving Inhabited
def Ms15.cells (x : Ms15) : List Value := [.int .i64 x.kind, .int .i64 x.n0, .int .i64 x.n1, .int .i64 x.n2, .int .i64 x.n3, .int .i64 x.n4, .int .i64 x.n5, .int .i64 x.n6, .slice x.li.a x.li.n x.li.cap]
def Ms15.In (w : World) (x : Ms15) : Prop := (Lit.int .i64 x.kind).wf = true ∧ (Lit.int .i64 x.n0).wf = true ∧ (Lit.int .i64 x.n1).wf = true ∧ (Lit.int .i64 x.n2).wf = true ∧ (Lit.int .i64 x.n3).wf = true ∧ (Lit.int .i64 x.n4).wf = true ∧ (Lit.int .i64 x.n5).wf = true ∧ (Lit.int .i64 x.n6).wf = true ∧ x.li.In .i32 w
theorem Ms15.len (x : Ms15) : x.cells.length = 9 := rfl
theorem Ms15.In.below {w w' : World} {x : Ms15} (h : x.In w) (hb : Below w.heap.size w w') : x.In w' := by
  obtain ⟨h0, h1, h2, h3, h4, h5, h6, h7, h8⟩ := h
  exact ⟨h0, h1, h2, h3, h4, h5, h6, h7, h8.below hb⟩
set_option maxRecDepth 100000 in
theorem Ms15.reads {H : Type} {enc : TypeId × Value → H} {w : World} (n : Nat) (cs : List Value) (y : DataW H × List MemPlace) (h : DataW.trod enc Try.prog w 0 (fun _ => true) true n 24 cs = some y) : ∃ x : Ms15, cs = x.cells ∧ x.In w := by
  obtain ⟨ys, m, _, hx, hl, hlen, hg⟩ := DataW.trod_struct Try.underlying24 h
  have hl2 : cs.length = 9 := hl.trans (by kernel_rfl)
  match cs, hl2 with
  | [c0, c1, c2, c3, c4, c5, c6, c7, c8], _ =>
    match ys, hlen with
    | [y0, y1, y2, y3, y4, y5, y6, y7, y8], _ =>
      have g0 : DataW.trod enc Try.prog w 0 (fun _ => true) true m 3 (([c0, c1, c2, c3, c4, c5, c6, c7, c8].drop 0).take (Try.prog.cellsOf 3)) = some y0 := hg 0 _ rfl
      rw [show Try.prog.cellsOf 3 = 1 by kernel_rfl] at g0
      have s0 : DataW.trod enc Try.prog w 0 (fun _ => true) true m 3 [c0] = some y0 := g0
      have g1 : DataW.trod enc Try.prog w 0 (fun _ => true) true m 3 (([c0, c1, c2, c3, c4, c5, c6, c7, c8].drop 1).take (Try.prog.cellsOf 3)) = some y1 := hg 1 _ rfl
      rw [show Try.prog.cellsOf 3 = 1 by kernel_rfl] at g1
      have s1 : DataW.trod enc Try.prog w 0 (fun _ => true) true m 3 [c1] = some y1 := g1
      have g2 : DataW.trod enc Try.prog w 0 (fun _ => true) true m 3 (([c0, c1, c2, c3, c4, c5, c6, c7, c8].drop 2).take (Try.prog.cellsOf 3)) = some y2 := hg 2 _ rfl
      rw [show Try.prog.cellsOf 3 = 1 by kernel_rfl] at g2
      have s2 : DataW.trod enc Try.prog w 0 (fun _ => true) true m 3 [c2] = some y2 := g2
      have g3 : DataW.trod enc Try.prog w 0 (fun _ => true) true m 3 (([c0, c1, c2, c3, c4, c5, c6, c7, c8].drop 3).take (Try.prog.cellsOf 3)) = some y3 := hg 3 _ rfl
      rw [show Try.prog.cellsOf 3 = 1 by kernel_rfl] at g3
      have s3 : DataW.trod enc Try.prog w 0 (fun _ => true) true m 3 [c3] = some y3 := g3
      have g4 : DataW.trod enc Try.prog w 0 (fun _ => true) true m 3 (([c0, c1, c2, c3, c4, c5, c6, c7, c8].drop 4).take (Try.prog.cellsOf 3)) = some y4 := hg 4 _ rfl
      rw [show Try.prog.cellsOf 3 = 1 by kernel_rfl] at g4
      have s4 : DataW.trod enc Try.prog w 0 (fun _ => true) true m 3 [c4] = some y4 := g4
      have g5 : DataW.trod enc Try.prog w 0 (fun _ => true) true m 3 (([c0, c1, c2, c3, c4, c5, c6, c7, c8].drop 5).take (Try.prog.cellsOf 3)) = some y5 := hg 5 _ rfl
      rw [show Try.prog.cellsOf 3 = 1 by kernel_rfl] at g5
      have s5 : DataW.trod enc Try.prog w 0 (fun _ => true) true m 3 [c5] = some y5 := g5
      have g6 : DataW.trod enc Try.prog w 0 (fun _ => true) true m 3 (([c0, c1, c2, c3, c4, c5, c6, c7, c8].drop 6).take (Try.prog.cellsOf 3)) = some y6 := hg 6 _ rfl
      rw [show Try.prog.cellsOf 3 = 1 by kernel_rfl] at g6
      have s6 : DataW.trod enc Try.prog w 0 (fun _ => true) true m 3 [c6] = some y6 := g6
      have g7 : DataW.trod enc Try.prog w 0 (fun _ => true) true m 3 (([c0, c1, c2, c3, c4, c5, c6, c7, c8].drop 7).take (Try.prog.cellsOf 3)) = some y7 := hg 7 _ rfl
      rw [show Try.prog.cellsOf 3 = 1 by kernel_rfl] at g7
      have s7 : DataW.trod enc Try.prog w 0 (fun _ => true) true m 3 [c7] = some y7 := g7
      have g8 : DataW.trod enc Try.prog w 0 (fun _ => true) true m 22 (([c0, c1, c2, c3, c4, c5, c6, c7, c8].drop 8).take (Try.prog.cellsOf 22)) = some y8 := hg 8 _ rfl
      rw [show Try.prog.cellsOf 22 = 1 by kernel_rfl] at g8
      have s8 : DataW.trod enc Try.prog w 0 (fun _ => true) true m 22 [c8] = some y8 := g8
      obtain ⟨v0, e0, _, w0⟩ := DataW.trod_int Try.underlying3 s0
      simp only [List.cons.injEq, and_true] at e0
      subst e0
      obtain ⟨v1, e1, _, w1⟩ := DataW.trod_int Try.underlying3 s1
      simp only [List.cons.injEq, and_true] at e1
      subst e1
      obtain ⟨v2, e2, _, w2⟩ := DataW.trod_int Try.underlying3 s2
      simp only [List.cons.injEq, and_true] at e2
      subst e2
      obtain ⟨v3, e3, _, w3⟩ := DataW.trod_int Try.underlying3 s3
      simp only [List.cons.injEq, and_true] at e3
      subst e3
      obtain ⟨v4, e4, _, w4⟩ := DataW.trod_int Try.underlying3 s4
      simp only [List.cons.injEq, and_true] at e4
      subst e4
      obtain ⟨v5, e5, _, w5⟩ := DataW.trod_int Try.underlying3 s5
      simp only [List.cons.injEq, and_true] at e5
      subst e5
      obtain ⟨v6, e6, _, w6⟩ := DataW.trod_int Try.underlying3 s6
      simp only [List.cons.injEq, and_true] at e6
      subst e6
      obtain ⟨v7, e7, _, w7⟩ := DataW.trod_int Try.underlying3 s7
      simp only [List.cons.injEq, and_true] at e7
      subst e7
      obtain ⟨v8, rfl, w8⟩ := rw_of_reads Try.underlying22 Try.underlying21 (by kernel_rfl) s8
      exact ⟨⟨v0, v1, v2, v3, v4, v5, v6, v7, v8⟩, rfl, w0, w1, w2, w3, w4, w5, w6, w7, w8⟩
theorem open_Ms15 {H : Type} {enc : TypeId × Value → H} {w : World} {r : Reach} {b0 : Nat} {v : Value} {d : DataW H} {p : List MemPlace} (hv : Value.okWide Try.prog w r b0 24 v) (h : DataW.Trod enc Try.prog w 0 (fun _ => true) true 24 v d p) :
    ∃ x : Ms15, v = .agg #[.int .i64 x.kind, .int .i64 x.n0, .int .i64 x.n1, .int .i64 x.n2, .int .i64 x.n3, .int .i64 x.n4, .int .i64 x.n5, .int .i64 x.n6, .slice x.li.a x.li.n x.li.cap] ∧ x.In w := by
  obtain ⟨cs, rfl, hsz⟩ := okWide_struct Try.underlying24 hv
  obtain ⟨fuel, hf⟩ := h
  obtain ⟨l⟩ := cs
  obtain ⟨x, e, hx⟩ := Ms15.reads _ _ _ hf
  simp only [Value.cells] at e
  subst e
  exact ⟨x, rfl, hx⟩
theorem open_rowMs15 {H : Type} {enc : TypeId × Value → H} {w : World} {r : Reach} {b0 : Nat} {v : Value} {d : DataW H} {p : List MemPlace} (hv : Value.okWide Try.prog w r b0 46 v) (h : DataW.Trod enc Try.prog w 0 (fun _ => true) true 46 v d p) :
    ∃ s : RowOf Ms15, v = .slice s.a s.n s.cap ∧ s.In Ms15.cells (fun w x => Ms15.In w x) 9 w :=
  open_rowOf Ms15.cells (fun w x => Ms15.In w x) 9 Try.underlying46 (by kernel_rfl) (by decide) Ms15.len Ms15.reads hv h

end Go.Proofs.Ytobogkilkmnpmaa
