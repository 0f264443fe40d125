/-
  Arguments of stage 7 as a walk is told of them: a shape, an array of six ints, how a file is turned.
-/
import Derived.Test.YtgbbfmpofmeadaaRwRow
import Derived.WideKeyArr
import Derived.ChangeArms
namespace Go.Proofs.Ytgbbfmpofmeadaa
open Go.RowKit Go.ChangeShapes Go.WideShapes Go.Deep Go.Joins Go.WideMaps
set_option linter.unusedVariables false

/-- six ints of 64 bits -/
def Six (l w h i v p : Int) : Prop := (Lit.int .i64 l).wf = true ∧ (Lit.int .i64 w).wf = true ∧ (Lit.int .i64 h).wf = true ∧ (Lit.int .i64 i).wf = true ∧ (Lit.int .i64 v).wf = true ∧ (Lit.int .i64 p).wf = true

theorem cells_shape : Try.prog.cellsOf 25 = 6 := by kernel_rfl
theorem cells_int7 : Try.prog.cellsOf 3 = 1 := by kernel_rfl
theorem cells_six : Try.prog.cellsOf 22 = 6 := by kernel_rfl

section
variable {H : Type} {enc : TypeId × Value → H} {w : World}

set_option maxRecDepth 100000 in
theorem int_of {n : Nat} {c : Value} {y : DataW H × List MemPlace} (h : DataW.trod enc Try.prog w 0 (fun _ => true) true n 3 [c] = some y) : ∃ z : Int, c = .int .i64 z ∧ (Lit.int .i64 z).wf = true := by
  obtain ⟨b, e2, _, wb⟩ := DataW.trod_int Try.underlying3 h
  simp only [List.cons.injEq, and_true] at e2
  exact ⟨b, e2, wb⟩

set_option maxRecDepth 100000 in
theorem open_shape {r : Reach} {b0 : Nat} {v : Value} {d : DataW H} {p : List MemPlace} (hv : Value.okWide Try.prog w r b0 25 v) (h : DataW.Trod enc Try.prog w 0 (fun _ => true) true 25 v d p) :
    ∃ l w0 h0 i v0 p0 : Int, v = .agg #[.int .i64 l, .int .i64 w0, .int .i64 h0, .int .i64 i, .int .i64 v0, .int .i64 p0] ∧ Six l w0 h0 i v0 p0 := by
  obtain ⟨cs, rfl, hsz⟩ := okWide_struct Try.underlying25 hv
  obtain ⟨l⟩ := cs
  match l, hsz.trans cells_shape with
  | [c0, c1, c2, c3, c4, c5], _ =>
    obtain ⟨fuel, hf⟩ := h
    obtain ⟨xs, n, _, hx, _, hlen, hg⟩ := DataW.trod_struct Try.underlying25 hf
    match xs, hlen with
    | [y0, y1, y2, y3, y4, y5], _ =>
      have g0 : DataW.trod enc Try.prog w 0 (fun _ => true) true n 3 (([c0, c1, c2, c3, c4, c5].drop 0).take (Try.prog.cellsOf 3)) = some y0 := hg 0 _ rfl
      have g1 : DataW.trod enc Try.prog w 0 (fun _ => true) true n 3 (([c0, c1, c2, c3, c4, c5].drop 1).take (Try.prog.cellsOf 3)) = some y1 := hg 1 _ rfl
      have g2 : DataW.trod enc Try.prog w 0 (fun _ => true) true n 3 (([c0, c1, c2, c3, c4, c5].drop 2).take (Try.prog.cellsOf 3)) = some y2 := hg 2 _ rfl
      have g3 : DataW.trod enc Try.prog w 0 (fun _ => true) true n 3 (([c0, c1, c2, c3, c4, c5].drop 3).take (Try.prog.cellsOf 3)) = some y3 := hg 3 _ rfl
      have g4 : DataW.trod enc Try.prog w 0 (fun _ => true) true n 3 (([c0, c1, c2, c3, c4, c5].drop 4).take (Try.prog.cellsOf 3)) = some y4 := hg 4 _ rfl
      have g5 : DataW.trod enc Try.prog w 0 (fun _ => true) true n 3 (([c0, c1, c2, c3, c4, c5].drop 5).take (Try.prog.cellsOf 3)) = some y5 := hg 5 _ rfl
      rw [cells_int7] at g0 g1 g2 g3 g4 g5
      obtain ⟨z0, rfl, w0⟩ := int_of (c := c0) (y := y0) g0
      obtain ⟨z1, rfl, w1⟩ := int_of (c := c1) (y := y1) g1
      obtain ⟨z2, rfl, w2⟩ := int_of (c := c2) (y := y2) g2
      obtain ⟨z3, rfl, w3⟩ := int_of (c := c3) (y := y3) g3
      obtain ⟨z4, rfl, w4⟩ := int_of (c := c4) (y := y4) g4
      obtain ⟨z5, rfl, w5⟩ := int_of (c := c5) (y := y5) g5
      exact ⟨z0, z1, z2, z3, z4, z5, rfl, w0, w1, w2, w3, w4, w5⟩

theorem arr6 : ArrKey Try.prog 22 3 6 := ⟨Try.underlying22, by kernel_rfl, by kernel_rfl, by kernel_rfl⟩
set_option maxRecDepth 100000 in
theorem open_six {r : Reach} {b0 : Nat} {v : Value} {d : DataW H} {p : List MemPlace} (hv : Value.okWide Try.prog w r b0 22 v) (h : DataW.Trod enc Try.prog w 0 (fun _ => true) true 22 v d p) :
    ∃ l w0 h0 i v0 p0 : Int, v = .agg #[.int .i64 l, .int .i64 w0, .int .i64 h0, .int .i64 i, .int .i64 v0, .int .i64 p0] ∧ Six l w0 h0 i v0 p0 := by
  have A := arr6
  simp only [Value.okWide, A.hu] at hv
  obtain ⟨cs, rfl, h2, _⟩ := hv
  rw [A.size] at h2
  obtain ⟨l⟩ := cs
  match l, h2 with
  | [c0, c1, c2, c3, c4, c5], _ =>
    obtain ⟨fuel, hf⟩ := h
    cases fuel with
    | zero => simp [DataW.trod] at hf
    | succ n =>
      rw [DataW.trod_step] at hf
      unfold DataW.trodStep at hf
      simp only [A.hu, Value.cells] at hf
      rw [if_pos (by rw [A.size]; rfl)] at hf
      simp only [Option.map_eq_some_iff] at hf
      obtain ⟨xs, hx, e1⟩ := hf
      rw [show List.range 6 = [0, 1, 2, 3, 4, 5] from rfl, List.mapM_cons, List.mapM_cons, List.mapM_cons, List.mapM_cons, List.mapM_cons, List.mapM_cons, List.mapM_nil] at hx
      simp only [bind, Option.bind_eq_some_iff, pure, Option.some.injEq, A.one] at hx
      obtain ⟨y0, g0, _, ⟨y1, g1, _, ⟨y2, g2, _, ⟨y3, g3, _, ⟨y4, g4, _, ⟨y5, g5, _⟩, _⟩, _⟩, _⟩, _⟩, _⟩ := hx
      obtain ⟨z0, rfl, w0⟩ := int_of (c := c0) (y := y0) g0
      obtain ⟨z1, rfl, w1⟩ := int_of (c := c1) (y := y1) g1
      obtain ⟨z2, rfl, w2⟩ := int_of (c := c2) (y := y2) g2
      obtain ⟨z3, rfl, w3⟩ := int_of (c := c3) (y := y3) g3
      obtain ⟨z4, rfl, w4⟩ := int_of (c := c4) (y := y4) g4
      obtain ⟨z5, rfl, w5⟩ := int_of (c := c5) (y := y5) g5
      exact ⟨z0, z1, z2, z3, z4, z5, rfl, w0, w1, w2, w3, w4, w5⟩

end

end Go.Proofs.Ytgbbfmpofmeadaa
