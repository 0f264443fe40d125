/-
  A cut that came in, as a walk is told of it.
-/
import Derived.Test.YtledjabhbakdeaaShapeRow
namespace Go.Proofs.Ytledjabhbakdeaa
open Go.RowKit Go.ChangeShapes Go.WideShapes Go.Deep Go.Joins Go.WideMaps
set_option linter.unusedVariables false

theorem cells_cut : Try.prog.cellsOf 25 = 2 := by kernel_rfl
section
variable {H : Type} {enc : TypeId × Value → H} {w : World}
set_option maxRecDepth 100000 in
theorem open_cut {r : Reach} {b0 : Nat} {v : Value} {d : DataW H} {p : List MemPlace} (hv : Value.okWide Try.prog w r b0 25 v) (h : DataW.Trod enc Try.prog w 0 (fun _ => true) true 25 v d p) :
    ∃ s q : Int, v = .agg #[.int .i64 s, .int .i64 q] ∧ ((Lit.int .i64 s).wf = true ∧ (Lit.int .i64 q).wf = true) := by
  obtain ⟨cs, rfl, hsz⟩ := okWide_struct Try.underlying25 hv
  obtain ⟨l⟩ := cs
  match l, hsz.trans cells_cut with
  | [c0, c1], _ =>
    obtain ⟨fuel, hf⟩ := h
    obtain ⟨xs, n, _, hx, _, hlen, hg⟩ := DataW.trod_struct Try.underlying25 hf
    match xs, hlen with
    | [y0, y1], _ =>
      have g0 : DataW.trod enc Try.prog w 0 (fun _ => true) true n 3 (([c0, c1].drop 0).take (Try.prog.cellsOf 3)) = some y0 := hg 0 _ rfl
      have g1 : DataW.trod enc Try.prog w 0 (fun _ => true) true n 3 (([c0, c1].drop 1).take (Try.prog.cellsOf 3)) = some y1 := hg 1 _ rfl
      rw [cells_int7] at g0 g1
      obtain ⟨z0, rfl, w0⟩ := int_of (c := c0) (y := y0) g0
      obtain ⟨z1, rfl, w1⟩ := int_of (c := c1) (y := y1) g1
      exact ⟨z0, z1, rfl, w0, w1⟩
end

end Go.Proofs.Ytledjabhbakdeaa
