/-
  Two rows of bytes, an array that comes in as a row's argument.
-/
import Derived.Test.YtpcnikbggpodgaaRowOf
namespace Go.Proofs.Ytpcnikbggpodgaa
open Go.RowKit Go.ChangeShapes Go.WideShapes Go.Deep Go.Joins
set_option linter.unusedVariables false

structure Bd14 where
  p : Rw
  q : Rw
  deriving Inhabited
def Bd14.In (w : World) (x : Bd14) : Prop := x.p.In .u8 w ∧ x.q.In .u8 w
theorem Bd14.In.below {w w' : World} {x : Bd14} (h : x.In w) (hb : Below w.heap.size w w') : x.In w' := ⟨h.1.below hb, h.2.below hb⟩
set_option maxRecDepth 100000 in
theorem open_Bd14 {H : Type} {enc : TypeId × Value → H} {w : World} {r : Reach} {b0 : Nat} {v : Value} {d : DataW H} {p : List MemPlace} (hv : Value.okWide Try.prog w r b0 41 v) (h : DataW.Trod enc Try.prog w 0 (fun _ => true) true 41 v d p) :
    ∃ x : Bd14, v = .agg #[.slice x.p.a x.p.n x.p.cap, .slice x.q.a x.q.n x.q.cap] ∧ x.In w := by
  simp only [Value.okWide, Try.underlying41] at hv
  obtain ⟨cs, rfl, h2, _⟩ := hv
  have h3 : cs.size = 2 := h2.trans (by kernel_rfl)
  obtain ⟨l⟩ := cs
  obtain ⟨fuel, hf⟩ := h
  obtain ⟨ys, m, _, _, _, hlen, hg⟩ := DataW.trod_array Try.underlying41 hf
  match l, h3 with
  | [c0, c1], _ =>
    match ys, hlen with
    | [y0, y1], _ =>
      have g0 := hg 0 (by omega)
      have g1 := hg 1 (by omega)
      rw [show Try.prog.cellsOf 22 = 1 by kernel_rfl] at g0 g1
      have s0 : DataW.trod enc Try.prog w 0 (fun _ => true) true m 22 [c0] = some y0 := g0
      have s1 : DataW.trod enc Try.prog w 0 (fun _ => true) true m 22 [c1] = some y1 := g1
      obtain ⟨v0, rfl, w0⟩ := rw_of_reads Try.underlying22 Try.underlying5 (by kernel_rfl) s0
      obtain ⟨v1, rfl, w1⟩ := rw_of_reads Try.underlying22 Try.underlying5 (by kernel_rfl) s1
      exact ⟨⟨v0, v1⟩, rfl, w0, w1⟩

end Go.Proofs.Ytpcnikbggpodgaa
