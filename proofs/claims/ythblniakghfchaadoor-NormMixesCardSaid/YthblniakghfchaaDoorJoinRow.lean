/-
  A row of layer 5's struct of two rows and two numbers, that comes in as a row's argument: what the walk is told of it.
-/
import Derived.Test.YthblniakghfchaaDoorRwRow
namespace Go.Proofs.YthblniakghfchaaDoor
open Go.RowKit Go.ChangeShapes Go.WideShapes Go.Deep Go.Joins
set_option linter.unusedVariables false

/-- two rows, and how the second one is brought down -/
structure Jn where
  x : Rw
  y : Rw
  b : Int
  s : Int
def Jn.val (j : Jn) : Value := .agg #[.slice j.x.a j.x.n j.x.cap, .slice j.y.a j.y.n j.y.cap, .int .i32 j.b, .int .i64 j.s]
def Jn.In (w : World) (j : Jn) : Prop := j.x.In .i32 w ∧ j.y.In .i32 w ∧ (Lit.int .i32 j.b).wf = true ∧ (Lit.int .i64 j.s).wf = true

theorem cells_joined : Tryd.prog.cellsOf 37 = 4 := by kernel_rfl

section
variable {H : Type} {enc : TypeId × Value → H} {w : World}
theorem open_joined {r : Reach} {b0 : Nat} {v : Value} {d : DataW H} {p : List MemPlace} (hv : Value.okWide Tryd.prog w r b0 37 v) (h : DataW.Trod enc Tryd.prog w 0 (fun _ => true) true 37 v d p) :
    ∃ j : Jn, v = .agg #[.slice j.x.a j.x.n j.x.cap, .slice j.y.a j.y.n j.y.cap, .int .i32 j.b, .int .i64 j.s] ∧ j.In w := by
  obtain ⟨v0, v1, v2, v3, y0, y1, y2, y3, m, rfl, _, _, h0, h1, h2, h3⟩ := open_agg4 Tryd.underlying37 (by kernel_rfl) cells_joined hv h
  obtain ⟨b, e2, _, wb⟩ := DataW.trod_int Tryd.underlying21 h2
  obtain ⟨s, e3, _, ws⟩ := DataW.trod_int Tryd.underlying3 h3
  simp only [List.cons.injEq, and_true] at e2 e3
  subst e2 e3
  obtain ⟨x, rfl, hx⟩ := rw_of_reads Tryd.underlying23 Tryd.underlying21 (by kernel_rfl) h0
  obtain ⟨y, rfl, hy⟩ := rw_of_reads Tryd.underlying23 Tryd.underlying21 (by kernel_rfl) h1
  exact ⟨⟨x, y, b, s⟩, rfl, hx, hy, wb, ws⟩
end

end Go.Proofs.YthblniakghfchaaDoor
