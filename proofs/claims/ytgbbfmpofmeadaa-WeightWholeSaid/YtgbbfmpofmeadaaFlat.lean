/-
  The document's Flat: all numbers of weights, in the file's order.
-/
import Derived.Test.YtgbbfmpofmeadaaRunsAll
import Derived.Test.YtgbbfmpofmeadaaAppRow
namespace Go.Proofs.Ytgbbfmpofmeadaa
open Go.RowKit
set_option linter.unusedVariables false

/-- a row behind a row of the call's own: what of the rest of memory is so -/
theorem app_row (base : Nat) (W0 w : World) (hB : Below base W0 w) (hbase : base ≤ w.heap.size) (v : Value) (n : Nat) (xs : List Int) (hown : w.ownsRow base 56 1 v n (xs.map (.int .i8))) (q : Rw) (hq : q.In .i8 w) (hn : n ≤ 16777216) (hm : q.n ≤ 16777216) :
    ∃ v' w', Sem.run Try.prog (Builtin.append_ #[27, 27] 27 #[v, .slice q.a q.n q.cap]) w = .ok v' w' ∧ w'.ownsRow base 56 1 v' (n + q.n) ((xs ++ q.v).map (.int .i8)) ∧ Below base W0 w' ∧ ∀ g T cs, T ≠ 56 → Box w g T cs → Box w' g T cs := by
  obtain ⟨hE, h1, h2, h3⟩ := hq
  obtain ⟨v', w', hr, ho, hg, _⟩ := run_append_elems (P := Try.prog) .i8 w base 27 56 1 (by omega) Try.underlying27 info_i8 v n xs hown q.a q.n q.cap q.v hE h3.1 hn hm hbase
  refine ⟨v', w', hr, ho, hB.grown hg hbase (fun k hk => (hown.lt k hk).1), fun g T cs hT hX => hX.kept hg ?_⟩
  intro he
  rcases hown.2 with ⟨h4, _⟩ | ⟨g', c, cur, h4, _, h5, _⟩
  · rw [h4] at he; cases he
  · rw [h4] at he
    cases he
    have := h5.symm.trans hX
    simp only [Option.some.injEq, Obj.cells.injEq] at this
    exact hT this.2.1.symm

/-- numbers of rows, one row behind the other -/
def flatR (rs : List (Bool × Rw)) : List Int := rs.flatMap (fun r => r.2.v)
theorem flatR_app (a b : List (Bool × Rw)) : flatR (a ++ b) = flatR a ++ flatR b := by unfold flatR; exact List.flatMap_append
/-- rows that aren't long -/
def Small7 (W : Wt7) : Prop := (W.e.n ≤ 65536 ∧ W.t.n ≤ 65536 ∧ W.hd.n ≤ 65536) ∧ ∀ b ∈ W.bs, b.x.n ≤ 65536 ∧ b.y.n ≤ 65536 ∧ b.q.n ≤ 65536 ∧ b.k.n ≤ 65536 ∧ b.v.n ≤ 65536 ∧ b.o.n ≤ 65536 ∧ b.u.n ≤ 65536 ∧ b.d.n ≤ 65536

/-- a row of numbers of the call's own is answered -/
def OwnI8 (base : Nat) (l : List Int) (e : Ending) (w' : World) : Prop := ∃ v n, e = .returned v ∧ w'.ownsRow base 56 1 v n (l.map (.int .i8)) ∧ n ≤ 16777216

end Go.Proofs.Ytgbbfmpofmeadaa
