/-
  A copy of a row (slices.Clone of bytes); an append whose run is known; rows whose blocks stand.
-/
import Derived.Test.YtkinbngikmcpeaaAppRow
import Derived.Test.YtkinbngikmcpeaaNew7
namespace Go.Proofs.Ytkinbngikmcpeaa
open Go.RowKit
set_option linter.unusedVariables false

/-- an append whose run is known, in a region of one order -/
theorem wpList_append_run {P : Program} {w w' : World} {ops : Array Oper} {rest : List Oper} {o : Oper} {a : Act} {Q : Exit → Act → World → Prop} (hgd : o.guard = none) (s x : Operand) (t : TypeId)
    (ho : o.op = .call { callee := .builtin .append, args := #[s, x], argTypes := #[t, t] }) (v1 v2 : Value) (hs : a.eval s = v1) (hx : a.eval x = v2) {v : Value}
    (hrun : Sem.run P (Builtin.append_ #[t, t] o.type #[v1, v2]) w = .ok v w') (h : wpList P ops Q rest (a.put o.dst v) w') : wpList P ops Q (o :: rest) a w := by
  refine wpList_plain hgd fun K hK => ?_
  unfold Oper.wp execOp
  simp only [ho, resolve, invoke, builtin, Sem.run_bind, Sem.run_pure, Result.andThen_ok, List.map_toArray, List.map_cons, List.map_nil, hs, hx, hrun]
  exact hK _ _ h

/-- a row of the call's own, as a row -/
theorem own_rw {kd : IntKind} {w : World} {base : Nat} {e : TypeId} {v : Value} {n : Nat} {cs : List Int} (h : w.ownsRow base e 1 v n (cs.map (.int kd))) (hw : ∀ c ∈ cs, (Lit.int kd c).wf = true) (hn : n ≤ 9223372036854775807) :
    ∃ g : Rw, v = .slice g.a g.n g.cap ∧ g.In kd w ∧ g.v = cs ∧ g.n = n ∧ ∀ x, g.a = some x → base ≤ x.block := by
  have hl : cs.length = n := by have := h.1; simpa using this
  rcases h.2 with ⟨rfl, rfl⟩ | ⟨g, cap, cur, rfl, hb, hg, hnc, hcm, hcs, ht⟩
  · obtain rfl : cs = [] := List.length_eq_zero_iff.1 hl
    exact ⟨⟨none, 0, 0, []⟩, rfl, ⟨Elems.nil_ _ _ _, Nat.le_refl _, by omega, ⟨(fun _ => rfl), (fun x hx => by cases hx)⟩⟩, rfl, rfl, fun x hx => by cases hx⟩
  · obtain ⟨a, c, hv, hE⟩ := own_form h hn hw
    cases hv
    exact ⟨⟨some ⟨g, 0, none⟩, n, cap, cs⟩, rfl, ⟨hE, hnc, by simpa [maxLen] using hcm, ⟨(fun e => by cases e), (fun x hx _ => by cases hx; rfl)⟩⟩, rfl, rfl, fun x hx => by cases hx; exact hb⟩

/-- a row whose block stands as it stood -/
theorem rw_kept {kd : IntKind} {w w' : World} {q : Rw} (h : q.In kd w) {B : Nat} (hq : ∀ x, q.a = some x → B ≤ x.block) (hk : ∀ k, B ≤ k → k < w.heap.size → w'.heap[k]? = w.heap[k]?) : q.In kd w' :=
  ⟨⟨h.1.1, h.1.2.1, h.1.2.2.1, fun hn => let ⟨b, off, ha, hc⟩ := h.1.2.2.2 hn; ⟨b, off, ha, fun i hi => by
    have h0 := hc i hi
    rw [World.cell?_of_block (w := w) (a := ⟨b, off + i, none⟩) (hk b (hq _ ha) (World.block_lt_of_cell? _ _ h0))]
    exact h0⟩⟩, h.2⟩

/-- a copy of the row q -/
def CopyR (kd : IntKind) (q : Rw) (w : World) (e : Ending) (w' : World) : Prop :=
  (∃ g : Rw, e = .returned (.slice g.a g.n g.cap) ∧ g.In kd w' ∧ g.v = q.v ∧ g.n = q.n ∧ ∀ x, g.a = some x → w.heap.size ≤ x.block) ∧ Below w.heap.size w w'

/-- a row lies in a block of its kind that may be stored into -/
def ThT (X : TypeId) (w : World) (a : Option Addr) : Prop := ∀ x, a = some x → ∃ cs, Box w x.block X cs
theorem ThT.bel {w w' : World} {X : TypeId} {a : Option Addr} (h : ThT X w a) (hb : Below w.heap.size w w') : ThT X w' a := fun x hx => let ⟨c, hc⟩ := h x hx; ⟨c, hc.bel hb⟩
theorem thA_own {w : World} {X : TypeId} {a : Option Addr} {base sz n m c : Nat} {xs : List Value} {v : Value} (h : w.ownsRow base X sz v n xs) (e : v = .slice a m c) : ThT X w a := by
  intro x hx
  subst hx
  rcases h.2 with ⟨h1, _⟩ | ⟨g, cap, cur, h1, _, hg, _⟩
  · rw [e] at h1; cases h1
  · rw [e] at h1
    cases h1
    exact ⟨cur, hg⟩


end Go.Proofs.Ytkinbngikmcpeaa
