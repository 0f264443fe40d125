/-
  Operations that aren't wanted, moves and picks, passed over at once: what a long condition does behind its first part that decides it.
-/
import Derived.Test.YtgbbfmpofmeadaaKit
namespace Go.Proofs.Ytgbbfmpofmeadaa
open Go.RowKit
set_option linter.unusedVariables false

/-- what a move or a decided pick answers -/
def plainV (a : Act) (o : Oper) : Option Value :=
  match o.op with
  | .move x => some (a.eval x)
  | .pick c x y => match a.eval c with
    | .bool b => some (a.eval (if b then x else y))
    | _ => none
  | .unOp .not _ x => match a.eval x with
    | .bool b => some (.bool !b)
    | _ => none
  | _ => none
/-- the frame behind operations of which each isn't wanted, a move or a decided pick -/
def passF (ops : Array Oper) : List Oper → Act → Option Act
  | [], a => some a
  | o :: rest, a => if Region.wanted o (yielded ops a.tmps) then (match plainV a o with
      | some v => passF ops rest (a.put o.dst v)
      | none => none) else passF ops rest (a.put o.dst undef)
theorem plainV_run {P : Program} {a : Act} {o : Oper} {v : Value} (h : plainV a o = some v) (w : World) : (execOp a.eval o).run P w = .ok (.value v) w := by
  unfold plainV at h
  split at h
  · next x hx =>
    cases h
    simp [execOp, hx]
  · next c x y hx =>
    split at h
    · next b hb =>
      cases h
      cases b <;> simp [execOp, hx, hb, asBool]
    · cases h
  · next t x hx =>
    split at h
    · next b hb =>
      cases h
      simp only [execOp, hx]
      rw [hb]
      rfl
    · cases h
  · cases h
theorem wpList_pass {P : Program} {ops : Array Oper} {Q : Exit → Act → World → Prop} {w : World} : ∀ (l : List Oper) (a b : Act), passF ops l a = some b → Q .normal b w → wpList P ops Q l a w
  | [], a, b, h, hQ => by
    simp only [passF, Option.some.injEq] at h
    subst h
    exact hQ
  | o :: rest, a, b, h, hQ => by
    unfold passF at h
    unfold wpList
    split at h
    · next hw =>
      rw [if_pos hw]
      refine .inl ?_
      split at h
      · next v hv =>
        unfold Oper.wp
        rw [plainV_run hv, Oper.upon_value]
        exact wpList_pass rest _ b h hQ
      · cases h
    · next hw =>
      rw [if_neg hw]
      exact wpList_pass rest _ b h hQ

/-- the same, where one slot's value alone is asked for behind them -/
theorem wpList_passQ {P : Program} {ops : Array Oper} {Q : Exit → Act → World → Prop} {w : World} (l : List Oper) (a : Act) (t n : Nat) (v : Value)
    (hs : (passF ops l a).map (fun b => (b.tmps.getD t undef, b.tmps.size, b.defers.length)) = some (v, n, 0)) (h : ∀ b : Act, b.tmps.getD t undef = v → b.tmps.size = n → b.defers.length = 0 → Q .normal b w) : wpList P ops Q l a w := by
  cases hp : passF ops l a with
  | none => rw [hp] at hs; cases hs
  | some b =>
    rw [hp] at hs
    simp only [Option.map_some, Option.some.injEq, Prod.mk.injEq] at hs
    exact wpList_pass l a b hp (h b hs.1 hs.2.1 hs.2.2)

/-- a decided condition that lays a result and returns, in a frame of which little is known -/
theorem wp_cond_lay_ret {P : Program} {Q : Exit → Act → World → Prop} {b : Act} {w : World} {id t s : Nat} {o : Oper} {y : Code} {v : Value} (h1 : b.tmps.getD t undef = .bool true) (ho : o.op = .assign (.const v)) (hd : o.dst = some s) (hg : o.guard = none) (hs : s < b.tmps.size)
    (h : ∀ b' : Act, b'.tmps.getD s undef = v → b'.defers = b.defers → Q .ret b' w) :
    Code.wp P (Code.cond (.tmp t) ((Code.region id #[o] false).seq Code.ret) y) Q b w := by
  refine wp_cond_true h1 (wp_seq (wp_region_list ?_))
  refine wpList_plain hg fun K hK => ?_
  unfold Oper.wp execOp
  simp only [ho, Sem.run_pure]
  refine hK _ _ ?_
  refine wp_ret (h _ ?_ ?_)
  · rw [hd]
    simp [Act.put, Array.getD, hs, Act.eval]
  · rw [hd]; rfl

/-- a walk stops ahead of this operation -/
theorem wpList_stop {P : Program} {ops : Array Oper} {rest : List Oper} {o : Oper} {Q : Exit → Act → World → Prop} {a : Act} {w : World} (h : Hid (wpList P ops Q (o :: rest) a w)) : wpList P ops Q (o :: rest) a w := h.out

end Go.Proofs.Ytgbbfmpofmeadaa
