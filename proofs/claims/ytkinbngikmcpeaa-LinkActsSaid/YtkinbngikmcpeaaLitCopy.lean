/-
  append([]T{}, xs...) step by step: an empty literal, then its append: nothing that was there before is touched.
-/
import Derived.Test.YtkinbngikmcpeaaClone8
import Derived.ArgAppend
namespace Go.Proofs.Ytkinbngikmcpeaa
open Go.RowKit
set_option linter.unusedVariables false

/-- what such an append leaves: a copy g of q -/
def LitR (kd : IntKind) (e : TypeId) (q : Rw) (b : Nat) (w : World) (g : Rw) (w' : World) : Prop :=
  g.In kd w' ∧ g.v = q.v ∧ g.n = q.n ∧ ThT e w' g.a ∧ Below w.heap.size w w' ∧ ∀ x, g.a = some x → x.block = b ∨ w.heap.size ≤ x.block
theorem run_lit_copy {P : Program} (kd : IntKind) (w : World) (t e : TypeId) (bytes : Nat) (hb8 : bytes ≤ 8) (ht : P.underlying t = some (.slice e)) (hi : ∃ i, P.info? e = some i ∧ i.zero = some (.int kd 0) ∧ i.size = 1 ∧ i.bytes = bytes)
    (b : Nat) (hbx : Box w b e #[]) (q : Rw) (hq : q.In kd w) (hn : q.n ≤ 65536) :
    ∃ (g : Rw) (w' : World), Sem.run P (Builtin.append_ #[t, t] t #[.slice (some ⟨b, 0, none⟩) 0 0, .slice q.a q.n q.cap]) w = .ok (.slice g.a g.n g.cap) w' ∧ LitR kd e q b w g w' := by
  have hown : w.ownsRow b e 1 (.slice (some ⟨b, 0, none⟩) 0 0) 0 (([] : List Int).map (.int kd)) := ⟨rfl, .inr ⟨b, 0, #[], rfl, Nat.le_refl _, hbx, Nat.le_refl _, by unfold maxLen; omega, rfl, rfl⟩⟩
  obtain ⟨v', w', hr, ho, hg, hv⟩ := run_append_elems (P := P) kd w b t e bytes hb8 ht hi _ 0 [] hown q.a q.n q.cap q.v hq.1 hq.2.2.2.1 (by omega) (by omega) (Nat.le_of_lt hbx.lt)
  have hth : ∀ (g : Rw), v' = .slice g.a g.n g.cap → ThT e w' g.a := fun g e => thA_own ho e
  have hbl : Below w.heap.size w w' := by
    by_cases h0 : q.n = 0
    · have hE : ∃ v2, Sem.run P (Builtin.append_ #[t, t] t #[.slice (some ⟨b, 0, none⟩) 0 0, .slice q.a q.n q.cap]) w = .ok v2 w := by
        obtain ⟨i0, hi, hz0, hz1, hz2⟩ := hi
        obtain ⟨a, n, c, xs⟩ := q
        simp only at h0 hq ⊢
        subst h0
        cases a with
        | none =>
          obtain rfl : c = 0 := hq.2.2.2.1 rfl
          exact ⟨_, run_append_owned_none w b t t e i0 1 ht hi _ 0 _ hown⟩
        | some ad => exact ⟨_, run_append_room_cells (P := P) (w := w) t t e i0 ht hi b 0 0 0 ad 0 c [] (by simp) (by simp) (by simp) (by omega) (by simp) (by simp)⟩
      obtain ⟨v2, h2⟩ := hE
      rw [hr] at h2
      simp only [Result.ok.injEq] at h2
      rw [h2.2]
      exact Below.refl _ _
    · obtain ⟨i0, hi, hz0, hz1, hz2⟩ := hi
      obtain ⟨b2, off, ha, hc⟩ := hq.1.2.2.2 (by omega)
      rw [ha] at hr
      have hE : Elems kd w (some ⟨b2, off, none⟩) q.n q.v := by rw [← ha]; exact hq.1
      have e2 := run_append_grow (P := P) (w := w) t t e i0 _ ht hi hz0 ⟨b, 0, none⟩ 0 0 [] (by simp) (by simp) ⟨b2, off, none⟩ q.n q.cap (q.v.map (.int kd)) (by rw [List.length_map, hq.1.1, hz1, Nat.mul_one]) (fun j u hu => hE.news j u hu) (by omega) (by omega)
        (by have h9 := nextslicecap_le (need := 0 + q.n) (old := 0) (by omega); have := Nat.mul_le_mul h9 (show i0.bytes ≤ 8 by omega); omega)
      rw [hr] at e2
      simp only [Result.ok.injEq] at e2
      rw [e2.2]
      exact ((Below.refl _ _).drew).alloc (Nat.le_refl _) _
  obtain ⟨g, rfl, hgi, hgv, hgn, hgb⟩ := own_rw ho (by simpa using hq.1.2.2.1) (by omega)
  refine ⟨g, w', hr, hgi, by simpa using hgv, by simpa using hgn, hth g rfl, hbl, fun x hx => ?_⟩
  rcases hv with hv | hv
  · left; simpa [hx, Value.ownBlock] using hv
  · right
    have : x.block = w.heap.size := by simpa [hx, Value.ownBlock] using hv
    omega

/-- such an append at a step of a region that draws its order -/
theorem step_append_lit {P : Program} {w : World} {ops : Array Oper} {o : Oper} {a : Act} {K : Act → World → Prop} {Q : Exit → Act → World → Prop} {E : Prop} (hgd : o.guard = none) (s x : Operand) (t : TypeId)
    (ho : o.op = .call { callee := .builtin .append, args := #[s, x], argTypes := #[t, t] }) (hty : o.type = t) (kd : IntKind) (e : TypeId) (bytes : Nat) (hb8 : bytes ≤ 8) (ht : P.underlying t = some (.slice e)) (hi : ∃ i, P.info? e = some i ∧ i.zero = some (.int kd 0) ∧ i.size = 1 ∧ i.bytes = bytes)
    (b : Nat) (hs : a.eval s = .slice (some ⟨b, 0, none⟩) 0 0) (hbx : Box w b e #[]) (q : Rw) (hx : a.eval x = .slice q.a q.n q.cap) (hq : q.In kd w) (hn : q.n ≤ 65536)
    (h : ∀ g w', LitR kd e q b w g w' → K (a.put o.dst (.slice g.a g.n g.cap)) w') :
    if Region.wanted o (yielded ops a.tmps) = true then Oper.wp P o a w K Q else E := by
  have hw : Region.wanted o (yielded ops a.tmps) = true := by simp [Region.wanted, hgd]
  rw [if_pos hw]
  obtain ⟨g, w', hr, hL⟩ := run_lit_copy (P := P) kd w t e bytes hb8 ht hi b hbx q hq hn
  unfold Oper.wp execOp
  simp only [ho, hty, resolve, invoke, builtin, Sem.run_bind, Sem.run_pure, Result.andThen_ok, List.map_toArray, List.map_cons, List.map_nil, hs, hx, hr]
  exact h g w' hL

/-- the same, by what stood at the region's head -/
theorem step_append_lit2 {P : Program} {w : World} {ops : Array Oper} {o : Oper} {a : Act} {K : Act → World → Prop} {Q : Exit → Act → World → Prop} {E : Prop} (hgd : o.guard = none) (s x : Operand) (t : TypeId)
    (ho : o.op = .call { callee := .builtin .append, args := #[s, x], argTypes := #[t, t] }) (hty : o.type = t) (kd : IntKind) (e : TypeId) (bytes : Nat) (hb8 : bytes ≤ 8) (ht : P.underlying t = some (.slice e)) (hi : ∃ i, P.info? e = some i ∧ i.zero = some (.int kd 0) ∧ i.size = 1 ∧ i.bytes = bytes)
    (w0 : World) (q : Rw) (hq : q.In kd w0) (hn : q.n ≤ 65536) (b : Nat) (hs : a.eval s = .slice (some ⟨b, 0, none⟩) 0 0) (hx : a.eval x = .slice q.a q.n q.cap) (hbx : Box w b e #[]) (hB : Below w0.heap.size w0 w) (hb0 : w0.heap.size ≤ b)
    (h : ∀ g w', LitR kd e q b w g w' → Below w0.heap.size w0 w' → (∀ x, g.a = some x → w0.heap.size ≤ x.block) → K (a.put o.dst (.slice g.a g.n g.cap)) w') :
    if Region.wanted o (yielded ops a.tmps) = true then Oper.wp P o a w K Q else E :=
  step_append_lit hgd s x t ho hty kd e bytes hb8 ht hi b hs hbx q hx (hq.below hB) hn fun g w' hL => h g w' hL (below_two hB hL.2.2.2.2.1) (fun x hx => by
    have hs := hB.size
    rcases hL.2.2.2.2.2 x hx with e | e <;> omega)

end Go.Proofs.Ytkinbngikmcpeaa
