/-
  What MatmulParts leans on: rows that are grown side by side, each in memory of its own; appends as runs that say where the new row lies.
-/
import Derived.Test.YtkiedganojaniaaLaw4
import Derived.Test.YtkiedganojaniaaMCols
import Derived.Test.YtkiedganojaniaaCopy8
namespace Go.Proofs.Ytkiedganojaniaa
open Go.RowKit
set_option linter.unusedVariables false

theorem info32_parts : ∃ i, Try.prog.info? 21 = some i ∧ i.zero = some (.int .i32 0) ∧ i.size = 1 ∧ i.bytes = 4 := by
  have h := info_int32
  cases hh : Try.prog.info? 21 with
  | none => rw [hh] at h; cases h
  | some i =>
    rw [hh] at h
    simp only [Option.map_some, Option.some.injEq, Prod.mk.injEq] at h
    exact ⟨i, rfl, h.1, h.2.1, h.2.2⟩

/-- one number more, behind a row of the call's own, and where the row lies then -/
theorem run_append_one_at (w : World) (base : Nat) (v : Value) (m : Nat) (cs : List Int) (x : Int) (hown : w.ownsRow base 21 1 v m (cs.map (.int .i32))) (hm : m ≤ 16777216) (hbase : base ≤ w.heap.size) :
    ∃ v' w', Sem.run Try.prog (Builtin.append_ #[27, 27] 27 #[v, .slice (some ⟨w.heap.size, 0, none⟩) 1 1]) (w.alloc (.cells #[.int .i32 x] 21)).drew = .ok v' w' ∧
      w'.ownsRow base 21 1 v' (m + 1) ((cs ++ [x]).map (.int .i32)) ∧ w.grownBy w' v.ownBlock ∧ (v'.ownBlock = v.ownBlock ∨ v'.ownBlock = some (w.heap.size + 1)) ∧ w.heap.size < w'.heap.size := by
  obtain ⟨i0, hi, hz0, hz1, hz2⟩ := info32_parts
  have hown2 : (w.alloc (.cells #[.int .i32 x] 21)).drew.ownsRow base 21 1 v m (cs.map (.int .i32)) := hown.alloc _
  obtain ⟨v', w', hr, h2, h3, _, h4⟩ := run_append_own_at (P := Try.prog) (w.alloc (.cells #[.int .i32 x] 21)).drew base 27 27 21 i0 _ 1 4 Try.underlying27 hi hz0 hz1 hz2 rfl (by omega) v m _ hown2
    ⟨w.heap.size, 0, none⟩ 1 1 [.int .i32 x] rfl (World.news_of_block (cs := #[.int .i32 x]) (t := 21) (fr := (0, 0)) (heap_alloc_new w _)) one_cell (by unfold maxLen; omega) (by omega) (by simp [World.drew]; omega)
  have hg : w.grownBy w' v.ownBlock := ((World.grownBy_alloc w _ _).trans (grownBy_drew _ _)).trans h3
  refine ⟨v', w', hr, by simpa using h2, hg, ?_, ?_⟩
  · rcases h4 with h4 | h4
    · exact .inl h4
    · exact .inr (by rw [h4]; simp [World.drew])
  · have := h3.size
    simp [World.drew] at this
    omega

/-- a row more, behind a row of the call's own -/
theorem run_append_row (w : World) (base : Nat) (v : Value) (m : Nat) (cs : List Int) (g n cap : Nat) (ys : List Int) (hown : w.ownsRow base 21 1 v m (cs.map (.int .i32))) (hE : Elems .i32 w (some ⟨g, 0, none⟩) n ys) (hm : m ≤ 16777216) (hn : n ≤ 16777216) (hbase : base ≤ w.heap.size) :
    ∃ v' w', Sem.run Try.prog (Builtin.append_ #[27, 27] 27 #[v, .slice (some ⟨g, 0, none⟩) n cap]) w = .ok v' w' ∧
      w'.ownsRow base 21 1 v' (m + n) ((cs ++ ys).map (.int .i32)) ∧ w.grownBy w' v.ownBlock ∧ (v'.ownBlock = v.ownBlock ∨ v'.ownBlock = some w.heap.size) := by
  obtain ⟨i0, hi, hz0, hz1, hz2⟩ := info32_parts
  obtain ⟨v', w', hr, h2, h3, _, h4⟩ := run_append_own_at (P := Try.prog) w base 27 27 21 i0 _ 1 4 Try.underlying27 hi hz0 hz1 hz2 rfl (by omega) v m _ hown
    ⟨g, 0, none⟩ n cap (ys.map (.int .i32)) (by rw [List.length_map, hE.1, Nat.mul_one]) hE.news (ints_one ys) (by unfold maxLen; omega) (by omega) hbase
  exact ⟨v', w', hr, by rw [List.map_append]; exact h2, h3, h4⟩

/-- R rows that are grown side by side: their values lie in block S, each row in a block of its own -/
structure Rows32 (base S R : Nat) (len : Nat → Nat) (f : Nat → List Int) (vs : List Value) (wr : World) : Prop where
  blk : wr.heap[S]? = some (.cells vs.toArray 27 (0, 0))
  len_ : vs.length = R
  lt : S < base
  le : base ≤ wr.heap.size
  own : ∀ (r : Nat) (v : Value), vs[r]? = some v → wr.ownsRow base 21 1 v (len r) ((f r).map (.int .i32))
  dis : ∀ (r r' : Nat) (v v' : Value), vs[r]? = some v → vs[r']? = some v' → r ≠ r' → ∀ b, v.ownBlock = some b → v'.ownBlock ≠ some b

section
variable {base S R : Nat} {len : Nat → Nat} {f : Nat → List Int} {vs : List Value} {wr wc : World}

/-- a stretch that turned block 'row' alone, which is none of theirs -/
theorem Rows32.kept (h : Rows32 base S R len f vs wr) {row : Option Nat} (hg : wr.grownBy wc row) (h1 : some S ≠ row) (h2 : ∀ (r : Nat) (v : Value) (b : Nat), vs[r]? = some v → v.ownBlock = some b → some b ≠ row) : Rows32 base S R len f vs wc := by
  refine ⟨?_, h.len_, h.lt, Nat.le_trans h.le hg.size, fun r v hv => ?_, h.dis⟩
  · exact (hg.block S (Nat.lt_of_lt_of_le h.lt h.le) h1).trans h.blk
  · refine (h.own r v hv).kept hg ?_
    cases hb : v.ownBlock with
    | none => exact .inl rfl
    | some b => exact .inr (h2 r v b hv hb)
theorem Rows32.below (h : Rows32 base S R len f vs wr) (hb : Below wr.heap.size wr wc) : Rows32 base S R len f vs wc := h.kept (grownBy_below hb none) (by simp) (fun _ _ _ _ _ => by simp)
/-- a row's value, where it lies -/
theorem Rows32.cell (h : Rows32 base S R len f vs wr) {r : Nat} (hr : r < R) : ∃ v, vs[r]? = some v ∧ wr.cell? ⟨S, r, none⟩ = some v ∧ wr.frozen? ⟨S, r, none⟩ = false := by
  have hl := h.len_
  refine ⟨vs[r]'(by omega), List.getElem?_eq_getElem (by omega), ?_, frozen_of_row wr S r _ _ h.blk⟩
  rw [cell_of_row wr S r _ _ (0, 0) h.blk]
  simp [show r < vs.length by omega]
theorem Rows32.blt (h : Rows32 base S R len f vs wr) {r b : Nat} {v : Value} (hv : vs[r]? = some v) (hb : v.ownBlock = some b) : base ≤ b ∧ b < wr.heap.size := (h.own r v hv).lt b hb
end

/-- one number more in row r -/
theorem Rows32.next {base S R : Nat} {len : Nat → Nat} {f : Nat → List Int} {vs : List Value} {wr : World} (h : Rows32 base S R len f vs wr) {r : Nat} {v : Value} (hv : vs[r]? = some v) (hr : r < R) (x : Int) (hl : len r ≤ 16777216) :
    ∃ v' w', Sem.run Try.prog (Builtin.append_ #[27, 27] 27 #[v, .slice (some ⟨wr.heap.size, 0, none⟩) 1 1]) (wr.alloc (.cells #[.int .i32 x] 21)).drew = .ok v' w' ∧ wr.grownBy w' v.ownBlock ∧
      (∀ (len' : Nat → Nat) (f' : Nat → List Int), len' r = len r + 1 → f' r = f r ++ [x] → (∀ q, q ≠ r → len' q = len q ∧ f' q = f q) → Rows32 base S R len' f' (vs.set r v') (w'.setCell ⟨S, r, none⟩ v')) ∧ (v'.ownBlock = v.ownBlock ∨ v'.ownBlock = some (wr.heap.size + 1)) := by
  obtain ⟨v', w', hrun, hown, hg, hnew, hlt⟩ := run_append_one_at wr base v (len r) (f r) x (h.own r v hv) hl h.le
  refine ⟨v', w', hrun, hg, fun len' f' e1 e2 e3 => ?_, hnew⟩
  have hSne : ∀ b, v.ownBlock = some b → some S ≠ some b := fun b hb e => by
    have := (h.blt hv hb).1; have := h.lt; have := Option.some.inj e; omega
  have hS' : some S ≠ v.ownBlock := by
    cases hb : v.ownBlock with
    | none => simp
    | some b => exact hSne b hb
  have hblk : w'.heap[S]? = some (.cells vs.toArray 27 (0, 0)) := (hg.block S (Nat.lt_of_lt_of_le h.lt h.le) hS').trans h.blk
  have hset := grownBy_setCell w' S r v'
  have hvl := h.len_
  refine ⟨?_, by simpa using hvl, h.lt, Nat.le_trans h.le (Nat.le_trans hg.size hset.size), fun q u hu => ?_, fun q q' u u' hu hu' hne b hb => ?_⟩
  · have := heap_setCell_same w' S r _ 27 v' hblk
    rw [this]; simp
  · rw [List.getElem?_set] at hu
    by_cases e : r = q
    · subst e
      rw [if_pos rfl, if_pos (by omega)] at hu
      cases hu
      rw [e1, e2]
      exact own_grown hown hset (by have := h.lt; omega)
    · rw [if_neg e] at hu
      obtain ⟨x1, x2⟩ := e3 q (fun e' => e e'.symm)
      rw [x1, x2]
      have hk : w'.ownsRow base 21 1 u (len q) ((f q).map (.int .i32)) := (h.own q u hu).kept hg (by
        cases hb : u.ownBlock with
        | none => exact .inl rfl
        | some b => exact .inr (fun e' => h.dis q r u v hu hv (fun e'' => e e''.symm) b hb e'.symm))
      exact own_grown hk hset (by have := h.lt; omega)
  · rw [List.getElem?_set] at hu hu'
    by_cases e : r = q
    · subst e
      rw [if_pos rfl, if_pos (by omega)] at hu
      cases hu
      rw [if_neg (fun e' => hne e')] at hu'
      intro hb'
      rcases hnew with e2 | e2
      · rw [e2] at hb; exact h.dis r q' v u' hv hu' hne b hb hb'
      · rw [hb] at e2
        have := (h.blt hu' hb').2
        have := Option.some.inj e2
        omega
    · rw [if_neg e] at hu
      by_cases e' : r = q'
      · subst e'
        rw [if_pos rfl, if_pos (by omega)] at hu'
        cases hu'
        intro hb'
        rcases hnew with e2 | e2
        · rw [e2] at hb'; exact h.dis q r u v hu hv hne b hb hb'
        · rw [hb'] at e2
          have := (h.blt hu hb).2
          have := Option.some.inj e2
          omega
      · rw [if_neg e'] at hu'
        exact h.dis q q' u u' hu hu' hne b hb

end Go.Proofs.Ytkiedganojaniaa
