/-
  What the document's Stack, Add and Beside keep while they build a grid: the result's cells, the grid that is built (in block o), its numbers so far.
-/
import Derived.Test.YtocjcfblpifdhaaRefTimes
import Derived.Test.YtocjcfblpifdhaaCopied
import Derived.Test.YtocjcfblpifdhaaStack
namespace Go.Proofs.Ytocjcfblpifdhaa
open Go.RowKit
set_option linter.unusedVariables false

structure StkInv (w : World) (o : Nat) (R C : Int) (u : Value) (cs : List Int) (wr : World) : Prop where
  b2 : Box3 wr w.heap.size (.int .i64 0) (.int .i64 0) (.slice none 0 0)
  b3 : Box3 wr o (.int .i64 R) (.int .i64 C) u
  own : wr.ownsRow (o + 1) 21 1 u cs.length (cs.map (.int .i32))
  bel : Below w.heap.size w wr
  lt : w.heap.size < o
  sz : o + 1 ≤ wr.heap.size

theorem StkInv.below {w : World} {o : Nat} {R C : Int} {u : Value} {cs : List Int} {wr wc : World} (h : StkInv w o R C u cs wr) (hb : Below wr.heap.size wr wc) : StkInv w o R C u cs wc :=
  ⟨h.b2.below hb, h.b3.below hb, own_below h.own hb, below_two h.bel hb, h.lt, Nat.le_trans h.sz hb.size⟩
theorem StkInv.drew {w : World} {o : Nat} {R C : Int} {u : Value} {cs : List Int} {wr : World} (h : StkInv w o R C u cs wr) : StkInv w o R C u cs wr.drew := h.below ((Below.refl _ _).drew)

theorem Box3.set0 {w : World} {b : Nat} {p q r : Value} (h : Box3 w b p q r) (v : Value) : Box3 (w.setCell ⟨b, 0, none⟩ v) b v q r := by
  obtain ⟨h1, c0, c1, c2, f0, f1, f2⟩ := h
  refine ⟨by simpa using h1, World.cell?_setCell_same _ _ _ c0, ?_, ?_, ?_, ?_, ?_⟩
  · rw [World.cell?_setCell_other _ _ _ _ (by simp)]; exact c1
  · rw [World.cell?_setCell_other _ _ _ _ (by simp)]; exact c2
  · rw [World.frozen?_setCell]; exact f0
  · rw [World.frozen?_setCell]; exact f1
  · rw [World.frozen?_setCell]; exact f2
theorem Box3.set1 {w : World} {b : Nat} {p q r : Value} (h : Box3 w b p q r) (v : Value) : Box3 (w.setCell ⟨b, 1, none⟩ v) b p v r := by
  obtain ⟨h1, c0, c1, c2, f0, f1, f2⟩ := h
  refine ⟨by simpa using h1, ?_, World.cell?_setCell_same _ _ _ c1, ?_, ?_, ?_, ?_⟩
  · rw [World.cell?_setCell_other _ _ _ _ (by simp)]; exact c0
  · rw [World.cell?_setCell_other _ _ _ _ (by simp)]; exact c2
  · rw [World.frozen?_setCell]; exact f0
  · rw [World.frozen?_setCell]; exact f1
  · rw [World.frozen?_setCell]; exact f2

/-- the sides are stored anew -/
theorem StkInv.set01 {w : World} {o : Nat} {R C : Int} {u : Value} {cs : List Int} {wr : World} (h : StkInv w o R C u cs wr) (R' C' : Int) :
    StkInv w o R' C' u cs ((wr.setCell ⟨o, 0, none⟩ (.int .i64 R')).setCell ⟨o, 1, none⟩ (.int .i64 C')) := by
  have hlo := h.lt
  have hg : wr.grownBy ((wr.setCell ⟨o, 0, none⟩ (.int .i64 R')).setCell ⟨o, 1, none⟩ (.int .i64 C')) (some o) := (grownBy_setCell wr o 0 _).trans (grownBy_setCell _ o 1 _)
  exact ⟨h.b2.kept hg (by simp; omega), (h.b3.set0 _).set1 _, own_grown h.own hg (by omega), (h.bel.setCell (p := ⟨o, 0, none⟩) (by simp; omega) _).setCell (p := ⟨o, 1, none⟩) (by simp; omega) _, hlo, by have := h.sz; simpa using this⟩

/-- one number more -/
theorem StkInv.next {w : World} {o : Nat} {R C : Int} {u : Value} {cs : List Int} {wc : World} (h : StkInv w o R C u cs wc) (x : Int) (hl : cs.length ≤ 16777216) :
    ∃ g cap w', Sem.run Try.prog (Builtin.append_ #[22, 22] 22 #[u, .slice (some ⟨wc.heap.size, 0, none⟩) 1 1]) (wc.alloc (.cells #[.int .i32 x] 21)) = .ok (.slice (some ⟨g, 0, none⟩) (cs.length + 1) cap) w' ∧
      Box3 w' o (.int .i64 R) (.int .i64 C) u ∧
      StkInv w o R C (.slice (some ⟨g, 0, none⟩) (cs.length + 1) cap) (cs ++ [x]) (w'.setCell ⟨o, 2, none⟩ (.slice (some ⟨g, 0, none⟩) (cs.length + 1) cap)) := by
  have own2 := h.own
  have hs := h.sz
  have hlo := h.lt
  obtain ⟨g, cap, w', hr, hown, hg, hlt⟩ := run_append_one wc _ u cs.length cs x own2 hl (by omega)
  have hne : ∀ b, b < o + 1 → some b ≠ u.ownBlock := fun b hb' e => by
    have := (own2.lt b e.symm).1
    omega
  have d2 := h.b2.kept hg (hne _ (by omega))
  have d3 := h.b3.kept hg (hne _ (by omega))
  have hset := grownBy_setCell w' o 2 (.slice (some ⟨g, 0, none⟩) (cs.length + 1) cap)
  refine ⟨g, cap, w', hr, d3, d2.kept hset (by simp; omega), d3.set2 _, ?_, ?_, hlo, ?_⟩
  · rw [List.length_append, List.length_singleton]
    exact own_grown hown hset (by omega)
  · have hB : Below w.heap.size w w' := h.bel.grown hg (by omega) (fun k hk => by have := (own2.lt k hk).1; omega)
    exact hB.setCell (p := ⟨o, 2, none⟩) (by simp; omega) _
  · simp; omega

/-- some numbers more: the append of a slice that lies elsewhere, none too -/
theorem StkInv.app {w : World} {o : Nat} {R C : Int} {u : Value} {cs : List Int} {wc : World} (h : StkInv w o R C u cs wc) (a : Option Addr) (n cap : Nat) (xs : List Int) (hE : Elems .i32 wc a n xs) (hSl : Sl a cap) (hcap : n ≤ cap) (hn : n ≤ 400) (hl : cs.length ≤ 16777216) :
    ∃ u' w', Sem.run Try.prog (Builtin.append_ #[22, 22] 22 #[u, .slice a n cap]) wc = .ok u' w' ∧
      Box3 w' o (.int .i64 R) (.int .i64 C) u ∧ StkInv w o R C u' (cs ++ xs) (w'.setCell ⟨o, 2, none⟩ u') := by
  obtain ⟨i0, hi, hz0, hz1, hz2⟩ : ∃ i, Try.prog.info? 21 = some i ∧ i.zero = some (.int .i32 0) ∧ i.size = 1 ∧ i.bytes = 4 := by
    have h := info_int32
    cases hh : Try.prog.info? 21 with
    | none => rw [hh] at h; cases h
    | some i =>
      rw [hh] at h
      simp only [Option.map_some, Option.some.injEq, Prod.mk.injEq] at h
      exact ⟨i, rfl, h.1, h.2.1, h.2.2⟩
  have own2 := h.own
  have hs := h.sz
  have hlo := h.lt
  have hne : ∀ b, b < o + 1 → some b ≠ u.ownBlock := fun b hb' e => by
    have := (own2.lt b e.symm).1
    omega
  have main : ∃ u' w', Sem.run Try.prog (Builtin.append_ #[22, 22] 22 #[u, .slice a n cap]) wc = .ok u' w' ∧ w'.ownsRow (o + 1) 21 1 u' (cs ++ xs).length ((cs ++ xs).map (.int .i32)) ∧ wc.grownBy w' u.ownBlock := by
    cases a with
    | none =>
      obtain rfl := hSl.1 rfl
      obtain rfl : n = 0 := by omega
      obtain rfl : xs = [] := List.eq_nil_of_length_eq_zero hE.1
      refine ⟨u, wc, run_append_owned_none _ (o + 1) 22 22 21 i0 1 Try.underlying22 hi _ cs.length _ own2, ?_, grownBy_refl _ _⟩
      rw [List.append_nil]; exact own2
    | some ad =>
      have hnews : ∀ j v, (xs.map (Value.int .i32))[j]? = some v → wc.cell? (ad.add j) = some v := by
        intro j v hv
        have hl := hE.1
        have hj : j < xs.length := by have := (List.getElem?_eq_some_iff.1 hv).1; simpa using this
        obtain ⟨b, off, he, _⟩ := hE.2.2.2 (by omega)
        cases he
        exact hE.news j v hv
      obtain ⟨v', w', hr, h2, h3, _, _⟩ := run_append_own_at (P := Try.prog) wc (o + 1) 22 22 21 i0 _ 1 4 Try.underlying22 hi hz0 hz1 hz2 rfl (by omega) u cs.length _ own2
        ad n cap (xs.map (.int .i32)) (by rw [List.length_map, hE.1, Nat.mul_one]) hnews (ints_one xs) (by unfold maxLen; omega) (by omega) hs
      refine ⟨v', w', hr, ?_, h3⟩
      rw [List.length_append, hE.1, List.map_append]
      exact h2
  obtain ⟨u', w', hr, hown, hg⟩ := main
  have d2 := h.b2.kept hg (hne _ (by omega))
  have d3 := h.b3.kept hg (hne _ (by omega))
  have hset := grownBy_setCell w' o 2 u'
  refine ⟨u', w', hr, d3, d2.kept hset (by simp; omega), d3.set2 _, own_grown hown hset (by omega), ?_, hlo, ?_⟩
  · have hB : Below w.heap.size w w' := h.bel.grown hg (by omega) (fun k hk => by have := (own2.lt k hk).1; omega)
    exact hB.setCell (p := ⟨o, 2, none⟩) (by simp; omega) _
  · have := hg.size; simp; omega

end Go.Proofs.Ytocjcfblpifdhaa
