/-
  An append of a row (nil and empty ones too) of whatever kind of numbers, behind a row of the call's own, as a run; of one number, likewise.
-/
import Derived.Test.YtkinbngikmcpeaaRw
import Derived.Test.YtkinbngikmcpeaaSame1
import Derived.Maps.AppendAt
import Derived.Laws.OwnMore
namespace Go.Proofs.Ytkinbngikmcpeaa
open Go.RowKit
set_option linter.unusedVariables false

theorem info_u8 : ∃ i, Try.prog.info? 5 = some i ∧ i.zero = some (.int .u8 0) ∧ i.size = 1 ∧ i.bytes = 1 := by
  have h : (Try.prog.info? 5).map (fun i => (i.zero, i.size, i.bytes)) = some (some (.int .u8 0), 1, 1) := by kernel_rfl
  cases hh : Try.prog.info? 5 with
  | none => rw [hh] at h; cases h
  | some i => rw [hh] at h; simp only [Option.map_some, Option.some.injEq, Prod.mk.injEq] at h; exact ⟨i, rfl, h.1, h.2.1, h.2.2⟩
theorem info_int : ∃ i, Try.prog.info? 3 = some i ∧ i.zero = some (.int .i64 0) ∧ i.size = 1 ∧ i.bytes = 8 := by
  have h : (Try.prog.info? 3).map (fun i => (i.zero, i.size, i.bytes)) = some (some (.int .i64 0), 1, 8) := by kernel_rfl
  cases hh : Try.prog.info? 3 with
  | none => rw [hh] at h; cases h
  | some i => rw [hh] at h; simp only [Option.map_some, Option.some.injEq, Prod.mk.injEq] at h; exact ⟨i, rfl, h.1, h.2.1, h.2.2⟩

/-- a row behind a row of the call's own -/
theorem run_append_elems {P : Program} (kd : IntKind) (w : World) (base : Nat) (t e : TypeId) (bytes : Nat) (hb8 : bytes ≤ 8) (ht : P.underlying t = some (.slice e)) (hi : ∃ i, P.info? e = some i ∧ i.zero = some (.int kd 0) ∧ i.size = 1 ∧ i.bytes = bytes)
    (v : Value) (n : Nat) (xs : List Int) (hown : w.ownsRow base e 1 v n (xs.map (.int kd))) (a : Option Addr) (m cap : Nat) (ys : List Int) (h : Elems kd w a m ys) (ha : a = none → cap = 0) (hn : n ≤ 16777216) (hm : m ≤ 16777216) (hbase : base ≤ w.heap.size) :
    ∃ v' w', Sem.run P (Builtin.append_ #[t, t] t #[v, .slice a m cap]) w = .ok v' w' ∧ w'.ownsRow base e 1 v' (n + m) ((xs ++ ys).map (.int kd)) ∧ w.grownBy w' v.ownBlock ∧ (v'.ownBlock = v.ownBlock ∨ v'.ownBlock = some w.heap.size) := by
  obtain ⟨i0, hi, hz0, hz1, hz2⟩ := hi
  cases a with
  | none =>
    obtain rfl := ha rfl
    have hm0 : m = 0 := by
      apply Classical.byContradiction
      intro h0
      obtain ⟨b, off, he, _⟩ := h.2.2.2 (by omega)
      cases he
    subst hm0
    have hy : ys = [] := List.eq_nil_of_length_eq_zero h.1
    subst hy
    exact ⟨v, w, run_append_owned_none w base t t e i0 1 ht hi v n _ hown, by simpa using hown, grownBy_refl _ _, .inl rfl⟩
  | some ad =>
    have hnews : ∀ j u, (ys.map (Value.int kd))[j]? = some u → w.cell? (ad.add j) = some u := by
      intro j u hu
      have hl := h.1
      have hj : j < ys.length := by have := (List.getElem?_eq_some_iff.1 hu).1; simpa using this
      obtain ⟨b, off, he, _⟩ := h.2.2.2 (by omega)
      cases he
      exact h.news j u hu
    obtain ⟨v', w', hr, h2, h3, _, h4⟩ := run_append_own_at (P := P) w base t t e i0 _ 1 bytes ht hi hz0 hz1 hz2 rfl (by omega) v n _ hown
      ad m cap (ys.map (.int kd)) (by rw [List.length_map, h.1, Nat.mul_one]) hnews (ints_one ys) (by unfold maxLen; omega) (by have := Nat.mul_le_mul (show n + m ≤ 33554432 by omega) hb8; omega) hbase
    exact ⟨v', w', hr, by rw [List.map_append]; exact h2, h3, h4⟩

/-- numbers that a literal just laid, behind a row of the call's own -/
theorem run_append_lits {P : Program} (kd : IntKind) (w : World) (base : Nat) (t e : TypeId) (bytes : Nat) (hb8 : bytes ≤ 8) (ht : P.underlying t = some (.slice e)) (hi : ∃ i, P.info? e = some i ∧ i.zero = some (.int kd 0) ∧ i.size = 1 ∧ i.bytes = bytes)
    (v : Value) (n m : Nat) (xs ys : List Int) (cs : Array Value) (hcs : cs = (ys.map (Value.int kd)).toArray) (hm : ys.length = m) (hown : w.ownsRow base e 1 v n (xs.map (.int kd))) (hn : n ≤ 16777216) (hm2 : m ≤ 100) (hbase : base ≤ w.heap.size) :
    ∃ v' w', Sem.run P (Builtin.append_ #[t, t] t #[v, .slice (some ⟨w.heap.size, 0, none⟩) m m]) (w.alloc (.cells cs e)) = .ok v' w' ∧ w'.ownsRow base e 1 v' (n + m) ((xs ++ ys).map (.int kd)) ∧ w.grownBy w' v.ownBlock ∧ (v'.ownBlock = v.ownBlock ∨ v'.ownBlock = some (w.heap.size + 1)) := by
  subst hcs
  obtain ⟨i0, hi, hz0, hz1, hz2⟩ := hi
  have hnews := World.news_of_block (cs := (ys.map (Value.int kd)).toArray) (t := e) (fr := (0, 0)) (heap_alloc_new w (.cells (ys.map (Value.int kd)).toArray e))
  obtain ⟨v', w', hr, h2, h3, _, h4⟩ := run_append_own_at (P := P) (w.alloc (.cells (ys.map (Value.int kd)).toArray e)) base t t e i0 _ 1 bytes ht hi hz0 hz1 hz2 rfl (by omega) v n _ (hown.alloc _)
    ⟨w.heap.size, 0, none⟩ m m (ys.map (.int kd)) (by rw [List.length_map, hm, Nat.mul_one]) hnews (ints_one ys) (by unfold maxLen; omega) (by have := Nat.mul_le_mul (show n + m ≤ 33554432 by omega) hb8; omega) (by simp; omega)
  exact ⟨v', w', hr, by rw [List.map_append]; exact h2, (World.grownBy_alloc w _ _).trans h3, by rw [World.size_alloc] at h4; exact h4⟩

/-- how such a row reads, wherever it lies (nil too) -/
theorem own_reads {kd : IntKind} {w : World} {base : Nat} {e : TypeId} {v : Value} {n : Nat} {xs : List Int} (h : w.ownsRow base e 1 v n (xs.map (.int kd))) (hw : ∀ x ∈ xs, (Lit.int kd x).wf = true) (hn : n ≤ 9223372036854775807) :
    ∃ a cap, v = .slice a n cap ∧ Elems kd w a n xs ∧ n ≤ cap ∧ cap ≤ 9223372036854775807 ∧ (a = none → cap = 0) := by
  obtain ⟨a, cap, hv, hE⟩ := own_form h hn hw
  refine ⟨a, cap, hv, hE, ?_⟩
  rcases h.2 with ⟨h1, h2⟩ | ⟨g, c2, cur, h1, _, _, h3, h4, _⟩
  · rw [hv] at h1
    simp only [Value.slice.injEq] at h1
    refine ⟨by omega, by omega, fun _ => h1.2.2⟩
  · rw [hv] at h1
    simp only [Value.slice.injEq] at h1
    unfold maxLen at h4
    refine ⟨by omega, by omega, fun e => by rw [h1.1] at e; cases e⟩

end Go.Proofs.Ytkinbngikmcpeaa
