/-
  The document's link under way in a tick: ages that aren't in order yet; its stores.
-/
import Derived.Test.YtkinbngikmcpeaaDReset16
namespace Go.Proofs.Ytkinbngikmcpeaa
open Go.RowKit Go.Maps
set_option linter.unusedVariables false

/-- the document's link, whatever its ages are -/
structure DRaw (w : World) (db base : Nat) (vo ve : Value) (W Sp R : Nat) (st : Lk16) (xs : List Db16) (ys : List Dy16) : Prop where
  box : Box w db 35 (dCells W Sp R st vo ve)
  out : ListAt NoU w base 84 3 vo xs.length (dbFlat st.acked xs)
  eo : dOut xs = st.out
  ear : ListAt NoU w base 93 2 ve ys.length (ys.flatMap dyCells)
  ee : dEarly ys = st.early
  rx : ∀ x ∈ xs, x.q.In .u8 w ∧ x.q.n ≤ 65536
  ry : ∀ y ∈ ys, y.q.In .u8 w ∧ y.q.n ≤ 65536
  lt : db < base ∧ base ≤ w.heap.size
/-- where a newer block turns -/
theorem MovesD.new {w wz w3 : World} {db : Nat} {row : Option Nat} (h : MovesD w wz db) (hg : wz.grownBy w3 row) (hd : db ≤ w.heap.size) (hb : ∀ b, row = some b → w.heap.size ≤ b) (hr : ∀ q : Rw, q.In .u8 wz → q.In .u8 w3) : MovesD w w3 db :=
  ⟨Nat.le_trans h.size hg.size, fun q hq => hr q (h.rows q hq), fun g T cs x a b c => (h.box g T cs x a b c).kept hg (fun e => by have := hb g e.symm; have := x.lt; omega),
    fun k b n F x => (h.map k b n F x).kept hg (fun e => by have := hb b e.symm; have := x.lt; omega), h.below.grown hg (Nat.le_trans hd h.size) (fun k e => Nat.le_trans hd (hb k e))⟩
theorem SegsAt.movedD {w w' : World} {base : Nat} {v : Value} {xs : List Se16} {db : Nat} (h : SegsAt w base v xs) (hm : MovesD w w' db) : SegsAt w' base v xs :=
  ⟨h.row.blk (fun g e => by
    obtain ⟨cs, hb, _⟩ := h.row.all g e
    exact (hm.box g _ cs hb (by decide) (by decide) (by decide)).trans hb.symm), fun x hx => ⟨hm.rows _ (h.rows x hx).1, (h.rows x hx).2⟩⟩
theorem dbFlat_set (k : Nat) (xs : List Db16) (i : Nat) (hi : i < xs.length) (s : Int) : (dbFlat k xs).set (i * 3 + 1) (.int .i64 s) = dbFlat k (xs.set i ⟨s, xs[i].q⟩) := by
  induction xs generalizing k i with
  | nil => exact absurd hi (by simp)
  | cons x xs ih =>
    cases i with
    | zero => rfl
    | succ i =>
      have hl : (dbCells (k + 1) x).length = 3 := rfl
      rw [List.set_cons_succ]
      show (dbCells (k + 1) x ++ dbFlat (k + 1) xs).set _ _ = dbCells (k + 1) x ++ dbFlat (k + 1) _
      rw [List.set_append_right _ _ (by rw [hl]; omega), hl, show (i + 1) * 3 + 1 - 3 = i * 3 + 1 by omega, ih (k + 1) i (by simpa using hi)]
      rfl
section
variable {w w' : World} {db base : Nat} {vo ve : Value} {W Sp R : Nat} {st : Lk16} {xs : List Db16} {ys : List Dy16}
theorem DLkAt.raw (h : DLkAt w db base vo ve W Sp R st xs ys) : DRaw w db base vo ve W Sp R st xs ys := ⟨h.box, h.out, h.eo, h.ear, h.ee, h.rx, h.ry, h.lt⟩
theorem DRaw.done (h : DRaw w db base vo ve W Sp R st xs ys) (hg : Good16 W Sp R st) : DLkAt w db base vo ve W Sp R st xs ys := ⟨h.box, h.out, h.eo, h.ear, h.ee, h.rx, h.ry, hg, h.lt⟩
theorem DRaw.bel (h : DRaw w db base vo ve W Sp R st xs ys) (hb : Below w.heap.size w w') : DRaw w' db base vo ve W Sp R st xs ys :=
  ⟨h.box.bel hb, h.out.bel hb, h.eo, h.ear.bel hb, h.ee, fun x hx => ⟨(h.rx x hx).1.below hb, (h.rx x hx).2⟩, fun x hx => ⟨(h.ry x hx).1.below hb, (h.ry x hx).2⟩, h.lt.1, Nat.le_trans h.lt.2 hb.size⟩
theorem DRaw.shape (h : DRaw w db base vo ve W Sp R st xs ys) : (∃ a c, vo = .slice a xs.length c) ∧ ∃ a c, ve = .slice a ys.length c := ⟨h.out.shape, h.ear.shape⟩
theorem DRaw.boxC (h : DRaw w db base vo ve W Sp R st xs ys) : AllC NoU w 35 db := by
  obtain ⟨⟨a, c, e⟩, a2, c2, e2⟩ := h.shape
  exact ⟨_, h.box, dCells_noU (by rw [e]; exact noU_slice _ _ _) (by rw [e2]; exact noU_slice _ _ _)⟩
/-- another block turned: a row of segments -/
theorem DRaw.seg (h : DRaw w db base vo ve W Sp R st xs ys) {row : Option Nat} (hg : w.grownBy w' row) (hr : ∀ b, row = some b → AllC NoU w 39 b) (hq : ∀ q : Rw, q.In .u8 w → q.In .u8 w') : DRaw w' db base vo ve W Sp R st xs ys := by
  have ne : ∀ (g : Nat) (T : TypeId) (cs : Array Value), Box w g T cs → T ≠ 39 → row ≠ some g := fun g T cs hb hT e => by
    obtain ⟨c2, k2, _⟩ := hr g e
    have := hb.symm.trans k2
    simp at this
    exact hT this.2
  refine ⟨h.box.kept hg (fun e => ne _ _ _ h.box (by decide) e.symm), h.out.kept hg (fun g e x => ?_), h.eo, h.ear.kept hg (fun g e x => ?_), h.ee, fun x hx => ⟨hq _ (h.rx x hx).1, (h.rx x hx).2⟩, fun x hx => ⟨hq _ (h.ry x hx).1, (h.ry x hx).2⟩, h.lt.1, Nat.le_trans h.lt.2 hg.size⟩
  · obtain ⟨cs, hb, _⟩ := h.out.all g e
    exact ne _ _ _ hb (by decide) x
  · obtain ⟨cs, hb, _⟩ := h.ear.all g e
    exact ne _ _ _ hb (by decide) x
/-- the link's own block stored into -/
theorem DRaw.own (h : DRaw w db base vo ve W Sp R st xs ys) {st' : Lk16} (hb : Box w' db 35 (dCells W Sp R st' vo ve)) (hg : w.grownBy w' (some db)) (ho : st'.out = st.out) (he : st'.early = st.early) (ha : st'.acked = st.acked) : DRaw w' db base vo ve W Sp R st' xs ys ∧ MovesD w w' db := by
  have hm : MovesD w w' db := MovesD.of_row hg (by have := h.lt; omega) (fun b e => by cases e; exact ⟨Nat.le_refl _, _, h.boxC, .inl rfl⟩)
  refine ⟨⟨hb, ?_, by rw [ho]; exact h.eo, ?_, by rw [he]; exact h.ee, fun x hx => ⟨hm.rows _ (h.rx x hx).1, (h.rx x hx).2⟩, fun y hy => ⟨hm.rows _ (h.ry y hy).1, (h.ry y hy).2⟩, h.lt.1, Nat.le_trans h.lt.2 hm.size⟩, hm⟩
  · rw [ha]
    exact h.out.kept hg (fun g e x => by have := (h.out.own.lt g e).1; have := h.lt.1; have := Option.some.inj x; omega)
  · exact h.ear.kept hg (fun g e x => by have := (h.ear.own.lt g e).1; have := h.lt.1; have := Option.some.inj x; omega)
/-- one body, in memory -/
theorem DRaw.body (h : DRaw w db base vo ve W Sp R st xs ys) {k : Nat} (hk : k < st.out.length) : ∃ (g c : Nat) (q : Rw), vo = .slice (some ⟨g, 0, none⟩) st.out.length c ∧ st.out.length ≤ c ∧ c ≤ 9223372036854775807 ∧ q.In .u8 w ∧ q.n ≤ 65536 ∧ q.v = st.out[k].b ∧
    w.cell? ⟨g, k * 3, none⟩ = some (.int .i64 ((st.acked + 1 + k : Nat) : Int)) ∧ w.cell? ⟨g, k * 3 + 1, none⟩ = some (.int .i64 st.out[k].s) ∧ w.cell? ⟨g, k * 3 + 2, none⟩ = some (.slice q.a q.n q.cap) ∧ w.frozen? ⟨g, k * 3 + 1, none⟩ = false ∧ base ≤ g := by
  have hl : xs.length = st.out.length := by rw [← h.eo, dOut_len]
  have hkx : k < xs.length := by omega
  obtain ⟨g, c, hv, h1, h2, h3, h4, hc⟩ := h.out.cells (by omega)
  have e1 : st.out[k] = ⟨xs[k].s, xs[k].q.v⟩ := by simp only [← h.eo, dOut, List.getElem_map]
  have hr := h.rx _ (List.getElem_mem hkx)
  obtain ⟨cs, hb, _⟩ := h.out.all g (by rw [hv]; rfl)
  refine ⟨g, c, xs[k].q, by rw [← hl]; exact hv, by omega, h2, hr.1, hr.2, by rw [e1], ?_, ?_, ?_, hb.frozen _, h4⟩
  · have := hc (k * 3) (by omega)
    rw [this, show k * 3 = k * 3 + 0 from rfl, dbFlat_at _ xs k 0 hkx (by omega)]; rfl
  · have := hc (k * 3 + 1) (by omega)
    rw [this, dbFlat_at _ xs k 1 hkx (by omega), e1]; rfl
  · have := hc (k * 3 + 2) (by omega)
    rw [this, dbFlat_at _ xs k 2 hkx (by omega)]; rfl
/-- one body's age stored anew -/
theorem DRaw.age (h : DRaw w db base vo ve W Sp R st xs ys) {k : Nat} (hk : k < st.out.length) {g c : Nat} (hv : vo = .slice (some ⟨g, 0, none⟩) st.out.length c) (s : Int) :
    (∃ xs', DRaw (w.setCell ⟨g, k * 3 + 1, none⟩ (.int .i64 s)) db base vo ve W Sp R { st with out := st.out.set k ⟨s, st.out[k].b⟩ } xs' ys) ∧ MovesD w (w.setCell ⟨g, k * 3 + 1, none⟩ (.int .i64 s)) db := by
  obtain ⟨w', hw'⟩ : ∃ w', w.setCell ⟨g, k * 3 + 1, none⟩ (.int .i64 s) = w' := ⟨_, rfl⟩
  have hg : w.grownBy w' (some g) := by rw [← hw']; exact grown_set _ _ _ _
  have hob : vo.ownBlock = some g := by rw [hv]; rfl
  have hbg := (h.out.own.lt g hob).1
  have hm : MovesD w w' db := MovesD.of_row hg (by have := h.lt; omega) (fun b hb => by cases hb; exact ⟨by have := h.lt; omega, _, h.out.all g hob, .inr (.inl rfl)⟩)
  have hl : xs.length = st.out.length := by rw [← h.eo, dOut_len]
  have hkx : k < xs.length := by omega
  have e1 : st.out[k] = ⟨xs[k].s, xs[k].q.v⟩ := by simp only [← h.eo, dOut, List.getElem_map]
  rw [hw']
  refine ⟨⟨xs.set k ⟨s, xs[k].q⟩, ?_, ?_, ?_, ?_, h.ee, fun x hx => ?_, fun y hy => ⟨hm.rows _ (h.ry y hy).1, (h.ry y hy).2⟩, h.lt.1, Nat.le_trans h.lt.2 hm.size⟩, hm⟩
  · have e : dCells W Sp R { st with out := st.out.set k ⟨s, st.out[k].b⟩ } vo ve = dCells W Sp R st vo ve := by simp [dCells]
    rw [e]
    exact h.box.kept hg (fun e => by have := h.lt; have := Option.some.inj e; omega)
  · rw [List.length_set, ← dbFlat_set st.acked xs k hkx s]
    have ho := h.out.own
    rw [hv, ← hl] at ho ⊢
    refine ⟨by rw [← hw']; exact ownsRow_set ho _ _, fun g' e => ?_⟩
    simp only [Value.ownBlock, Option.some.injEq] at e
    subst e
    rw [← hw']
    exact allC_set (h.out.all g hob) _ (noU_i64 _)
  · simp only [dOut, List.map_set]
    rw [← dOut, h.eo, e1]
  · refine h.ear.kept hg (fun g' e x => ?_)
    obtain ⟨c1, k1, _⟩ := h.out.all g hob
    obtain ⟨c2, k2, _⟩ := h.ear.all g' e
    have := k1.symm.trans ((Option.some.inj x) ▸ k2)
    simp at this
  · rcases List.mem_or_eq_of_mem_set hx with hx | hx
    · exact ⟨hm.rows _ (h.rx x hx).1, (h.rx x hx).2⟩
    · rw [hx]
      have := h.rx _ (List.getElem_mem hkx)
      exact ⟨hm.rows _ this.1, this.2⟩
end

end Go.Proofs.Ytkinbngikmcpeaa
