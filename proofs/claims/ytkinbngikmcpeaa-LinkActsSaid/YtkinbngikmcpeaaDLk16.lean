/-
  The document's link as it stands in memory; what its calls leave.
-/
import Derived.Test.YtkinbngikmcpeaaTwo16
namespace Go.Proofs.Ytkinbngikmcpeaa
open Go.RowKit Go.Maps
set_option linter.unusedVariables false

/-- a body to be sent, an early body: where they lie -/
structure Db16 where
  s : Int
  q : Rw
deriving Inhabited
structure Dy16 where
  n : Nat
  q : Rw
deriving Inhabited
/-- cells of a body of number k -/
def dbCells (k : Nat) (x : Db16) : List Value := [.int .i64 (k : Nat), .int .i64 x.s, .slice x.q.a x.q.n x.q.cap]
def dyCells (x : Dy16) : List Value := [.int .i64 (x.n : Nat), .slice x.q.a x.q.n x.q.cap]
theorem dyCells_len (x : Dy16) : (dyCells x).length = 2 := rfl
/-- the bodies' cells, from number k + 1 on -/
def dbFlat (k : Nat) : List Db16 → List Value
  | [] => []
  | x :: xs => dbCells (k + 1) x ++ dbFlat (k + 1) xs
theorem dbFlat_app (k : Nat) (xs ys : List Db16) : dbFlat k (xs ++ ys) = dbFlat k xs ++ dbFlat (k + xs.length) ys := by
  induction xs generalizing k with
  | nil => rfl
  | cons x xs ih =>
    simp only [List.cons_append, dbFlat, ih, List.length_cons, List.append_assoc]
    rw [show k + 1 + xs.length = k + (xs.length + 1) by omega]
theorem dbFlat_len (k : Nat) (xs : List Db16) : (dbFlat k xs).length = xs.length * 3 := by
  induction xs generalizing k with
  | nil => rfl
  | cons x xs ih => simp only [dbFlat, List.length_append, ih, List.length_cons]; show 3 + _ = _; omega
theorem dbFlat_at (k : Nat) (xs : List Db16) (i d : Nat) (hi : i < xs.length) (hd : d < 3) : (dbFlat k xs)[i * 3 + d]? = (dbCells (k + 1 + i) xs[i])[d]? := by
  induction xs generalizing k i with
  | nil => exact absurd hi (by simp)
  | cons x xs ih =>
    cases i with
    | zero =>
      rw [Nat.zero_mul, Nat.zero_add]
      show (dbCells (k + 1) x ++ _)[d]? = _
      rw [List.getElem?_append_left (by exact hd)]
      rfl
    | succ i =>
      have hl : (dbCells (k + 1) x).length = 3 := rfl
      show (dbCells (k + 1) x ++ _)[(i + 1) * 3 + d]? = _
      rw [List.getElem?_append_right (by rw [hl]; omega), hl, show (i + 1) * 3 + d - 3 = i * 3 + d by omega, ih (k + 1) i (by simpa using hi), show k + 1 + 1 + i = k + 1 + (i + 1) by omega]
      rfl
theorem dbFlat_noU (k : Nat) (xs : List Db16) : ∀ u ∈ dbFlat k xs, NoU u := by
  induction xs generalizing k with
  | nil => simp [dbFlat]
  | cons x xs ih =>
    intro u hu
    rcases List.mem_append.1 hu with hu | hu
    · simp only [dbCells, List.mem_cons, List.not_mem_nil, or_false] at hu
      rcases hu with rfl | rfl | rfl
      · exact noU_i64 _
      · exact noU_i64 _
      · exact noU_slice _ _ _
    · exact ih _ u hu
theorem dy_noU (xs : List Dy16) : ∀ u ∈ xs.flatMap dyCells, NoU u := by
  intro u hu
  obtain ⟨x, _, hx⟩ := List.mem_flatMap.1 hu
  simp only [dyCells, List.mem_cons, List.not_mem_nil, or_false] at hx
  rcases hx with rfl | rfl
  · exact noU_i64 _
  · exact noU_slice _ _ _
def dOut (xs : List Db16) : List Wt16 := xs.map fun x => ⟨x.s, x.q.v⟩
def dEarly (ys : List Dy16) : List (Nat × List Int) := ys.map fun y => (y.n, y.q.v)
theorem dOut_len (xs : List Db16) : (dOut xs).length = xs.length := by simp [dOut]
theorem dEarly_len (ys : List Dy16) : (dEarly ys).length = ys.length := by simp [dEarly]
def dCells (W Sp R : Nat) (st : Lk16) (vo ve : Value) : Array Value :=
  #[.int .i64 W, .int .i64 Sp, .int .i64 R, .int .i64 st.ep, .int .i64 ((st.acked + st.out.length : Nat) : Int), .int .i64 st.acked, .int .i64 st.sent, .int .i64 st.got, vo, ve, .bool st.owes]
theorem dCells_noU {W Sp R : Nat} {st : Lk16} {vo ve : Value} (h1 : NoU vo) (h2 : NoU ve) : ∀ u ∈ (dCells W Sp R st vo ve).toList, NoU u := by
  intro u hu
  simp only [dCells, List.mem_cons, List.not_mem_nil, or_false] at hu
  rcases hu with rfl | rfl | rfl | rfl | rfl | rfl | rfl | rfl | rfl | rfl | rfl
  all_goals first | exact noU_i64 _ | exact noU_bool _ | assumption
structure DLkAt (w : World) (db base : Nat) (vo ve : Value) (W Sp R : Nat) (st : Lk16) (xs : List Db16) (ys : List Dy16) : Prop where
  box : Box w db 35 (dCells W Sp R st vo ve)
  out : ListAt NoU w base 84 3 vo xs.length (dbFlat st.acked xs)
  eo : dOut xs = st.out
  ear : ListAt NoU w base 93 2 ve ys.length (ys.flatMap dyCells)
  ee : dEarly ys = st.early
  rx : ∀ x ∈ xs, x.q.In .u8 w ∧ x.q.n ≤ 65536
  ry : ∀ y ∈ ys, y.q.In .u8 w ∧ y.q.n ≤ 65536
  good : Good16 W Sp R st
  lt : db < base ∧ base ≤ w.heap.size
/-- the document's link, whatever its lists lie in -/
def DLk (w : World) (db base : Nat) (W Sp R : Nat) (st : Lk16) : Prop := ∃ vo ve xs ys, DLkAt w db base vo ve W Sp R st xs ys
/-- what the document's calls leave -/
structure MovesD (w w' : World) (db : Nat) : Prop where
  size : w.heap.size ≤ w'.heap.size
  rows : ∀ q : Rw, q.In .u8 w → q.In .u8 w'
  box : ∀ g T cs, Box w g T cs → T ≠ 35 → T ≠ 84 → T ≠ 93 → Box w' g T cs
  map : ∀ k b n F, MapAt w k b n F → MapAt w' k b n F
  below : Below db w w'
theorem MovesD.of_below {w w' : World} {db : Nat} (hb : Below w.heap.size w w') (hd : db ≤ w.heap.size) : MovesD w w' db := ⟨hb.size, fun q h => h.below hb, fun g T cs h _ _ _ => h.bel hb, fun k b n F h => h.bel hb h.lt, hb.mono hd⟩
theorem MovesD.trans {w w1 w2 : World} {db : Nat} (h : MovesD w w1 db) (k : MovesD w1 w2 db) : MovesD w w2 db := ⟨Nat.le_trans h.size k.size, fun q x => k.rows q (h.rows q x), fun g T cs x a b c => k.box g T cs (h.box g T cs x a b c) a b c, fun a b n F x => k.map a b n F (h.map a b n F x), h.below.trans k.below⟩
theorem MovesD.of_row {w w' : World} {db : Nat} {row : Option Nat} (hg : w.grownBy w' row) (hd : db ≤ w.heap.size) (hr : ∀ b, row = some b → db ≤ b ∧ ∃ T, AllC NoU w T b ∧ (T = 35 ∨ T = 84 ∨ T = 93)) : MovesD w w' db := by
  cases row with
  | none => exact MovesD.of_below ⟨hg.os, hg.tape, hg.output, hg.size, fun i hi => hg.block i hi (by simp)⟩ hd
  | some b =>
    obtain ⟨hdb, T, hA, hT⟩ := hr b rfl
    refine ⟨hg.size, fun q h => rw_noK h hA hg, fun g X cs h a1 a2 a3 => h.kept hg (fun e => ?_), fun k c n F h => h.kept hg (fun e => ?_), (Below.refl db w).grown hg hd (fun k e => by cases e; exact hdb)⟩
    · have hb := Option.some.inj e
      subst hb
      obtain ⟨c2, h2, _⟩ := hA
      have := h.symm.trans h2
      simp at this
      rcases hT with rfl | rfl | rfl
      · exact a1 this.2
      · exact a2 this.2
      · exact a3 this.2
    · obtain ⟨c2, h2, _⟩ := hA
      exact h.cells (by rw [Option.some.inj e]; exact h2)
/-- the code's link stands -/
theorem LinkAt.movesD {w w' : World} {db : Nat} {f : Foot} {W Sp R : Nat} {st : Lk16} (h : LinkAt w f W Sp R st) (hm : MovesD w w' db) : LinkAt w' f W Sp R st := by
  obtain ⟨es, h1, h2, h3⟩ := h.left
  obtain ⟨F, h4, h5⟩ := h.map
  refine ⟨hm.box _ _ _ h.box (by decide) (by decide) (by decide), ⟨es, h1, h2.blk (fun g e => ?_), fun x hx => ⟨hm.rows _ (h3 x hx).1, (h3 x hx).2⟩⟩, ⟨F, hm.map _ _ _ _ h4, h5.1, fun n x hx => let ⟨q, a, b, c⟩ := h5.2 n x hx; ⟨q, a, hm.rows _ b, c⟩⟩, h.good⟩
  obtain ⟨cs, hb, _⟩ := h2.all g e
  exact (hm.box g _ cs hb (by decide) (by decide) (by decide)).trans hb.symm
section
variable {w w' : World} {db base : Nat} {vo ve : Value} {W Sp R : Nat} {st : Lk16} {xs : List Db16} {ys : List Dy16}
theorem DLkAt.keeps (h : DLkAt w db base vo ve W Sp R st xs ys) (hk : Keeps w w') : DLkAt w' db base vo ve W Sp R st xs ys :=
  ⟨hk.box _ _ _ h.box (by decide) (by decide), listAt_keeps h.out hk (by decide) (by decide), h.eo, listAt_keeps h.ear hk (by decide) (by decide), h.ee, fun x hx => ⟨hk.rows _ (h.rx x hx).1, (h.rx x hx).2⟩, fun y hy => ⟨hk.rows _ (h.ry y hy).1, (h.ry y hy).2⟩, h.good, h.lt.1, Nat.le_trans h.lt.2 hk.size⟩
theorem DLkAt.bel (h : DLkAt w db base vo ve W Sp R st xs ys) (hb : Below w.heap.size w w') : DLkAt w' db base vo ve W Sp R st xs ys := h.keeps (keeps_below hb)
theorem DLkAt.shape (h : DLkAt w db base vo ve W Sp R st xs ys) : (∃ a c, vo = .slice a xs.length c) ∧ ∃ a c, ve = .slice a ys.length c := ⟨h.out.shape, h.ear.shape⟩
theorem DLkAt.boxC (h : DLkAt w db base vo ve W Sp R st xs ys) : AllC NoU w 35 db := by
  obtain ⟨⟨a, c, e⟩, a2, c2, e2⟩ := h.shape
  exact ⟨_, h.box, dCells_noU (by rw [e]; exact noU_slice _ _ _) (by rw [e2]; exact noU_slice _ _ _)⟩
theorem DLkAt.lens (h : DLkAt w db base vo ve W Sp R st xs ys) : xs.length = st.out.length ∧ ys.length = st.early.length := ⟨by rw [← h.eo, dOut_len], by rw [← h.ee, dEarly_len]⟩
/-- the link's own block stored into -/
theorem DLkAt.own (h : DLkAt w db base vo ve W Sp R st xs ys) {st' : Lk16} (hb : Box w' db 35 (dCells W Sp R st' vo ve)) (hg : w.grownBy w' (some db)) (ho : st'.out = st.out) (he : st'.early = st.early) (ha : st'.acked = st.acked) (hgd : Good16 W Sp R st') : DLkAt w' db base vo ve W Sp R st' xs ys ∧ MovesD w w' db := by
  have hm : MovesD w w' db := MovesD.of_row hg (by have := h.lt; omega) (fun b e => by cases e; exact ⟨Nat.le_refl _, _, h.boxC, .inl rfl⟩)
  refine ⟨⟨hb, ?_, by rw [ho]; exact h.eo, ?_, by rw [he]; exact h.ee, fun x hx => ⟨hm.rows _ (h.rx x hx).1, (h.rx x hx).2⟩, fun y hy => ⟨hm.rows _ (h.ry y hy).1, (h.ry y hy).2⟩, hgd, h.lt.1, Nat.le_trans h.lt.2 hm.size⟩, hm⟩
  · rw [ha]
    exact h.out.kept hg (fun g e x => by have := (h.out.own.lt g e).1; have := h.lt.1; have := Option.some.inj x; omega)
  · exact h.ear.kept hg (fun g e x => by have := (h.ear.own.lt g e).1; have := h.lt.1; have := Option.some.inj x; omega)
end

end Go.Proofs.Ytkinbngikmcpeaa
