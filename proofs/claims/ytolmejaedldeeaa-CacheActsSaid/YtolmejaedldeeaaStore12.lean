/-
  A store as the document says it: a list of spots with their keys and values; the code's store as it stands.
-/
import Derived.Test.YtolmejaedldeeaaMapF
import Derived.Test.YtolmejaedldeeaaClone8
import Derived.DeepKeys4
namespace Go.Proofs.Ytolmejaedldeeaa
open Go.RowKit Go.Maps Go.WideMaps
set_option linter.unusedVariables false

/-! ### the document's store -/
/-- a spot, its keys and values -/
structure Ent where
  r : Int
  l : Int
  p : Int
  k : List Int
  v : List Int
def Ent.at_ (x : Ent) (r l p : Int) : Bool := decide (x.r = r ∧ x.l = l ∧ x.p = p)
theorem at_iff {x : Ent} {r l p : Int} : x.at_ r l p = true ↔ x.r = r ∧ x.l = l ∧ x.p = p := by simp [Ent.at_]
def hasE (L : List Ent) (r l p : Int) : Bool := L.any fun x => x.at_ r l p
theorem hasE_iff {L : List Ent} {r l p : Int} : hasE L r l p = true ↔ ∃ x ∈ L, x.r = r ∧ x.l = l ∧ x.p = p := by simp [hasE, at_iff]
theorem hasE_no {L : List Ent} {r l p : Int} : hasE L r l p = false ↔ ∀ x ∈ L, ¬ (x.r = r ∧ x.l = l ∧ x.p = p) := by
  rw [← Bool.not_eq_true, hasE_iff]; simp
def findE (L : List Ent) (r l p : Int) : Option Ent := L.find? fun x => x.at_ r l p
/-- what Put answers, and the store behind it -/
def putE (room : Nat) (L : List Ent) (e : Ent) : Int × List Ent :=
  if e.r < 0 ∨ e.l < 0 ∨ e.p < 0 then (2, L) else
  if e.k.length ≠ e.v.length then (30, L) else
  if e.p ≠ 0 ∧ hasE L e.r e.l (e.p - 1) = false then (120, L) else
  match findE L e.r e.l e.p with
  | some y => if y.k = e.k ∧ y.v = e.v then (0, L) else (2, L)
  | none => if room ≤ L.length then (80, L) else (0, L ++ [e])
def w64 (x : Int) : Prop := (Lit.int .i64 x).wf = true
theorem w64_bd {x : Int} : w64 x ↔ -9223372036854775808 ≤ x ∧ x ≤ 9223372036854775807 := ⟨wf64, fun h => WalkArith.wf_i64 h⟩
/-- spots apart, numbers none below 0, lines without gaps -/
structure GoodE (L : List Ent) : Prop where
  apart : L.Pairwise fun x y => ¬ (y.r = x.r ∧ y.l = x.l ∧ y.p = x.p)
  bd : ∀ x ∈ L, (0 ≤ x.r ∧ 0 ≤ x.l ∧ 0 ≤ x.p) ∧ w64 x.r ∧ w64 x.l ∧ w64 x.p
  gap : ∀ x ∈ L, x.p = 0 ∨ hasE L x.r x.l (x.p - 1) = true
theorem goodE_nil : GoodE [] := ⟨List.Pairwise.nil, by simp, by simp⟩
theorem findE_some {L : List Ent} {r l p : Int} {y : Ent} (h : findE L r l p = some y) : y ∈ L ∧ y.r = r ∧ y.l = l ∧ y.p = p := by
  refine ⟨List.mem_of_find?_eq_some h, ?_⟩
  have := List.find?_some h
  exact at_iff.1 this
theorem findE_none {L : List Ent} {r l p : Int} (h : findE L r l p = none) : hasE L r l p = false := by
  rw [hasE_no]
  intro x hx hxe
  have := List.find?_eq_none.1 h x hx
  exact this (at_iff.2 hxe)
theorem hasE_find {L : List Ent} {r l p : Int} (h : hasE L r l p = true) : ∃ y, findE L r l p = some y := by
  cases hf : findE L r l p with
  | some y => exact ⟨y, rfl⟩
  | none => rw [findE_none hf] at h; cases h
theorem GoodE.one {L : List Ent} (h : GoodE L) {x y : Ent} (hx : x ∈ L) (hy : y ∈ L) (he : y.r = x.r ∧ y.l = x.l ∧ y.p = x.p) : x = y := by
  have := h.apart
  clear h
  induction L with
  | nil => cases hx
  | cons a L ih =>
    obtain ⟨h1, h2⟩ := List.pairwise_cons.1 this
    rcases List.mem_cons.1 hx with e1 | hx1
    · rcases List.mem_cons.1 hy with e2 | hy1
      · rw [e1, e2]
      · exact absurd (e1 ▸ he) (h1 y hy1)
    · rcases List.mem_cons.1 hy with e2 | hy1
      · subst e2
        exact absurd ⟨he.1.symm, he.2.1.symm, he.2.2.symm⟩ (h1 x hx1)
      · exact ih hx1 hy1 h2
theorem GoodE.find {L : List Ent} (h : GoodE L) {x : Ent} (hx : x ∈ L) : findE L x.r x.l x.p = some x := by
  obtain ⟨y, hy⟩ := hasE_find (hasE_iff.2 ⟨x, hx, rfl, rfl, rfl⟩)
  obtain ⟨h1, h2⟩ := findE_some hy
  rw [hy, h.one hx h1 h2]
theorem hasE_app {L : List Ent} {e : Ent} {r l p : Int} : hasE (L ++ [e]) r l p = (hasE L r l p || e.at_ r l p) := by simp [hasE]
theorem GoodE.snoc {L : List Ent} (h : GoodE L) {e : Ent} (h0 : 0 ≤ e.r ∧ 0 ≤ e.l ∧ 0 ≤ e.p) (hw : w64 e.r ∧ w64 e.l ∧ w64 e.p) (hg : e.p = 0 ∨ hasE L e.r e.l (e.p - 1) = true) (hn : hasE L e.r e.l e.p = false) : GoodE (L ++ [e]) := by
  refine ⟨?_, fun x hx => ?_, fun x hx => ?_⟩
  · rw [List.pairwise_append]
    refine ⟨h.apart, List.pairwise_singleton _ _, fun a ha b hb => ?_⟩
    rw [List.mem_singleton] at hb
    subst hb
    intro he
    exact hasE_no.1 hn a ha ⟨he.1.symm, he.2.1.symm, he.2.2.symm⟩
  · rcases List.mem_append.1 hx with hx | hx
    · exact h.bd x hx
    · rw [List.mem_singleton] at hx; subst hx; exact ⟨h0, hw⟩
  · rw [hasE_app]
    rcases List.mem_append.1 hx with hx | hx
    · rcases h.gap x hx with h1 | h1
      · exact .inl h1
      · exact .inr (by rw [h1]; rfl)
    · rw [List.mem_singleton] at hx; subst hx
      rcases hg with h1 | h1
      · exact .inl h1
      · exact .inr (by rw [h1]; rfl)
theorem GoodE.filter {L : List Ent} (h : GoodE L) (f : Int → Bool) : GoodE (L.filter fun x => f x.r) := by
  refine ⟨h.apart.filter _, fun x hx => h.bd x (List.mem_filter.1 hx).1, fun x hx => ?_⟩
  obtain ⟨h1, h2⟩ := List.mem_filter.1 hx
  rcases h.gap x h1 with h3 | h3
  · exact .inl h3
  · obtain ⟨y, hy, e1, e2, e3⟩ := hasE_iff.1 h3
    exact .inr (hasE_iff.2 ⟨y, List.mem_filter.2 ⟨hy, by rw [e1]; exact h2⟩, e1, e2, e3⟩)
theorem putE_good {room : Nat} {L : List Ent} {e : Ent} (h : GoodE L) (hw : w64 e.r ∧ w64 e.l ∧ w64 e.p) : GoodE (putE room L e).2 := by
  unfold putE
  split
  · exact h
  · rename_i h0
    split
    · exact h
    · split
      · exact h
      · rename_i h2
        split
        · split <;> exact h
        · rename_i hf
          split
          · exact h
          · refine h.snoc (by omega) hw ?_ (findE_none hf)
            by_cases h3 : e.p = 0
            · exact .inl h3
            · refine .inr ?_
              cases hh : hasE L e.r e.l (e.p - 1) with
              | true => rfl
              | false => exact absurd ⟨h3, hh⟩ h2
/-- n places of a line are there -/
theorem line_le {L : List Ent} {r l : Int} {n : Nat} (h : ∀ p : Nat, p < n → hasE L r l p = true) : n ≤ L.length := by
  suffices H : ∀ (n : Nat) (ps : List Int), (∀ p : Nat, p < n → (p : Int) ∈ ps) → n ≤ ps.length by
    have := H n (L.map Ent.p) (fun p hp => by
      obtain ⟨x, hx, _, _, e⟩ := hasE_iff.1 (h p hp)
      exact List.mem_map.2 ⟨x, hx, e⟩)
    simpa using this
  intro n
  induction n with
  | zero => intro ps _; omega
  | succ n ih =>
    intro ps hp
    have h1 := hp n (by omega)
    have h2 := ih (ps.erase (n : Int)) (fun p hlt => (List.mem_erase_of_ne (by omega)).2 (hp p (by omega)))
    rw [List.length_erase_of_mem h1] at h2
    have := List.length_pos_of_mem h1
    omega
/-- how long a line is -/
def LineN (L : List Ent) (r l : Int) (n : Nat) : Prop := (∀ p : Nat, p < n → hasE L r l p = true) ∧ hasE L r l n = false
theorem LineN.uniq {L : List Ent} {r l : Int} {n m : Nat} (h : LineN L r l n) (h' : LineN L r l m) : n = m := by
  rcases Nat.lt_trichotomy n m with hlt | rfl | hlt
  · have := h'.1 n hlt; rw [h.2] at this; cases this
  · rfl
  · have := h.1 m hlt; rw [h'.2] at this; cases this

/-! ### the code's keys and elements -/
theorem spot12_law : Keyed Try.prog 33 := Keyed.of_law (deep_law (m := 2) (by decide) (by kernel_rfl) (by kernel_rfl) (by kernel_rfl))
/-- the key of a spot -/
def keyT (r l p : Int) : Lit := .string (keyBytes [.int .i64 r, .int .i64 l, .int .i64 p])
def spotV (r l p : Int) : Value := .agg #[.int .i64 r, .int .i64 l, .int .i64 p]
theorem keyT_isKey (r l p : Int) : WideAt.IsKeyLit (keyT r l p) := trivial
theorem types_some12 : ∃ m, Try.prog.types.size = m + 1 := ⟨Try.prog.types.size - 1, by have : 0 < Try.prog.types.size := of_decide_eq_true (by kernel_rfl); omega⟩
theorem keyT_mk {r l p : Int} (hr : w64 r) (hl : w64 l) (hp : w64 p) : keyOf Try.prog 33 (spotV r l p) = some (keyT r l p) := by
  have hkt : Try.prog.keyType 33 = true := by kernel_rfl
  obtain ⟨m, hm⟩ := types_some12
  have hf : (spotV r l p).formed Try.prog 33 = true := by kernel_rfl
  unfold keyOf
  simp only [Try.underlying33]
  rw [if_pos (by rw [hkt, hf]; rfl), hm]
  unfold Program.keyLits
  simp only [Try.underlying33]
  have hc : Try.prog.cellsOf 3 = 1 := by kernel_rfl
  have hk : ∀ x : Int, w64 x → Try.prog.keyLits (m + 1) 3 [.int .i64 x] = some [.int .i64 x] := by
    intro x hx
    unfold Program.keyLits
    simp [Try.underlying3]
    exact hx
  rw [if_pos ⟨by kernel_rfl, by kernel_rfl⟩]
  simp [spotV, List.mapM_cons, Value.cells, hc, hk r hr, hk l hl, hk p hp, keyT]
theorem keyT_inj {r l p r' l' p' : Int} (h1 : w64 r ∧ w64 l ∧ w64 p) (h2 : w64 r' ∧ w64 l' ∧ w64 p') (h : keyT r l p = keyT r' l' p') : r = r' ∧ l = l' ∧ p = p' := by
  have k1 := keyT_mk h1.1 h1.2.1 h1.2.2
  have k2 := keyT_mk h2.1 h2.2.1 h2.2.2
  rw [h] at k1
  have := spot12_law.inj k1 k2
  simpa [spotV] using this
/-- keys and values as an element -/
def kvR (k v : Rw) : Value := .agg #[.slice k.a k.n k.cap, .slice v.a v.n v.cap]
def kv0 : Value := .agg #[.slice none 0 0, .slice none 0 0]
theorem zero_kept12 (w : World) : (zeroValue 63).run Try.prog w = .ok kv0 w := by kernel_rfl

/-! ### the code's store -/
/-- rows of an entry -/
def RowsE (w : World) (x : Ent) (k v : Rw) : Prop := k.In .i8 w ∧ v.In .i8 w ∧ k.v = x.k ∧ v.v = x.v ∧ k.n ≤ 65536 ∧ v.n ≤ 65536
/-- F holds what L says -/
def FitE (w : World) (L : List Ent) (F : Lit → Option Value) : Prop :=
  (∀ r l p, w64 r → w64 l → w64 p → (F (keyT r l p)).isSome = hasE L r l p) ∧ ∀ x ∈ L, ∃ k v : Rw, F (keyT x.r x.l x.p) = some (kvR k v) ∧ RowsE w x k v
structure StoreAt (w : World) (sb mb room : Nat) (L : List Ent) : Prop where
  box : Box w sb 60 #[.int .i64 room, .map (some mb)]
  good : GoodE L
  room : L.length ≤ room ∧ room ≤ 1048576
  map : ∃ F, MapAt w 33 mb L.length F ∧ FitE w L F
/-- what leaves a map's block alone and keeps rows -/
theorem rw_grown {w w' : World} {q : Rw} {kd : IntKind} {b : Nat} {row : Option Nat} (h : q.In kd w) (hg : w.grownBy w' row) (hne : ∀ x, q.a = some x → 0 < q.n → some x.block ≠ row) : q.In kd w' :=
  ⟨⟨h.1.1, h.1.2.1, h.1.2.2.1, fun hn => let ⟨b, off, ha, hc⟩ := h.1.2.2.2 hn; ⟨b, off, ha, fun i hi => by
    have h0 := hc i hi
    rw [World.cell?_of_block (w := w) (a := ⟨b, off + i, none⟩) (hg.block b (World.block_lt_of_cell? _ _ h0) (hne _ ha hn))]
    exact h0⟩⟩, h.2⟩
/-- a row's block is no map's -/
theorem rw_map {w w' : World} {q : Rw} {kd : IntKind} {k : TypeId} {b n : Nat} {F : Lit → Option Value} (h : q.In kd w) (hm : MapAt w k b n F) (hg : w.grownBy w' (some b)) : q.In kd w' := by
  refine ⟨⟨h.1.1, h.1.2.1, h.1.2.2.1, fun hn => ?_⟩, h.2⟩
  obtain ⟨g, off, ha, hc⟩ := h.1.2.2.2 hn
  refine ⟨g, off, ha, fun i hi => ?_⟩
  have h0 := hc i hi
  have hne : some g ≠ some b := by
    intro e
    cases e
    have := hm.cell (off + i)
    rw [this] at h0
    cases h0
  rw [World.cell?_of_block (w := w) (a := ⟨g, off + i, none⟩) (hg.block g (World.block_lt_of_cell? _ _ h0) hne)]
  exact h0
theorem RowsE.bel {w w' : World} {x : Ent} {k v : Rw} (h : RowsE w x k v) (hb : Below w.heap.size w w') : RowsE w' x k v := ⟨h.1.below hb, h.2.1.below hb, h.2.2⟩
/-- what a look-up gives -/
theorem FitE.get {w : World} {L : List Ent} {F : Lit → Option Value} (h : FitE w L F) {r l p : Int} (hr : w64 r) (hl : w64 l) (hp : w64 p) :
    ∃ k v : Rw, (F (keyT r l p)).getD kv0 = kvR k v ∧ (F (keyT r l p)).isSome = hasE L r l p ∧
      ((∃ x ∈ L, x.r = r ∧ x.l = l ∧ x.p = p ∧ RowsE w x k v) ∨ hasE L r l p = false ∧ k = ⟨none, 0, 0, []⟩ ∧ v = ⟨none, 0, 0, []⟩) := by
  cases hh : hasE L r l p with
  | true =>
    obtain ⟨x, hx, rfl, rfl, rfl⟩ := hasE_iff.1 hh
    obtain ⟨k, v, e, hr⟩ := h.2 x hx
    exact ⟨k, v, by rw [e]; rfl, by rw [h.1 _ _ _ ‹_› hl hp, hh], .inl ⟨x, hx, rfl, rfl, rfl, hr⟩⟩
  | false =>
    have := h.1 _ _ _ hr hl hp
    rw [hh] at this
    have hn : F (keyT r l p) = none := by cases hF : F (keyT r l p) with
      | none => rfl
      | some y => rw [hF] at this; cases this
    exact ⟨⟨none, 0, 0, []⟩, ⟨none, 0, 0, []⟩, by rw [hn]; rfl, this, .inr ⟨rfl, rfl, rfl⟩⟩
theorem FitE.bel {w w' : World} {L : List Ent} {F : Lit → Option Value} (h : FitE w L F) (hb : Below w.heap.size w w') : FitE w' L F :=
  ⟨h.1, fun x hx => let ⟨k, v, h1, h2⟩ := h.2 x hx; ⟨k, v, h1, h2.bel hb⟩⟩
theorem StoreAt.bel {w w' : World} {sb mb room : Nat} {L : List Ent} (h : StoreAt w sb mb room L) (hb : Below w.heap.size w w') : StoreAt w' sb mb room L :=
  let ⟨F, h1, h2⟩ := h.map
  ⟨h.box.bel hb, h.good, h.room, F, h1.bel hb h1.lt, h2.bel hb⟩
/-- where another map turns -/
theorem StoreAt.other {w w' : World} {sb mb room m2 n2 : Nat} {k2 : TypeId} {F2 : Lit → Option Value} {L : List Ent} (h : StoreAt w sb mb room L) (h2 : MapAt w k2 m2 n2 F2) (hne : mb ≠ m2) (hg : w.grownBy w' (some m2)) : StoreAt w' sb mb room L := by
  obtain ⟨F, h1, h3⟩ := h.map
  refine ⟨h.box.kept hg (fun e => ?_), h.good, h.room, F, h1.kept hg (fun e => hne (by cases e; rfl)), h3.1, fun x hx => ?_⟩
  · cases e
    exact h2.cells h.box
  · obtain ⟨k, v, e1, r1, r2, r3⟩ := h3.2 x hx
    exact ⟨k, v, e1, rw_map r1 h2 hg, rw_map r2 h2 hg, r3⟩
theorem StoreAt.lt {w : World} {sb mb room : Nat} {L : List Ent} (h : StoreAt w sb mb room L) : sb < w.heap.size ∧ mb < w.heap.size ∧ sb ≠ mb := by
  obtain ⟨F, h1, h3⟩ := h.map
  exact ⟨h.box.lt, h1.lt, fun e => h1.cells (e ▸ h.box)⟩

/-- a map says one thing -/
theorem MapAt.uniq {w : World} {k : TypeId} {b n n' : Nat} {F F' : Lit → Option Value} (h : MapAt w k b n F) (h' : MapAt w k b n' F') (kl : Lit) : F kl = F' kl := by
  obtain ⟨D, ⟨es, clock, hh, G, hs, hD⟩, h2⟩ := h
  obtain ⟨D', ⟨es', clock', hh', G', hs', hD'⟩, h2'⟩ := h'
  have e := hh.symm.trans hh'
  simp only [Option.some.injEq, Obj.map.injEq] at e
  obtain ⟨rfl, rfl⟩ := e
  have hDD : D = D' := hD.trans hD'.symm
  subst hDD
  have h1 := h2.has kl
  have h3 := h2'.has kl
  cases hF : F kl with
  | none =>
    rw [h1, hF] at h3
    cases hF' : F' kl with
    | none => rfl
    | some v' => rw [hF'] at h3; cases h3
  | some v =>
    rw [h1, hF] at h3
    cases hF' : F' kl with
    | none => rw [hF'] at h3; cases h3
    | some v' =>
      have e1 := h2.val kl v hF .nil
      have e2 := h2'.val kl v' hF' .nil
      rw [e1] at e2
      simpa using e2
/-- a row that doesn't lie in block b -/
def RowOff (b : Nat) (q : Rw) : Prop := ∀ x, q.a = some x → 0 < q.n → x.block ≠ b
/-- nothing of a store lies in block b -/
def StoreOff (w : World) (sb mb : Nat) (L : List Ent) (b : Nat) : Prop :=
  sb ≠ b ∧ mb ≠ b ∧ ∀ F, MapAt w 33 mb L.length F → ∀ x ∈ L, ∀ k v : Rw, F (keyT x.r x.l x.p) = some (kvR k v) → RowOff b k ∧ RowOff b v
theorem kvR_inj {k v k' v' : Rw} (h : kvR k v = kvR k' v') : k.a = k'.a ∧ k.n = k'.n ∧ v.a = v'.a ∧ v.n = v'.n := by
  simp only [kvR, Value.agg.injEq, Array.mk.injEq, List.cons.injEq, Value.slice.injEq, and_true] at h
  exact ⟨h.1.1, h.1.2.1, h.2.1, h.2.2.1⟩
theorem RowOff.of {b : Nat} {q q' : Rw} (h : RowOff b q) (ha : q.a = q'.a) (hn : q.n = q'.n) : RowOff b q' := fun x hx h0 => h x (ha.trans hx) (by rw [hn]; exact h0)
theorem Rw.In.off {w : World} {q : Rw} {kd : IntKind} (h : q.In kd w) {b : Nat} (hb : w.heap.size ≤ b) : RowOff b q := fun x hx h0 => by
  obtain ⟨g, off, ha, hc⟩ := h.1.2.2.2 h0
  rw [ha] at hx
  cases hx
  have := World.block_lt_of_cell? _ _ (hc 0 h0)
  simp only at this ⊢
  omega
section
variable {w w' : World} {sb mb room b : Nat} {L : List Ent}
theorem StoreOff.block (h : StoreOff w sb mb L b) (hb : w'.heap[mb]? = w.heap[mb]?) : StoreOff w' sb mb L b := ⟨h.1, h.2.1, fun F hF => h.2.2 F (hF.block hb.symm)⟩
theorem StoreOff.bel (h : StoreOff w sb mb L b) (hS : StoreAt w sb mb room L) (hb : Below w.heap.size w w') : StoreOff w' sb mb L b := h.block (hb.block mb hS.lt.2.1)
/-- what comes later is apart -/
theorem StoreAt.off (h : StoreAt w sb mb room L) (hb : w.heap.size ≤ b) : StoreOff w sb mb L b := by
  have hl := h.lt
  refine ⟨by omega, by omega, fun F hF x hx k v e => ?_⟩
  obtain ⟨F0, h1, h2⟩ := h.map
  obtain ⟨k0, v0, e0, r1, r2, _⟩ := h2.2 x hx
  rw [hF.uniq h1, e0] at e
  obtain ⟨a1, a2, a3, a4⟩ := kvR_inj (Option.some.inj e)
  exact ⟨(r1.off hb).of a1 a2, (r2.off hb).of a3 a4⟩
/-- a number stored there leaves the store -/
theorem StoreAt.far (h : StoreAt w sb mb room L) (ho : StoreOff w sb mb L b) (hg : w.grownBy w' (some b)) : StoreAt w' sb mb room L ∧ StoreOff w' sb mb L b := by
  obtain ⟨F, h1, h2⟩ := h.map
  have hl := h.lt
  refine ⟨⟨h.box.kept hg (fun e => ho.1 (Option.some.inj e)), h.good, h.room, F, h1.kept hg (fun e => ho.2.1 (Option.some.inj e)), h2.1, fun x hx => ?_⟩, ho.block (hg.block mb hl.2.1 (fun e => ho.2.1 (Option.some.inj e)))⟩
  obtain ⟨k, v, e, r1, r2, r3⟩ := h2.2 x hx
  obtain ⟨o1, o2⟩ := ho.2.2 F h1 x hx k v e
  exact ⟨k, v, e, rw_grown (b := 0) r1 hg (fun x hx h0 e => o1 x hx h0 (Option.some.inj e)), rw_grown (b := 0) r2 hg (fun x hx h0 e => o2 x hx h0 (Option.some.inj e)), r3⟩
theorem StoreOff.put {w2 : World} {F : Lit → Option Value} {e : Ent} {k v : Rw} (h : StoreOff w sb mb L b) (hm : MapAt w 33 mb L.length F) (hm2 : MapAt w2 33 mb (L.length + 1) (upF F (keyT e.r e.l e.p) (kvR k v)))
    (hg : GoodE (L ++ [e])) (hk : RowOff b k) (hv : RowOff b v) : StoreOff w2 sb mb (L ++ [e]) b := by
  refine ⟨h.1, h.2.1, fun F2 hF2 x hx k' v' e2 => ?_⟩
  rw [hF2.uniq hm2] at e2
  by_cases hke : keyT x.r x.l x.p = keyT e.r e.l e.p
  · rw [hke, upF_same] at e2
    obtain ⟨a1, a2, a3, a4⟩ := kvR_inj (Option.some.inj e2)
    exact ⟨hk.of a1 a2, hv.of a3 a4⟩
  · rw [upF_other _ hke] at e2
    rcases List.mem_append.1 hx with hx | hx
    · exact h.2.2 F hm x hx k' v' e2
    · rw [List.mem_singleton] at hx; subst hx; exact absurd rfl hke
end

end Go.Proofs.Ytolmejaedldeeaa
