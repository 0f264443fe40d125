import Derived.Test.YtoeihigdndkjeaaGreatDoorP20
import Derived.Test.YtoeihigdndkjeaaGreatDoorP23
import Derived.Test.YtoeihigdndkjeaaGreatDoorJ02
import Derived.Deep.RegionHeld3
import Derived.BigQuiet
import Derived.Test.YtoeihigdndkjeaaGreatDoorP22
import Derived.Test.YtoeihigdndkjeaaGreatDoorJ04
/-
  A talk: what is due and what was said; the errors ahead of it.
-/
namespace Go.Proofs.YtoeihigdndkjeaaGreatDoor
open Go.RowKit Go.Shelf
set_option linter.unusedVariables false

/-- a talk in block T, of the run in block r; what is due, what was said -/
structure TalkAt (w : World) (T r : Nat) (due said : Rw) : Prop where
  box : Box w T 123 #[.pointer (some ⟨r, 0, none⟩), .slice due.a due.n due.cap, .slice said.a said.n said.cap]
  due : due.In .i64 w
  said : said.In .i64 w

end Go.Proofs.YtoeihigdndkjeaaGreatDoor

/-
  A row of tokens of a talk's own: every cell of its block is a number of 64 bits; one token more.
-/
namespace Go.Proofs.YtoeihigdndkjeaaGreatDoor
open Go.RowKit Go.Shelf
set_option linter.unusedVariables false

/-- every cell is a number of 64 bits -/
def All64 (cs : List Value) : Prop := ∀ u ∈ cs, ∃ y, u = Value.int .i64 y
/-- a row of tokens of a talk's own -/
structure SaidR (w : World) (base : Nat) (v : Value) (n : Nat) (xs : List Int) : Prop where
  own : w.ownsRow base 3 1 v n (xs.map (.int .i64))
  all : ∀ g, v.ownBlock = some g → ∃ cs, Box w g 3 cs ∧ All64 cs.toList
end Go.Proofs.YtoeihigdndkjeaaGreatDoor

/-
  What stands where a talk's row of tokens grows: a model, a run, the tables.
-/
namespace Go.Proofs.YtoeihigdndkjeaaGreatDoor
open Go.RowKit Go.Shelf
set_option linter.unusedVariables false

theorem but_of {w w' : World} {g : Nat} (hg : w.grownBy w' (some g)) : But g w w' := fun k hk hne => hg.block k hk (by simpa using hne)
theorem OwnK.ne_box {w : World} {b n g : Nat} {D : DataW Unit} {T : TypeId} {cs : Array Value} (h : OwnK w b n D) (hX : Box w g T cs) : b ≠ g := by
  rintro rfl
  obtain ⟨es, clock, hh, _⟩ := h
  have := hh.symm.trans hX
  simp at this
end Go.Proofs.YtoeihigdndkjeaaGreatDoor

/-
  The next token of a talk.
-/
namespace Go.Proofs.YtoeihigdndkjeaaGreatDoor
open Go.RowKit Go.Shelf
set_option linter.unusedVariables false
attribute [local go_sem] Oper.semAt_some

theorem SaidR.away {w w' : World} {base n : Nat} {v : Value} {xs : List Int} (h : SaidR w base v n xs) (hk : ∀ g, v.ownBlock = some g → w'.heap[g]? = w.heap[g]?) : SaidR w' base v n xs := by
  refine ⟨⟨h.own.1, ?_⟩, fun g hg => let ⟨cs, h1, h2⟩ := h.all g hg; ⟨cs, (hk g hg).trans h1, h2⟩⟩
  rcases h.own.2 with h1 | ⟨g, cap, cur, h1, h2, h3, h4⟩
  · exact .inl h1
  · exact .inr ⟨g, cap, cur, h1, h2, (hk g (by rw [h1]; rfl)).trans h3, h4⟩
theorem SaidR.form {w : World} {base n : Nat} {v : Value} {xs : List Int} (h : SaidR w base v n xs) : ∃ a cap, v = .slice a n cap := by
  rcases h.own.2 with ⟨h1, rfl⟩ | ⟨g, cap, cur, h1, _⟩
  · exact ⟨none, 0, h1⟩
  · exact ⟨_, cap, h1⟩
/-- a talk as it stands -/
structure TalkSt (w : World) (T r m mb : Nat) (s : Sz) (W : Wt7) (st : St8) (N : Nat) (due : Rw) (v : Value) (n : Nat) (said : List Int) (base : Nat) : Prop where
  box : Box w T 123 #[.pointer (some ⟨r, 0, none⟩), .slice due.a due.n due.cap, v]
  dueIn : due.In .i64 w
  away : ∀ b o, due.a = some ⟨b, o, none⟩ → b ≠ r ∧ b ≠ mb
  saidR : SaidR w base v n said
  run : RunAt w r m mb s st.p 0 N st.K
  mod : ModAt w m s W
  tab : Tab w
  stab : STab w
  le : base ≤ w.heap.size
  ptab : 1 < base
  pstab : 0 < base
/-- what lies below B stands, where all of the talk lies from B on -/
def Stays (w w' : World) (T r mb base : Nat) : Prop := ∀ B w0, Below B w0 w → B ≤ T → B ≤ r → B ≤ mb → B ≤ base → Below B w0 w'

/-- all below base stands, but the talk, its run and what that keeps -/
structure AwayT (w w' : World) (T r mb base : Nat) : Prop where
  block : ∀ k, k < base → k ≠ T → k ≠ r → k ≠ mb → w'.heap[k]? = w.heap[k]?
  os : w'.os = w.os
  tape : w'.tape = w.tape
  output : w'.output = w.output
  size : w.heap.size ≤ w'.heap.size
theorem AwayT.elems {w w' : World} {T r mb base : Nat} (h : AwayT w w' T r mb base) {kd : IntKind} {a : Option Addr} {n : Nat} {xs : List Int} (hE : Elems kd w a n xs) (hne : ∀ x, a = some x → x.block < base ∧ x.block ≠ T ∧ x.block ≠ r ∧ x.block ≠ mb) : Elems kd w' a n xs :=
  ⟨hE.1, hE.2.1, hE.2.2.1, fun hn => let ⟨b, off, ha, hc⟩ := hE.2.2.2 hn; ⟨b, off, ha, fun i hi => (World.cell?_of_block (w := w) (a := ⟨b, off + i, none⟩) (let ⟨h1, h2, h3, h4⟩ := hne ⟨b, off, none⟩ ha; h.block b h1 h2 h3 h4)).trans (hc i hi)⟩⟩

end Go.Proofs.YtoeihigdndkjeaaGreatDoor

/-
  Generate, where so much may be generated.
-/
namespace Go.Proofs.YtoeihigdndkjeaaGreatDoor
open Go.RowKit Go.Shelf
set_option linter.unusedVariables false

noncomputable def st09 : St8 := ⟨[], 0, fun _ _ => ([], [])⟩
theorem runO_x (W : Wn8) (x y : List Int) (p : Nat) (K : KF8) (ts : List Nat) (h : ts ≠ []) : runO W ⟨x, p, K⟩ ts = runO W ⟨y, p, K⟩ ts := by
  cases ts with
  | nil => exact absurd rfl h
  | cons t ts => rfl
/-- tokens said one behind the other: each is the first of the greatest weight behind all ahead of it -/
def GenL (s : Sz) (W : Wn8) (ts said : List Int) : Prop :=
  ∀ i, i < said.length → ∃ B : Nat, said.getD i 0 = B ∧ B < s.v ∧ Best (outO W (runO W st09 ((ts ++ said.take i).map Int.toNat)).x) s.v B
theorem fault_none {s : Sz} {p : Nat} {ts : List Int} (h : ∀ t ∈ ts, 0 ≤ t ∧ t < s.v) (hp : p + ts.length ≤ s.p) : faultO s p ts = 0 := by
  unfold faultO
  rw [if_neg, if_neg (by omega)]
  rw [Bool.not_eq_true, List.any_eq_false]
  intro t ht
  rw [oddO_no.2 (h t ht)]
  simp

theorem fed_step (W : Wn8) (fed due : List Int) (h : due ≠ []) : runO W ⟨[], fed.length, (runO W st09 (fed.map Int.toNat)).K⟩ (due.map Int.toNat) = runO W st09 ((fed ++ due).map Int.toNat) := by
  rw [List.map_append, runO_app]
  have hp : (runO W st09 (fed.map Int.toNat)).p = fed.length := by rw [runO_p, List.length_map]; show 0 + fed.length = _; omega
  obtain ⟨x, hx⟩ : ∃ x, runO W st09 (fed.map Int.toNat) = ⟨x, fed.length, (runO W st09 (fed.map Int.toNat)).K⟩ := ⟨(runO W st09 (fed.map Int.toNat)).x, by rw [← hp]⟩
  rw [hx]
  exact runO_x W _ _ _ _ _ (by simpa using h)

end Go.Proofs.YtoeihigdndkjeaaGreatDoor

/-
  Two lists of tokens: are they alike, is one how the other begins.
-/
namespace Go.Proofs.YtoeihigdndkjeaaGreatDoor
open Go.RowKit Go.Shelf
set_option linter.unusedVariables false

end Go.Proofs.YtoeihigdndkjeaaGreatDoor

/-
  Rows that are said: one and only one of a length; cut short; behind a cut.
-/
namespace Go.Proofs.YtoeihigdndkjeaaGreatDoor
open Go.RowKit
set_option linter.unusedVariables false

end Go.Proofs.YtoeihigdndkjeaaGreatDoor

/-
  A head of noughts: every weight is 0, and the first is the greatest.
-/
namespace Go.Proofs.YtoeihigdndkjeaaGreatDoor
open Go.RowKit
set_option linter.unusedVariables false

theorem prods_zero {xs : List Int} (h : ∀ x ∈ xs, x = 0) : ∀ ys : List Int, ∀ z ∈ prods xs ys, z = 0 := by
  unfold prods
  induction xs with
  | nil => intro ys z hz; simp at hz
  | cons x xs ih =>
    intro ys z hz
    cases ys with
    | nil => simp at hz
    | cons y ys =>
      rw [List.zipWith_cons_cons, List.mem_cons] at hz
      rcases hz with rfl | hz
      · rw [h x (by simp), Int.zero_mul]
      · exact ih (fun x' hx' => h x' (by simp [hx'])) ys z hz
theorem sum_zero {zs : List Int} (h : ∀ z ∈ zs, z = 0) : zs.sum = 0 := by
  induction zs with
  | nil => rfl
  | cons z zs ih => rw [List.sum_cons, h z (by simp), ih (fun x hx => h x (by simp [hx]))]; rfl
theorem mv_zero {v : List Int} (h : ∀ x ∈ v, x = 0) (xs : List Int) (R C : Nat) : mv v xs R C = List.replicate R 0 := by
  unfold mv
  apply List.ext_getElem (by simp)
  intro i h1 h2
  have : ∀ x ∈ rowOf v C i, x = 0 := fun x hx => h x (List.mem_of_mem_drop (List.mem_of_mem_take hx))
  have e : wsum (prods (rowOf v C i) xs) = 0 := by
    unfold wsum
    rw [sum_zero (prods_zero this xs)]
    unfold wrap32
    omega
  simp only [List.getElem_map, List.getElem_replicate, List.getElem_range]
  exact e
end Go.Proofs.YtoeihigdndkjeaaGreatDoor

/-
  The document's examples of stage 9: awake returns true.
-/
namespace Go.Proofs.YtoeihigdndkjeaaGreatDoor
open Go.RowKit Go.Shelf
set_option linter.unusedVariables false
attribute [local go_sem] Oper.semAt_some

theorem Tabs9.bel {w w' : World} (h : Tabs9 w) (hb : Below w.heap.size w w') : Tabs9 w' := ⟨h.1.below hb, h.2.1.below hb, Nat.lt_of_lt_of_le h.2.2.1 hb.size, Nat.lt_of_lt_of_le h.2.2.2 hb.size⟩
/-- the example's shape -/
def ex9 : Sz := ⟨1, 4, 2, 3, 5, 8⟩
theorem ex9_ok : ex9.Ok := ⟨by decide, by decide, by decide, by decide, by decide, by decide, by decide, by decide, by decide, by decide, by decide, by decide, by decide⟩
/-- 140 noughts -/
theorem zeros140 (w : World) (T : TypeId) : Elems .i8 (w.alloc (.cells (madeCells #[.int .i8 0] 140) T)) (some ⟨w.heap.size, 0, none⟩) 140 (List.replicate 140 0) :=
  (mine_made .i8 w T 140 rfl).elems (by simp) (by simp) (fun x hx => by rw [List.eq_of_mem_replicate hx]; rfl)

end Go.Proofs.YtoeihigdndkjeaaGreatDoor

/-
  Generate where there is a fault, or no model.
-/
namespace Go.Proofs.YtoeihigdndkjeaaGreatDoor
open Go.RowKit Go.Shelf
set_option linter.unusedVariables false

end Go.Proofs.YtoeihigdndkjeaaGreatDoor
