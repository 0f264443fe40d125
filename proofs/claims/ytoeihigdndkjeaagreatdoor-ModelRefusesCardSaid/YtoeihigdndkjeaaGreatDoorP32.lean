import Derived.Test.YtoeihigdndkjeaaGreatDoorP31
import Derived.Shelf.SlMaps.Clone
import Derived.Deep.RegionHeld3
import Derived.Test.YtoeihigdndkjeaaGreatDoorP24
/-
  A run's fork; what is kept of a place in a layer.
-/
namespace Go.Proofs.YtoeihigdndkjeaaGreatDoor
open Go.RowKit Go.Shelf Go.Maps Go.WideMaps
set_option linter.unusedVariables false
attribute [local go_sem] Oper.semAt_some

end Go.Proofs.YtoeihigdndkjeaaGreatDoor

/-
  What the statements of stage 8 share: tokens brought to a vocabulary; a run beside another; Feed of whatever row; Place.
-/
namespace Go.Proofs.YtoeihigdndkjeaaGreatDoor
open Go.RowKit Go.Shelf
set_option linter.unusedVariables false
attribute [local go_sem] Oper.semAt_some


/-- a row of numbers of 8 bits where a run's two blocks change -/
theorem rw_away {w w' : World} {r mb N : Nat} {X : TypeId} {cs : Array Value} {D : DataW Unit} (hX : Box w r X cs) (h8 : No8 cs) (hO : OwnK w mb N D) (ha : Away w w' r mb) {q : Rw} (h : q.In .i8 w) : q.In .i8 w' := by
  refine ⟨⟨h.1.1, h.1.2.1, h.1.2.2.1, fun hn => ?_⟩, h.2⟩
  obtain ⟨b, off, hb, hc⟩ := h.1.2.2.2 hn
  refine ⟨b, off, hb, fun i hi => ha.cell (hc i hi) ?_ ?_⟩
  · intro e
    simp only at e
    subst e
    have := hc i hi
    rw [hX.cell] at this
    exact h8 _ _ this
  · intro e
    simp only at e
    subst e
    have := hc i hi
    rw [hO.cell] at this
    cases this
theorem RunS.other {w w' : World} {r m mb r' mb' N N' N'' : Nat} {s : Sz} {V : Wt7} {fed fed' fed'' : List Int} (h : RunS w r m mb s V fed N) (h2 : RunS w r' m mb' s V fed' N') (ha : Away w w' r' mb') (h3 : RunS w' r' m mb' s V fed'' N'')
    (e : r ≠ r' ∧ r ≠ mb' ∧ mb ≠ r' ∧ mb ≠ mb') : RunS w' r m mb s V fed N := by
  obtain ⟨D, hO, hD⟩ := h.run.map
  obtain ⟨D', hO', _⟩ := h2.run.map
  have h8 : No8 #[Value.pointer (some ⟨m, 0, none⟩), .int .i64 (fed'.length : Nat), .map (some mb')] := no8_of (by simp)
  refine ⟨⟨(ha.block r h.run.box.lt e.1 e.2.1).trans h.run.box, D, ?_, hD.kept fun q hq => rw_away h2.run.box h8 hO' ha hq⟩, h3.mod, h3.tab, h3.stab⟩
  obtain ⟨es, clock, hh, F, hs, hd⟩ := hO
  exact ⟨es, clock, (ha.block mb (Array.getElem?_eq_some_iff.1 hh).1 e.2.2.1 e.2.2.2).trans hh, F, hs, hd⟩

/-- a token brought to a vocabulary -/
def fitI (v : Nat) (x : Int) : Int := x.tmod v % v
theorem fitI_bd (v : Nat) (hv : 0 < v) (x : Int) : 0 ≤ fitI v x ∧ fitI v x < v := by
  unfold fitI
  exact ⟨Int.emod_nonneg _ (by omega), Int.emod_lt_of_pos _ (by omega)⟩
theorem tmod_bd (v : Nat) (hv : 0 < v) (x : Int) : -(v : Int) ≤ x.tmod v ∧ x.tmod v ≤ v := by
  have h1 : (x.tmod v).natAbs < v := by
    have := Int.natAbs_tmod x v
    rw [this, Int.natAbs_natCast]
    exact Nat.mod_lt _ hv
  omega

/-- tokens that there are, no more than places -/
structure TsR (w : World) (s : Sz) (a : Option Addr) (n cap : Nat) (ts : List Int) : Prop where
  inn : Rw.In .i64 w ⟨a, n, cap, ts⟩
  bd : ∀ x ∈ ts, 0 ≤ x ∧ x < s.v
  le : n ≤ s.p
  form : (a = none ∧ n = 0 ∧ cap = 0) ∨ (0 < n ∧ ∃ b o, a = some ⟨b, o, none⟩)
section
variable {w w' : World} {s : Sz} {a : Option Addr} {n cap r mb B : Nat} {ts : List Int}
theorem TsR.bel (h : TsR w s a n cap ts) (hb : Below w.heap.size w w') : TsR w' s a n cap ts := ⟨h.inn.below hb, h.bd, h.le, h.form⟩
theorem TsR.lt (h : TsR w s a n cap ts) {b o : Nat} (e : a = some ⟨b, o, none⟩) : b < w.heap.size := by
  rcases h.form with ⟨h1, _⟩ | ⟨h0, _⟩
  · rw [h1] at e; cases e
  · obtain ⟨b', o', hb', hc⟩ := h.inn.1.2.2.2 h0
    simp only at hb'
    rw [e] at hb'
    cases hb'
    exact World.block_lt_of_cell? _ _ (hc 0 h0)
theorem TsR.away (h : TsR w s a n cap ts) (ha : Away w w' r mb) (hne : ∀ b o, a = some ⟨b, o, none⟩ → b ≠ r ∧ b ≠ mb) : TsR w' s a n cap ts :=
  ⟨⟨ha.elems h.inn.1 hne, h.inn.2⟩, h.bd, h.le, h.form⟩
end

theorem intsB (a a2 : Option Addr) (n cap cap2 : Nat) (xs : List Int) (w : World) (h : Elems .i32 w a n xs) (h2 : Elems .i32 w a2 n xs) :
    Calls Tryz.prog 13 #[.slice a n cap, .slice a2 n cap2] w fun e w' => e = .returned (.bool true) ∧ Below w.heap.size w w' := by
  refine (ints_yes a a2 n cap cap2 xs w h h2).mono ?_
  rintro e w' ⟨h1, d, rfl⟩
  exact ⟨h1, below_drewN (Below.refl _ _) d⟩
/-- a run behind the tokens fed, of however many entries -/
def RunE (w : World) (r m mb : Nat) (s : Sz) (V : Wt7) (fed : List Int) : Prop := ∃ N, RunS w r m mb s V fed N ∧ N ≤ 16 * fed.length
/-- what Feed answers behind tokens: nothing, of none; else the weights -/
def XV (w : World) (s : Sz) (V : Wt7) (ts : List Int) (n : Nat) (v : Value) : Prop := (n = 0 → v = .slice none 0 0) ∧ (0 < n → ∃ g c, v = .slice (some ⟨g, 0, none⟩) s.v c ∧ s.v ≤ c ∧ c ≤ 9223372036854775807 ∧ Elems .i32 w (some ⟨g, 0, none⟩) s.v (outO (V.nums s) (runO (V.nums s) st09 (ts.map Int.toNat)).x))
section
variable {w w' : World} {s : Sz} {V : Wt7} {m r mb r' mb' n : Nat} {fed fed' fed'' ts : List Int} {v : Value}
theorem RunE.bel (h : RunE w r m mb s V fed) (hb : Below w.heap.size w w') : RunE w' r m mb s V fed := let ⟨N, h1, h2⟩ := h; ⟨N, h1.bel hb, h2⟩
theorem RunE.lts (h : RunE w r m mb s V fed) : r < w.heap.size ∧ mb < w.heap.size := let ⟨N, h1, _⟩ := h; h1.lts
theorem RunE.mod (h : RunE w r m mb s V fed) : ModAt w m s V := let ⟨_, h1, _⟩ := h; h1.mod
theorem RunE.other (h : RunE w r m mb s V fed) (h2 : RunE w r' m mb' s V fed') (ha : Away w w' r' mb') (h3 : RunE w' r' m mb' s V fed'') (e : r ≠ r' ∧ r ≠ mb' ∧ mb ≠ r' ∧ mb ≠ mb') : RunE w' r m mb s V fed := by
  obtain ⟨N, h1, h4⟩ := h
  obtain ⟨_, h5, _⟩ := h2
  obtain ⟨_, h6, _⟩ := h3
  exact ⟨N, h1.other h5 ha h6 e, h4⟩
theorem XV.bel (h : XV w s V ts n v) (hb : Below w.heap.size w w') : XV w' s V ts n v := ⟨h.1, fun h0 => let ⟨g, c, h1, h2, h3, h4⟩ := h.2 h0; ⟨g, c, h1, h2, h3, h4.below hb⟩⟩
theorem XV.away (h : XV w s V ts n v) (hr : RunE w r m mb s V fed) (ha : Away w w' r mb) : XV w' s V ts n v := by
  refine ⟨h.1, fun h0 => ?_⟩
  obtain ⟨g, c, h1, h2, h3, h4⟩ := h.2 h0
  obtain ⟨N, h5, _⟩ := hr
  obtain ⟨D, hO, _⟩ := h5.run.map
  refine ⟨g, c, h1, h2, h3, h4.1, h4.2.1, h4.2.2.1, fun hn => ?_⟩
  obtain ⟨b, off, hb, hc⟩ := h4.2.2.2 hn
  refine ⟨b, off, hb, fun i hi => ha.cell (hc i hi) ?_ ?_⟩
  · intro e
    simp only at e
    subst e
    have := hc i hi
    rw [h5.run.box.cell] at this
    have h9 : ∀ (o : Nat) (y : Int), (#[Value.pointer (some ⟨m, 0, none⟩), .int .i64 (fed.length : Nat), .map (some mb)] : Array Value)[o]? ≠ some (.int .i32 y) := by
      intro o y
      match o with
      | 0 => simp
      | 1 => simp
      | 2 => simp
      | o + 3 => simp
    exact h9 _ _ this
  · intro e
    simp only at e
    subst e
    have := hc i hi
    rw [hO.cell] at this
    cases this
theorem placeE (r m mb n : Nat) (s : Sz) (V : Wt7) (fed : List Int) (w : World) (h : RunE w r m mb s V fed) (hn : fed.length = n) :
    Calls Tryz.prog 14 #[.pointer (some ⟨r, 0, none⟩)] w fun e w' => e = .returned (.int .i64 n) ∧ w = w' := by
  obtain ⟨N, h1, _⟩ := h
  rw [← hn]
  exact place8 r m mb _ 0 N _ s w h1.run
end

end Go.Proofs.YtoeihigdndkjeaaGreatDoor

/-
  A model of a small shape, and the document's run of it, as the statements of stage 8 make them.
-/
namespace Go.Proofs.YtoeihigdndkjeaaGreatDoor
open Go.RowKit Go.Shelf
set_option linter.unusedVariables false
attribute [local go_sem] Oper.semAt_some

/-- a field of a shape by value -/
theorem run_field8 (a0 a1 a2 a3 a4 a5 : Value) (W : World) : (Instr.field 45 (.agg #[a0, a1, a2, a3, a4, a5]) 4).run Tryz.prog W = .ok a4 W ∧ (Instr.field 45 (.agg #[a0, a1, a2, a3, a4, a5]) 5).run Tryz.prog W = .ok a5 W ∧ (Instr.field 45 (.agg #[a0, a1, a2, a3, a4, a5]) 0).run Tryz.prog W = .ok a0 W :=
  ⟨by kernel_rfl, by kernel_rfl, by kernel_rfl⟩
/-- the cells of a run of the document's: weights, and nothing kept -/
def rcells (W : Wt7) : Array Value := #[.int .i64 W.l, .int .i64 W.w, .int .i64 W.h, .int .i64 W.i, .int .i64 W.v, .int .i64 W.p, .int .i64 W.e.r, .int .i64 W.e.c, .slice W.e.a W.e.n W.e.cap, .slice W.ba W.bn W.bcap, .slice W.t.a W.t.n W.t.cap, .int .i64 W.hd.r, .int .i64 W.hd.c, .slice W.hd.a W.hd.n W.hd.cap, .slice none 0 0]
def Makes8 (w0 w : World) (e : Ending) : Prop := ∃ m rr s W V, e = .returned (.tuple #[.pointer (some ⟨m, 0, none⟩), .pointer (some ⟨rr, 0, none⟩)]) ∧ w0.heap.size ≤ m ∧ w0.heap.size ≤ rr ∧ Box w rr 53 (rcells W) ∧ MadeM w m s W V

end Go.Proofs.YtoeihigdndkjeaaGreatDoor

/-
  The document's examples of stage 8: awake returns true.
-/
namespace Go.Proofs.YtoeihigdndkjeaaGreatDoor
open Go.RowKit Go.Shelf
set_option linter.unusedVariables false
attribute [local go_sem] Oper.semAt_some

end Go.Proofs.YtoeihigdndkjeaaGreatDoor
