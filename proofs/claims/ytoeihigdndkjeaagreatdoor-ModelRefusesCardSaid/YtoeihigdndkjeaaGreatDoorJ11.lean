import Derived.Test.YtoeihigdndkjeaaGreatDoorJ01
import Derived.Test.YtoeihigdndkjeaaGreatDoorJ02
import Derived.Test.YtoeihigdndkjeaaGreatDoorJ03
import Derived.Test.YtoeihigdndkjeaaGreatDoorJ06
import Derived.Test.YtoeihigdndkjeaaGreatDoorJ09
import Derived.Test.YtoeihigdndkjeaaGreatDoorJ10
import Derived.Test.YtoeihigdndkjeaaGreatDoorJ04
import Derived.Test.YtoeihigdndkjeaaGreatDoorJ08
import Derived.Maps.AppendAt
import Derived.Laws.OwnMore
import Derived.Deep.CutRange
import Derived.Maps.RangeWalk
import Derived.Deep.RegionHeld3
import Derived.Defers
import Derived.Test.YtoeihigdndkjeaaGreatDoorJ07
/-
  A token's way through a model, as plain mathematics: of lists of numbers; what is kept, by layer and place.
-/
namespace Go.Proofs.YtoeihigdndkjeaaGreatDoor
open Go.RowKit
set_option linter.unusedVariables false

/-- a matrix's sides -/
def matB8 (r c : Nat) (g : Gr) : Prop := g.r = r ∧ g.c = c ∧ g.n = r * c

/-- a block's numbers -/
structure Blk8 where
  f : List Int
  q : List Int
  k : List Int
  v : List Int
  o : List Int
  s : List Int
  u : List Int
  d : List Int
deriving Inhabited
/-- a model's numbers -/
structure Wn8 where
  s : Sz
  e : List Int
  bs : List Blk8
  t : List Int
  hd : List Int

noncomputable def invO (xs : List Int) : Int := Classical.choose (inv_ex (msq xs) (msq_bd xs).1)
theorem invO_is (xs : List Int) : IsInv (msq xs) (invO xs) := Classical.choose_spec (inv_ex (msq xs) (msq_bd xs).1)
open Classical in
noncomputable def topO (xs : List Int) : Int := if h : ∃ m, IsTop xs m then Classical.choose h else 0
theorem topO_is {xs : List Int} {n : Nat} (hl : xs.length = n) (h0 : 0 < n) : IsTop xs (topO xs) := by
  have h := top_ex hl h0
  unfold topO
  rw [dif_pos h]
  exact Classical.choose_spec h

/-- a row brought to one size -/
noncomputable def normO (g x : List Int) (n : Nat) : List Int := norms (invO x) g x n
/-- a product, brought down -/
def smallO (m a : List Int) (R C : Nat) : List Int := (mv m a R C).map (qua · 1 7)
/-- H heads of a row, turned -/
def headsO (H hw : Nat) (p : Int) (x : List Int) : List Int := (List.range H).flatMap fun h => turnL p (rowOf x hw h) hw
def mixV (ws : List Int) (vs : List (List Int)) (n m : Nat) : List Int := (List.range m).map fun p => mix1 (((List.range n).map fun i => ws.getD i 0 * (vs.getD i []).getD p 0).sum)
theorem mixL_V (ws : List Int) (qs : List Rw) (n m : Nat) : mixL ws qs n m = mixV ws (qs.map (·.v)) n m := by
  unfold mixL mixV msum
  have h : ∀ i, (qs.getD i default).v = (qs.map (·.v)).getD i [] := by
    intro i
    rw [List.getD_eq_getElem?_getD, List.getD_eq_getElem?_getD, List.getElem?_map]
    cases qs[i]? <;> rfl
  simp only [h]
/-- keys and values -/
abbrev KV8 := List Int × List Int
def scoresO (hw h : Nat) (q : List Int) (ps : List KV8) : List Int := ps.map fun kv => wsum (prods (rowOf q hw h) (rowOf kv.1 hw h))
noncomputable def ansO (hw h : Nat) (q : List Int) (ps : List KV8) : List Int :=
  mixV (soft 64 0 (topO (scoresO hw h q ps)) (scoresO hw h q ps)) (ps.map fun kv => rowOf kv.2 hw h) ps.length hw

noncomputable def qO (s : Sz) (b : Blk8) (p : Nat) (x : List Int) : List Int := headsO s.h (s.w / s.h) p (smallO b.q (normO b.f x s.w) s.w s.w)
noncomputable def kvO (s : Sz) (b : Blk8) (p : Nat) (x : List Int) : KV8 := (headsO s.h (s.w / s.h) p (smallO b.k (normO b.f x s.w) s.w s.w), smallO b.v (normO b.f x s.w) s.w s.w)
/-- the heads' answers, one behind the other -/
noncomputable def ansAll (s : Sz) (q : List Int) (ps : List KV8) : List Int := (List.range s.h).flatMap fun h => ansO (s.w / s.h) h q ps
/-- behind the first half -/
noncomputable def attO (s : Sz) (b : Blk8) (p : Nat) (x : List Int) (ps : List KV8) : List Int := joinL 1 4 x (mv b.o (ansAll s (qO s b p x) ps) s.w s.w) s.w
/-- behind the second half -/
noncomputable def gateO (s : Sz) (b : Blk8) (x : List Int) : List Int := joinL 1 4 x (mv b.d ((smallO b.u (normO b.s x s.w) s.i s.w).map gate1) s.w s.i) s.w

/-- what is kept, by layer and place -/
abbrev KF8 := Nat → Nat → KV8
def embO (W : Wn8) (t : Nat) : List Int := (rowOf W.e W.s.w t).map (· * 16)
/-- the row ahead of a layer -/
noncomputable def layO (W : Wn8) (K : KF8) (p t : Nat) : Nat → List Int
  | 0 => embO W t
  | n + 1 => gateO W.s (W.bs.getD n default) (attO W.s (W.bs.getD n default) p (layO W K p t n) ((List.range p).map (K n) ++ [kvO W.s (W.bs.getD n default) p (layO W K p t n)]))
noncomputable def newO (W : Wn8) (K : KF8) (p t n : Nat) : KV8 := kvO W.s (W.bs.getD n default) p (layO W K p t n)
/-- of the layers below n, what a token laid at place p -/
noncomputable def partK (W : Wn8) (K : KF8) (p t n : Nat) : KF8 := fun l q => if q = p ∧ l < n then newO W K p t l else K l q
noncomputable def stepK (W : Wn8) (K : KF8) (p t : Nat) : KF8 := partK W K p t W.s.l
noncomputable def outO (W : Wn8) (x : List Int) : List Int := mv W.hd (normO W.t x W.s.w) W.s.v W.s.w

/-- a run: the last row, the place, what is kept -/
structure St8 where
  x : List Int
  p : Nat
  K : KF8
noncomputable def goO (W : Wn8) (st : St8) (t : Nat) : St8 := ⟨layO W st.K st.p t W.s.l, st.p + 1, stepK W st.K st.p t⟩
noncomputable def runO (W : Wn8) (st : St8) (ts : List Nat) : St8 := ts.foldl (goO W) st
theorem runO_nil (W : Wn8) (st : St8) : runO W st [] = st := rfl
theorem runO_app (W : Wn8) (st : St8) (a b : List Nat) : runO W st (a ++ b) = runO W (runO W st a) b := by unfold runO; rw [List.foldl_append]
theorem runO_one (W : Wn8) (st : St8) (t : Nat) : runO W st [t] = goO W st t := rfl
theorem runO_take (W : Wn8) (st : St8) (ts : List Nat) (k : Nat) (hk : k < ts.length) : runO W st (ts.take (k + 1)) = goO W (runO W st (ts.take k)) (ts.getD k 0) := by
  rw [List.take_add_one, runO_app]
  simp only [List.getD_eq_getElem?_getD, List.getElem?_eq_getElem hk, Option.toList_some, Option.getD_some]
  rfl
theorem runO_p (W : Wn8) (st : St8) (ts : List Nat) : (runO W st ts).p = st.p + ts.length := by
  induction ts generalizing st with
  | nil => rfl
  | cons t ts ih => rw [show runO W st (t :: ts) = runO W (goO W st t) ts from rfl, ih]; show st.p + 1 + _ = _; simp; omega

/-! ### how long they are, and of which numbers -/
theorem flat_length {α : Type} (n m : Nat) (f : Nat → List α) (h : ∀ i, i < n → (f i).length = m) : ((List.range n).flatMap f).length = n * m := by
  induction n with
  | zero => simp
  | succ n ih =>
    rw [List.range_succ, List.flatMap_append, List.length_append, ih (fun i hi => h i (by omega))]
    simp [h n (by omega), Nat.succ_mul]
theorem flat_snoc {α : Type} (n : Nat) (f : Nat → List α) : (List.range (n + 1)).flatMap f = (List.range n).flatMap f ++ f n := by
  rw [List.range_succ, List.flatMap_append]; simp
theorem flat_wf {kd : IntKind} (n : Nat) (f : Nat → List Int) (h : ∀ i, i < n → ∀ x ∈ f i, (Lit.int kd x).wf = true) : ∀ x ∈ (List.range n).flatMap f, (Lit.int kd x).wf = true := by
  intro x hx
  rw [List.mem_flatMap] at hx
  obtain ⟨i, hi, hx⟩ := hx
  exact h i (List.mem_range.1 hi) x hx
theorem normO_length (g x : List Int) (n : Nat) : (normO g x n).length = n := by simp [normO, norms]
theorem normO_wf (g x : List Int) (n : Nat) : ∀ c ∈ normO g x n, (Lit.int .i8 c).wf = true := norms_wf _ _ _ _
theorem smallO_length (m a : List Int) (R C : Nat) : (smallO m a R C).length = R := by simp [smallO, mv]
theorem smallO_wf (m a : List Int) (R C : Nat) : ∀ c ∈ smallO m a R C, (Lit.int .i8 c).wf = true := by
  intro c hc
  obtain ⟨y, _, rfl⟩ := List.mem_map.1 hc
  exact qua_wf _ _ _
theorem turnL_length (p : Int) (x : List Int) (n : Nat) : (turnL p x n).length = n := by simp [turnL]
theorem headsO_length (H hw : Nat) (p : Int) (x : List Int) : (headsO H hw p x).length = H * hw := flat_length _ _ _ (fun i _ => turnL_length _ _ _)
theorem headsO_wf (H hw : Nat) (p : Int) (x : List Int) : ∀ c ∈ headsO H hw p x, (Lit.int .i8 c).wf = true := flat_wf _ _ (fun i _ => turnL_wf _ _ _)
theorem mixV_length (ws : List Int) (vs : List (List Int)) (n m : Nat) : (mixV ws vs n m).length = m := by simp [mixV]
theorem mixV_wf (ws : List Int) (vs : List (List Int)) (n m : Nat) : ∀ c ∈ mixV ws vs n m, (Lit.int .i8 c).wf = true := by
  intro c hc
  obtain ⟨y, _, rfl⟩ := List.mem_map.1 hc
  exact mix1_wf _
theorem ansO_length (hw h : Nat) (q : List Int) (ps : List KV8) : (ansO hw h q ps).length = hw := mixV_length _ _ _ _
theorem ansO_wf (hw h : Nat) (q : List Int) (ps : List KV8) : ∀ c ∈ ansO hw h q ps, (Lit.int .i8 c).wf = true := mixV_wf _ _ _ _
theorem ansAll_length (s : Sz) (q : List Int) (ps : List KV8) : (ansAll s q ps).length = s.h * (s.w / s.h) := flat_length _ _ _ (fun i _ => ansO_length _ _ _ _)
theorem ansAll_wf (s : Sz) (q : List Int) (ps : List KV8) : ∀ c ∈ ansAll s q ps, (Lit.int .i8 c).wf = true := flat_wf _ _ (fun i _ => ansO_wf _ _ _ _)
theorem joinL_length (b s : Int) (x y : List Int) (n : Nat) : (joinL b s x y n).length = n := by simp [joinL]
theorem attO_length (s : Sz) (b : Blk8) (p : Nat) (x : List Int) (ps : List KV8) : (attO s b p x ps).length = s.w := joinL_length _ _ _ _ _
theorem attO_wf (s : Sz) (b : Blk8) (p : Nat) (x : List Int) (ps : List KV8) : ∀ c ∈ attO s b p x ps, (Lit.int .i32 c).wf = true := joinL_wf _ _ _ _ _
theorem gateO_length (s : Sz) (b : Blk8) (x : List Int) : (gateO s b x).length = s.w := joinL_length _ _ _ _ _
theorem gateO_wf (s : Sz) (b : Blk8) (x : List Int) : ∀ c ∈ gateO s b x, (Lit.int .i32 c).wf = true := joinL_wf _ _ _ _ _
theorem sz_heads {s : Sz} (ok : s.Ok) : s.h * (s.w / s.h) = s.w ∧ (s.w / s.h) % 2 = 0 ∧ 2 ≤ s.w / s.h ∧ s.w / s.h ≤ 128 := by
  obtain ⟨l0, l1, h0, h1, w0, w1, hm, _⟩ := ok
  have h : s.w % (2 * s.h) = 0 := by
    have : ((s.w % (2 * s.h) : Nat) : Int) = 0 := by rw [← hm]; push_cast; rfl
    exact_mod_cast this
  obtain ⟨k, hk⟩ : ∃ k, s.w = s.h * (2 * k) := ⟨s.w / (2 * s.h), by
    have := Nat.div_add_mod s.w (2 * s.h)
    rw [h, Nat.add_zero] at this
    rw [← Nat.mul_assoc, Nat.mul_comm s.h 2]
    exact this.symm⟩
  have hh : 0 < s.h := by omega
  have e : s.w / s.h = 2 * k := by rw [hk, Nat.mul_div_cancel_left _ hh]
  have hk0 : 0 < k := by
    rcases Nat.eq_zero_or_pos k with e0 | e0
    · subst e0; simp at hk; omega
    · exact e0
  have hle := Nat.div_le_self s.w s.h
  rw [e] at hle
  rw [e]
  exact ⟨hk.symm, by omega, by omega, by omega⟩

end Go.Proofs.YtoeihigdndkjeaaGreatDoor

/-
  The model's smaller steps: a row brought to one size, a product, a product brought down, a join; each in new memory.
-/
namespace Go.Proofs.YtoeihigdndkjeaaGreatDoor
open Go.RowKit
set_option linter.unusedVariables false

/-- a row of numbers is answered, in a block -/
def GivesS (kd : IntKind) (n : Nat) (xs : List Int) (e : Ending) (w' : World) : Prop :=
  ∃ g c, e = .returned (.slice (some ⟨g, 0, none⟩) n c) ∧ Elems kd w' (some ⟨g, 0, none⟩) n xs ∧ n ≤ c ∧ c ≤ 9223372036854775807
theorem rw_at {kd : IntKind} {w : World} {g n c : Nat} {xs : List Int} (h : Elems kd w (some ⟨g, 0, none⟩) n xs) (h1 : n ≤ c) (h2 : c ≤ 9223372036854775807) : Rw.In kd w ⟨some ⟨g, 0, none⟩, n, c, xs⟩ :=
  ⟨h, h1, h2, ⟨fun e => (by cases e), fun x e _ => (by cases e; rfl)⟩⟩
/-- a matrix of given sides -/
theorem matB_yes {r c : Nat} {g : Gr} (h : matB8 r c g) : g.r = r ∧ g.c = c ∧ g.n = r * c := h

theorem normed8 (ga xa : Option Addr) (n gcap xcap : Nat) (gs xs : List Int) (w : World) (hg : Elems .i8 w ga n gs) (hx : Elems .i32 w xa n xs) (h0 : 0 < n) (hn : n ≤ 1000) :
    Calls Tryz.prog 37 #[.slice ga n gcap, .slice xa n xcap] w fun e w' => GivesS .i8 n (normO gs xs n) e w' ∧ Below w.heap.size w w' := by
  have hc := norm_some ga xa n gcap xcap gs xs (invO xs) w hg hx h0 hn (invO_is xs)
  clear hg hx
  go_enter Tryz.func37, Tryz.ntmps37
  go_wp2_with fail
  refine hc.mono ?_
  rintro e w1 ⟨⟨g, rfl, hE⟩, hb⟩
  clear hc
  go_wp2
  go_ret
  exact ⟨⟨g, n, rfl, hE, Nat.le_refl _, by omega⟩, hb⟩

theorem product8 (g : Gr) (q : Rw) (R C : Nat) (hm : matB8 R C g) (e4 : q.n = C) (hR : R ≤ 1000) (hC : C ≤ 1000) (w : World) (hg : g.In8 w) (hq : q.In .i8 w) :
    Calls Tryz.prog 36 #[.agg #[.int .i64 g.r, .int .i64 g.c, .slice g.a g.n g.cap], .slice q.a q.n q.cap] w fun e w' => GivesS .i32 R (mv g.v q.v R C) e w' ∧ Below w.heap.size w w' := by
  obtain ⟨e1, e2, e3⟩ := hm
  have hle : R * C ≤ 1000 * 1000 := Nat.mul_le_mul hR hC
  have B1 : ∀ o, Below w.heap.size w (w.alloc o) := fun o => (Below.refl _ _).alloc (Nat.le_refl _) o
  have hc := fun o => apply_yes g q R C e1 e2 e3 e4 (by omega) (by omega) (by omega) (w.alloc o) (hg.below (B1 o)) (hq.below (B1 o))
  obtain ⟨gr, gc, ga, gn, gcap, gv⟩ := g
  obtain ⟨qa, qn, qcap, qv⟩ := q
  simp only at hc e1 e2 e3 e4 ⊢
  clear hg hq e1 e2 e3 e4
  go_enter Tryz.func36, Tryz.ntmps36
  go_wp2_with fail
  refine (hc _).mono ?_
  rintro e w1 ⟨⟨g, rfl, _, hE⟩, hb⟩
  have hb1 := (B1 _).trans (hb.mono (by simp))
  clear hc hb B1
  go_wp2
  go_ret
  exact ⟨⟨g, R, rfl, hE, Nat.le_refl _, by omega⟩, hb1⟩

theorem small8 (g : Gr) (q : Rw) (R C : Nat) (hm : matB8 R C g) (e4 : q.n = C) (hR : R ≤ 1000) (hC : C ≤ 1000) (w : World) (hg : g.In8 w) (hq : q.In .i8 w) :
    Calls Tryz.prog 83 #[.agg #[.int .i64 g.r, .int .i64 g.c, .slice g.a g.n g.cap], .slice q.a q.n q.cap] w fun e w' => GivesS .i8 R (smallO g.v q.v R C) e w' ∧ Below w.heap.size w w' := by
  have B1 : ∀ o, Below w.heap.size w (w.alloc o) := fun o => (Below.refl _ _).alloc (Nat.le_refl _) o
  have hc := fun o => product8 g q R C hm e4 hR hC (w.alloc o) (hg.below (B1 o)) (hq.below (B1 o))
  obtain ⟨gr, gc, ga, gn, gcap, gv⟩ := g
  obtain ⟨qa, qn, qcap, qv⟩ := q
  simp only at hc e4 ⊢
  clear hg hq e4 hm
  go_enter Tryz.func83, Tryz.ntmps83
  go_wp2_with fail
  refine (hc _).mono ?_
  rintro e w1 ⟨⟨g, c, rfl, hE, _, _⟩, hb⟩
  have hb1 := (B1 _).trans (hb.mono (by simp))
  have hq := quants 1 7 (some ⟨g, 0, none⟩) R c _ w1 hE (by omega) (by decide) (by decide)
  clear hc hb B1 hE
  go_wp2_with fail
  refine hq.mono ?_
  rintro e w2 ⟨g2, rfl, hE2, hb2⟩
  have hb3 := below_two hb1 hb2
  clear hq hb2
  go_wp2
  go_ret
  exact ⟨⟨g2, R, rfl, hE2, Nat.le_refl _, by omega⟩, hb3⟩

theorem joined8 (xa ya : Option Addr) (n xcap ycap : Nat) (xs ys : List Int) (w : World) (hx : Elems .i32 w xa n xs) (hy : Elems .i32 w ya n ys) (hn : n ≤ 1000) :
    Calls Tryz.prog 84 #[.slice xa n xcap, .slice ya n ycap] w fun e w' => GivesS .i32 n (joinL 1 4 xs ys n) e w' ∧ Below w.heap.size w w' := by
  have hc := join_yes xa ya n xcap ycap 1 4 xs ys w hx hy (by omega) (by decide) (by decide)
  clear hx hy
  go_enter Tryz.func84, Tryz.ntmps84
  go_wp2_with fail
  refine hc.mono ?_
  rintro e w1 ⟨⟨g, rfl, hE⟩, hb⟩
  clear hc
  go_wp2
  go_ret
  exact ⟨⟨g, n, rfl, hE, Nat.le_refl _, by omega⟩, hb⟩

end Go.Proofs.YtoeihigdndkjeaaGreatDoor

/-
  Weights as they stand in memory: a block, a slice of blocks, the whole; their rows in the file's order.
-/
namespace Go.Proofs.YtoeihigdndkjeaaGreatDoor
open Go.RowKit
set_option linter.unusedVariables false

/-- a block: two rows of gains, six matrices -/
structure Bk7 where
  x : Rw
  y : Rw
  q : Gr
  k : Gr
  v : Gr
  o : Gr
  u : Gr
  d : Gr
deriving Inhabited
/-- a matrix's numbers, as a row -/
def Gr.row (g : Gr) : Rw := ⟨g.a, g.n, g.cap, g.v⟩
def Bk7.cells (b : Bk7) : Array Value := #[.slice b.x.a b.x.n b.x.cap, .slice b.y.a b.y.n b.y.cap, .int .i64 b.q.r, .int .i64 b.q.c, .slice b.q.a b.q.n b.q.cap, .int .i64 b.k.r, .int .i64 b.k.c, .slice b.k.a b.k.n b.k.cap, .int .i64 b.v.r, .int .i64 b.v.c, .slice b.v.a b.v.n b.v.cap, .int .i64 b.o.r, .int .i64 b.o.c, .slice b.o.a b.o.n b.o.cap, .int .i64 b.u.r, .int .i64 b.u.c, .slice b.u.a b.u.n b.u.cap, .int .i64 b.d.r, .int .i64 b.d.c, .slice b.d.a b.d.n b.d.cap]
def Bk7.In (w : World) (b : Bk7) : Prop := b.x.In .i8 w ∧ b.y.In .i8 w ∧ b.q.In8 w ∧ b.k.In8 w ∧ b.v.In8 w ∧ b.o.In8 w ∧ b.u.In8 w ∧ b.d.In8 w
theorem Gr.In8.bel {w w' : World} {g : Gr} (h : g.In8 w) (hb : Below w.heap.size w w') : g.In8 w' := ⟨h.1.below hb, h.2⟩
theorem Bk7.In.bel {w w' : World} {b : Bk7} (h : b.In w) (hb : Below w.heap.size w w') : b.In w' := by
  obtain ⟨h1, h2, h3, h4, h5, h6, h7, h8⟩ := h
  exact ⟨h1.below hb, h2.below hb, h3.bel hb, h4.bel hb, h5.bel hb, h6.bel hb, h7.bel hb, h8.bel hb⟩
theorem Gr.In8.row {w : World} {g : Gr} (h : g.In8 w) : g.row.In .i8 w := ⟨h.1, h.2.1, h.2.2.1, h.2.2.2.1⟩

/-- n blocks at a -/
def BksAt (w : World) (a : Option Addr) (n : Nat) (bs : List Bk7) : Prop :=
  bs.length = n ∧ n ≤ 9223372036854775807 ∧ (∀ b ∈ bs, b.In w) ∧
    (0 < n → ∃ g off, a = some ⟨g, off, none⟩ ∧ g < w.heap.size ∧ ∀ i, i < n → ∀ k, k < 20 → w.cell? ⟨g, off + i * 20 + k, none⟩ = (bs.getD i default).cells[k]?)
theorem BksAt.bel {w w' : World} {a : Option Addr} {n : Nat} {bs : List Bk7} (h : BksAt w a n bs) (hb : Below w.heap.size w w') : BksAt w' a n bs := by
  refine ⟨h.1, h.2.1, fun b hb' => (h.2.2.1 b hb').bel hb, fun hn => ?_⟩
  obtain ⟨g, off, rfl, hlt, hc⟩ := h.2.2.2 hn
  exact ⟨g, off, rfl, Nat.lt_of_lt_of_le hlt hb.size, fun i hi k hk => (hb.cell (p := ⟨g, _, none⟩) hlt).trans (hc i hi k hk)⟩
theorem BksAt.at_ {w : World} {a : Option Addr} {n : Nat} {bs : List Bk7} (h : BksAt w a n bs) {i : Nat} (hi : i < n) :
    ∃ g off b, a = some ⟨g, off, none⟩ ∧ g < w.heap.size ∧ (∀ k, k < 20 → w.cell? ⟨g, off + i * 20 + k, none⟩ = b.cells[k]?) ∧ Hid (bs.getD i default = b) ∧ b.In w := by
  obtain ⟨g, off, rfl, hlt, hc⟩ := h.2.2.2 (by omega)
  refine ⟨g, off, _, rfl, hlt, hc i hi, Lib.hid rfl, h.2.2.1 _ ?_⟩
  rw [List.getD_eq_getElem?_getD, List.getElem?_eq_getElem (by rw [h.1]; exact hi)]
  exact List.getElem_mem _
/-- the cells of an element, one by one -/
theorem bk_cells {w : World} {g o : Nat} {b : Bk7} (h : ∀ k, k < 20 → w.cell? ⟨g, o + k, none⟩ = b.cells[k]?) :
    w.cell? ⟨g, o, none⟩ = some (.slice b.x.a b.x.n b.x.cap) ∧ w.cell? ⟨g, o + 1, none⟩ = some (.slice b.y.a b.y.n b.y.cap) ∧ w.cell? ⟨g, o + 2, none⟩ = some (.int .i64 b.q.r) ∧ w.cell? ⟨g, o + 3, none⟩ = some (.int .i64 b.q.c) ∧ w.cell? ⟨g, o + 4, none⟩ = some (.slice b.q.a b.q.n b.q.cap) ∧ w.cell? ⟨g, o + 5, none⟩ = some (.int .i64 b.k.r) ∧ w.cell? ⟨g, o + 6, none⟩ = some (.int .i64 b.k.c) ∧ w.cell? ⟨g, o + 7, none⟩ = some (.slice b.k.a b.k.n b.k.cap) ∧ w.cell? ⟨g, o + 8, none⟩ = some (.int .i64 b.v.r) ∧ w.cell? ⟨g, o + 9, none⟩ = some (.int .i64 b.v.c) ∧ w.cell? ⟨g, o + 10, none⟩ = some (.slice b.v.a b.v.n b.v.cap) ∧ w.cell? ⟨g, o + 11, none⟩ = some (.int .i64 b.o.r) ∧ w.cell? ⟨g, o + 12, none⟩ = some (.int .i64 b.o.c) ∧ w.cell? ⟨g, o + 13, none⟩ = some (.slice b.o.a b.o.n b.o.cap) ∧ w.cell? ⟨g, o + 14, none⟩ = some (.int .i64 b.u.r) ∧ w.cell? ⟨g, o + 15, none⟩ = some (.int .i64 b.u.c) ∧ w.cell? ⟨g, o + 16, none⟩ = some (.slice b.u.a b.u.n b.u.cap) ∧ w.cell? ⟨g, o + 17, none⟩ = some (.int .i64 b.d.r) ∧ w.cell? ⟨g, o + 18, none⟩ = some (.int .i64 b.d.c) ∧ w.cell? ⟨g, o + 19, none⟩ = some (.slice b.d.a b.d.n b.d.cap) :=
  ⟨h 0 (by decide), h 1 (by decide), h 2 (by decide), h 3 (by decide), h 4 (by decide), h 5 (by decide), h 6 (by decide), h 7 (by decide), h 8 (by decide), h 9 (by decide), h 10 (by decide), h 11 (by decide), h 12 (by decide), h 13 (by decide), h 14 (by decide), h 15 (by decide), h 16 (by decide), h 17 (by decide), h 18 (by decide), h 19 (by decide)⟩

/-- weights: a shape (of whatever numbers), what they hold -/
structure Wt7 where
  l : Int
  w : Int
  h : Int
  i : Int
  v : Int
  p : Int
  e : Gr
  ba : Option Addr
  bn : Nat
  bcap : Nat
  bs : List Bk7
  t : Rw
  hd : Gr
def Wt7.cells (W : Wt7) : Array Value := #[.int .i64 W.l, .int .i64 W.w, .int .i64 W.h, .int .i64 W.i, .int .i64 W.v, .int .i64 W.p, .int .i64 W.e.r, .int .i64 W.e.c, .slice W.e.a W.e.n W.e.cap, .slice W.ba W.bn W.bcap, .slice W.t.a W.t.n W.t.cap, .int .i64 W.hd.r, .int .i64 W.hd.c, .slice W.hd.a W.hd.n W.hd.cap]
def Six64 (W : Wt7) : Prop := (-9223372036854775808 ≤ W.l ∧ W.l ≤ 9223372036854775807) ∧ (-9223372036854775808 ≤ W.w ∧ W.w ≤ 9223372036854775807) ∧ (-9223372036854775808 ≤ W.h ∧ W.h ≤ 9223372036854775807)
def Wt7.In (w : World) (W : Wt7) : Prop := W.e.In8 w ∧ W.hd.In8 w ∧ W.t.In .i8 w ∧ BksAt w W.ba W.bn W.bs ∧ W.bn ≤ W.bcap ∧ W.bcap ≤ 9223372036854775807 ∧ Six64 W
theorem Wt7.In.bel {w w' : World} {W : Wt7} (h : W.In w) (hb : Below w.heap.size w w') : W.In w' := by
  obtain ⟨h1, h2, h3, h4, h5⟩ := h
  exact ⟨h1.bel hb, h2.bel hb, h3.below hb, h4.bel hb, h5⟩

/-- a block's rows, in the file's order; the weights' -/
def Bk7.runs (b : Bk7) : List (Bool × Rw) := [(true, b.x), (false, b.q.row), (false, b.k.row), (false, b.v.row), (false, b.o.row), (true, b.y), (false, b.u.row), (false, b.d.row)]
def bruns (bs : List Bk7) : List (Bool × Rw) := bs.flatMap Bk7.runs
def Wt7.runs (W : Wt7) : List (Bool × Rw) := (false, W.e.row) :: bruns W.bs ++ [(true, W.t), (false, W.hd.row)]
/-- all numbers, in the file's order -/
def Wt7.flat (W : Wt7) : List Int := W.runs.flatMap (fun r => r.2.v)
theorem bruns_len (bs : List Bk7) : (bruns bs).length = 8 * bs.length := by
  unfold bruns
  induction bs with
  | nil => rfl
  | cons b bs ih => rw [List.flatMap_cons, List.length_append, ih]; simp [Bk7.runs]; omega
theorem bruns_step (bs : List Bk7) (k : Nat) (hk : k < bs.length) : bruns (bs.take (k + 1)) = bruns (bs.take k) ++ (bs.getD k default).runs := by
  unfold bruns
  rw [List.take_add_one, List.flatMap_append]
  simp [List.getD, List.getElem?_eq_getElem hk]

end Go.Proofs.YtoeihigdndkjeaaGreatDoor

/-
  The code's runs: its two closures, which lay rows behind a captured list.
-/
namespace Go.Proofs.YtoeihigdndkjeaaGreatDoor
open Go.RowKit
set_option linter.unusedVariables false
end Go.Proofs.YtoeihigdndkjeaaGreatDoor

/-
  The code's runs: all rows of weights, in the file's order.
-/
namespace Go.Proofs.YtoeihigdndkjeaaGreatDoor
open Go.RowKit
set_option linter.unusedVariables false

theorem box_bk {w : World} {g : Nat} {T : TypeId} {b : Bk7} (h : Box w g T b.cells) :
    w.cell? ⟨g, 0, none⟩ = some (.slice b.x.a b.x.n b.x.cap) ∧ w.cell? ⟨g, 1, none⟩ = some (.slice b.y.a b.y.n b.y.cap) ∧ w.cell? ⟨g, 2, none⟩ = some (.int .i64 b.q.r) ∧ w.cell? ⟨g, 3, none⟩ = some (.int .i64 b.q.c) ∧ w.cell? ⟨g, 4, none⟩ = some (.slice b.q.a b.q.n b.q.cap) ∧ w.cell? ⟨g, 5, none⟩ = some (.int .i64 b.k.r) ∧ w.cell? ⟨g, 6, none⟩ = some (.int .i64 b.k.c) ∧ w.cell? ⟨g, 7, none⟩ = some (.slice b.k.a b.k.n b.k.cap) ∧ w.cell? ⟨g, 8, none⟩ = some (.int .i64 b.v.r) ∧ w.cell? ⟨g, 9, none⟩ = some (.int .i64 b.v.c) ∧ w.cell? ⟨g, 10, none⟩ = some (.slice b.v.a b.v.n b.v.cap) ∧ w.cell? ⟨g, 11, none⟩ = some (.int .i64 b.o.r) ∧ w.cell? ⟨g, 12, none⟩ = some (.int .i64 b.o.c) ∧ w.cell? ⟨g, 13, none⟩ = some (.slice b.o.a b.o.n b.o.cap) ∧ w.cell? ⟨g, 14, none⟩ = some (.int .i64 b.u.r) ∧ w.cell? ⟨g, 15, none⟩ = some (.int .i64 b.u.c) ∧ w.cell? ⟨g, 16, none⟩ = some (.slice b.u.a b.u.n b.u.cap) ∧ w.cell? ⟨g, 17, none⟩ = some (.int .i64 b.d.r) ∧ w.cell? ⟨g, 18, none⟩ = some (.int .i64 b.d.c) ∧ w.cell? ⟨g, 19, none⟩ = some (.slice b.d.a b.d.n b.d.cap) :=
  ⟨h.cell 0, h.cell 1, h.cell 2, h.cell 3, h.cell 4, h.cell 5, h.cell 6, h.cell 7, h.cell 8, h.cell 9, h.cell 10, h.cell 11, h.cell 12, h.cell 13, h.cell 14, h.cell 15, h.cell 16, h.cell 17, h.cell 18, h.cell 19⟩
theorem box_wt {w : World} {g : Nat} {T : TypeId} {W : Wt7} (h : Box w g T W.cells) :
    w.cell? ⟨g, 0, none⟩ = some (.int .i64 W.l) ∧ w.cell? ⟨g, 1, none⟩ = some (.int .i64 W.w) ∧ w.cell? ⟨g, 2, none⟩ = some (.int .i64 W.h) ∧ w.cell? ⟨g, 3, none⟩ = some (.int .i64 W.i) ∧ w.cell? ⟨g, 4, none⟩ = some (.int .i64 W.v) ∧ w.cell? ⟨g, 5, none⟩ = some (.int .i64 W.p) ∧ w.cell? ⟨g, 6, none⟩ = some (.int .i64 W.e.r) ∧ w.cell? ⟨g, 7, none⟩ = some (.int .i64 W.e.c) ∧ w.cell? ⟨g, 8, none⟩ = some (.slice W.e.a W.e.n W.e.cap) ∧ w.cell? ⟨g, 9, none⟩ = some (.slice W.ba W.bn W.bcap) ∧ w.cell? ⟨g, 10, none⟩ = some (.slice W.t.a W.t.n W.t.cap) ∧ w.cell? ⟨g, 11, none⟩ = some (.int .i64 W.hd.r) ∧ w.cell? ⟨g, 12, none⟩ = some (.int .i64 W.hd.c) ∧ w.cell? ⟨g, 13, none⟩ = some (.slice W.hd.a W.hd.n W.hd.cap) :=
  ⟨h.cell 0, h.cell 1, h.cell 2, h.cell 3, h.cell 4, h.cell 5, h.cell 6, h.cell 7, h.cell 8, h.cell 9, h.cell 10, h.cell 11, h.cell 12, h.cell 13⟩
theorem bk_one (b : Bk7) : b.cells.all (·.oneCell') = true := by simp [Bk7.cells, Value.oneCell']
theorem lits1 (g : Gr) : ∀ k, k < 1 → (#[.int .i64 g.r, .int .i64 g.c, .slice g.a g.n g.cap] : Array Value)[k * 3]? = some (.int .i64 (([g] : List Gr).getD k default).r) ∧ (#[.int .i64 g.r, .int .i64 g.c, .slice g.a g.n g.cap] : Array Value)[k * 3 + 1]? = some (.int .i64 (([g] : List Gr).getD k default).c) ∧ (#[.int .i64 g.r, .int .i64 g.c, .slice g.a g.n g.cap] : Array Value)[k * 3 + 2]? = some (.slice (([g] : List Gr).getD k default).a (([g] : List Gr).getD k default).n (([g] : List Gr).getD k default).cap) := by
  intro k hk
  obtain rfl : k = 0 := by omega
  exact ⟨rfl, rfl, rfl⟩
theorem lits2 (g h : Gr) : ∀ k, k < 2 → (#[.int .i64 g.r, .int .i64 g.c, .slice g.a g.n g.cap, .int .i64 h.r, .int .i64 h.c, .slice h.a h.n h.cap] : Array Value)[k * 3]? = some (.int .i64 (([g, h] : List Gr).getD k default).r) ∧ (#[.int .i64 g.r, .int .i64 g.c, .slice g.a g.n g.cap, .int .i64 h.r, .int .i64 h.c, .slice h.a h.n h.cap] : Array Value)[k * 3 + 1]? = some (.int .i64 (([g, h] : List Gr).getD k default).c) ∧ (#[.int .i64 g.r, .int .i64 g.c, .slice g.a g.n g.cap, .int .i64 h.r, .int .i64 h.c, .slice h.a h.n h.cap] : Array Value)[k * 3 + 2]? = some (.slice (([g, h] : List Gr).getD k default).a (([g, h] : List Gr).getD k default).n (([g, h] : List Gr).getD k default).cap) := by
  intro k hk
  have : k = 0 ∨ k = 1 := by omega
  rcases this with rfl | rfl <;> exact ⟨rfl, rfl, rfl⟩
theorem lits4 (g h i j : Gr) : ∀ k, k < 4 → (#[.int .i64 g.r, .int .i64 g.c, .slice g.a g.n g.cap, .int .i64 h.r, .int .i64 h.c, .slice h.a h.n h.cap, .int .i64 i.r, .int .i64 i.c, .slice i.a i.n i.cap, .int .i64 j.r, .int .i64 j.c, .slice j.a j.n j.cap] : Array Value)[k * 3]? = some (.int .i64 (([g, h, i, j] : List Gr).getD k default).r) ∧ (#[.int .i64 g.r, .int .i64 g.c, .slice g.a g.n g.cap, .int .i64 h.r, .int .i64 h.c, .slice h.a h.n h.cap, .int .i64 i.r, .int .i64 i.c, .slice i.a i.n i.cap, .int .i64 j.r, .int .i64 j.c, .slice j.a j.n j.cap] : Array Value)[k * 3 + 1]? = some (.int .i64 (([g, h, i, j] : List Gr).getD k default).c) ∧ (#[.int .i64 g.r, .int .i64 g.c, .slice g.a g.n g.cap, .int .i64 h.r, .int .i64 h.c, .slice h.a h.n h.cap, .int .i64 i.r, .int .i64 i.c, .slice i.a i.n i.cap, .int .i64 j.r, .int .i64 j.c, .slice j.a j.n j.cap] : Array Value)[k * 3 + 2]? = some (.slice (([g, h, i, j] : List Gr).getD k default).a (([g, h, i, j] : List Gr).getD k default).n (([g, h, i, j] : List Gr).getD k default).cap) := by
  intro k hk
  have : k = 0 ∨ k = 1 ∨ k = 2 ∨ k = 3 := by omega
  rcases this with rfl | rfl | rfl | rfl <;> exact ⟨rfl, rfl, rfl⟩


end Go.Proofs.YtoeihigdndkjeaaGreatDoor

/-
  Are matrices of given sides? The document's mat, the code's sided and odd.
-/
namespace Go.Proofs.YtoeihigdndkjeaaGreatDoor
open Go.RowKit
set_option linter.unusedVariables false

/-- is a matrix of these sides? -/
def matB (r c : Nat) (g : Gr) : Bool := decide (g.r = r) && (decide (g.c = c) && decide (g.n = r * c))
/-- has it these sides, whatever its numbers? -/
def sidB (r c : Nat) (g : Gr) : Bool := decide (g.r = r) && decide (g.c = c)
theorem matB_fit {r c : Nat} (h0 : r ≤ 4096) (h1 : c ≤ 4096) (h2 : r * c ≤ 1048576) (g : Gr) : matB r c g = (sidB r c g && fitB g.r g.c g.n) := by
  unfold matB sidB
  by_cases e1 : g.r = r
  · by_cases e2 : g.c = c
    · have s1 : sideB g.r = true := by unfold sideB; exact decide_eq_true (by omega)
      have s2 : sideB g.c = true := by unfold sideB; exact decide_eq_true (by omega)
      unfold fitB rightB
      rw [s1, s2, decide_eq_true e1, decide_eq_true e2, e1, e2]
      by_cases e3 : g.n = r * c
      · rw [decide_eq_true e3, decide_eq_true (show (g.n : Int) = (r : Int) * c by rw [e3]; push_cast; rfl), decide_eq_true (by omega)]; rfl
      · have h5 : ((r * c : Nat) : Int) = (r : Int) * c := by push_cast; rfl
        have this : ¬ (g.n : Int) = (r : Int) * c := by rw [← h5]; omega
        rw [decide_eq_false e3, decide_eq_false this]; rfl
    · rw [decide_eq_false e2]; simp
  · rw [decide_eq_false e1]; simp
theorem all_and {α : Type} (p q : α → Bool) (l : List α) : l.all (fun x => p x && q x) = (l.all p && l.all q) := by
  induction l with
  | nil => rfl
  | cons x l ih => simp only [List.all_cons, ih]; cases p x <;> cases q x <;> simp
theorem sid_fit {r c : Nat} (h0 : r ≤ 4096) (h1 : c ≤ 4096) (h2 : r * c ≤ 1048576) (gs : List Gr) : gs.all (matB r c) = (gs.all (sidB r c) && fitAll gs) := by
  unfold fitAll
  rw [← all_and]
  congr 1
  funext g
  exact matB_fit h0 h1 h2 g


set_option maxHeartbeats 1600000 in
theorem sided_any (r c : Nat) (hr : r ≤ 1000) (hc : c ≤ 1000) (hp : r * c ≤ 1048576) (a : Option Addr) (n cap : Nat) (gs : List Gr) (w : World) (h : Mats w a n gs) :
    Calls Tryz.prog 97 #[.int .i64 r, .int .i64 c, .slice a n cap] w fun e w' => e = .returned (.bool (gs.all (matB r c))) ∧ Below w.heap.size w w' := by
  have hn := h.2.1
  have hl := Lib.hid h.1
  have HS := Lib.hid (sid_fit (r := r) (c := c) (by omega) (by omega) hp gs)
  have HH := Lib.hid h
  clear h hp
  go_enter Tryz.func97, Tryz.ntmps97
  go_wp2
  go_loopw [11] (fun i wr => ∃ k : Nat, k ≤ n ∧ i = .int .i64 k ∧ Hid ((gs.take k).all (sidB r c) = true) ∧ Hid (Below w.heap.size w wr)) (fun i _ => n - (intOf i).toNat)
  case atStart => exact ⟨0, by omega, rfl, Lib.hid (by simp), Lib.hid (Below.refl _ _)⟩
  case round =>
    obtain ⟨k, hk, rfl, ht, hbel⟩ := hrel
    by_cases hlt : k < n
    · obtain ⟨b, off, g, rfl, hbl, c0, c1, c2, hg, hin⟩ := (HH.out.below hbel.out).at_ hlt
      obtain ⟨hst, hend⟩ := all_step (sidB r c) gs k (by rw [hl.out]; exact hlt) g hg.out ht.out
      have HB := Lib.hid (hbel.out.alloc hbel.out.size (.cells #[.int .i64 g.r, .int .i64 g.c, .slice g.a g.n g.cap] 47))
      obtain ⟨gr, gc, ga, m, gcap, v⟩ := g
      simp only at c0 c1 c2 HB
      by_cases h1 : gr = r
      · by_cases h2 : gc = c
        · have R2 : Hid ((gs.take (k + 1)).all (sidB r c) = true) := Lib.hid (by rw [hst]; unfold sidB; rw [decide_eq_true h1, decide_eq_true h2]; rfl)
          subst h1 h2
          clear hst hend hg hin
          go_wp2
          go_roundw
          case rel => exact ⟨k + 1, by omega, by go_num, R2, HB⟩
          case measure => simp [intOf]; omega
        · have R2 : Hid (gs.all (matB r c) = false) := Lib.hid (by rw [HS.out, hend (by unfold sidB; rw [decide_eq_false h2]; simp)]; rfl)
          have e3 : (gc != (c : Int)) = true := by simp; omega
          subst h1
          clear hst hend hg hin
          go_wp2
          go_ret
          exact ⟨ret_bool R2.out.symm, HB.out⟩
      · have R2 : Hid (gs.all (matB r c) = false) := Lib.hid (by rw [HS.out, hend (by unfold sidB; rw [decide_eq_false h1]; simp)]; rfl)
        have e3 : (gr != (r : Int)) = true := by simp; omega
        clear hst hend hg hin
        go_wp2
        go_ret
        exact ⟨ret_bool R2.out.symm, HB.out⟩
    · obtain rfl : k = n := by omega
      have R : Hid (gs.all (matB r c) = fitAll gs) := Lib.hid (by
        have h1 := ht.out
        rw [List.take_of_length_le (by rw [hl.out]; omega)] at h1
        rw [HS.out, h1]; rfl)
      have hm := mright_any a k cap gs wr (HH.out.below hbel.out)
      go_wp2_with fail
      refine hm.mono ?_
      rintro e w' ⟨rfl, hb⟩
      have HB := Lib.hid (below_two hbel.out hb)
      clear hb hm
      go_wp2
      go_ret
      exact ⟨ret_bool R.out.symm, HB.out⟩

end Go.Proofs.YtoeihigdndkjeaaGreatDoor

/-
  The code's matrix: noughts in new memory.
-/
namespace Go.Proofs.YtoeihigdndkjeaaGreatDoor
open Go.RowKit
set_option linter.unusedVariables false

/-- n numbers of 8 bits, all noughts, as a block -/
def Z8 (n : Nat) : Obj := .cells (((List.replicate n (0 : Int)).map (Value.int .i8)).toArray) 64 (0, 0)
theorem z8_mine {w : World} {g n : Nat} (h : w.heap[g]? = some (Z8 n)) : MineK .i8 w g 64 (List.replicate n 0) := h
theorem mine_z8 {w : World} {g n : Nat} (h : MineK .i8 w g 64 (List.replicate n 0)) : w.heap[g]? = some (Z8 n) := h


end Go.Proofs.YtoeihigdndkjeaaGreatDoor

/-
  How many numbers of which kind weights have, in the file's order: the document's Rows, as a list; where such rows lie.
-/
namespace Go.Proofs.YtoeihigdndkjeaaGreatDoor
open Go.RowKit
set_option linter.unusedVariables false

/-- one block's rows: gains or not, how many -/
def blk7 (s : Sz) : List (Bool × Nat) := [(true, s.w), (false, s.w * s.w), (false, s.w * s.w), (false, s.w * s.w), (false, s.w * s.w), (true, s.w), (false, s.i * s.w), (false, s.w * s.i)]
/-- the first k blocks' -/
def blks (s : Sz) (k : Nat) : List (Bool × Nat) := (List.replicate k (blk7 s)).flatten
def rowsK (s : Sz) (k : Nat) : List (Bool × Nat) := (false, s.v * s.w) :: blks s k
/-- all -/
def rowsL (s : Sz) : List (Bool × Nat) := rowsK s s.l ++ [(true, s.w), (false, s.v * s.w)]
/-- how many numbers -/
def tot (rs : List (Bool × Nat)) : Nat := (rs.map Prod.snd).sum

theorem blks_succ (s : Sz) (k : Nat) : blks s (k + 1) = blks s k ++ blk7 s := by
  unfold blks; rw [List.replicate_succ', List.flatten_append]; simp
theorem rowsK_succ (s : Sz) (k : Nat) : rowsK s (k + 1) = rowsK s k ++ blk7 s := by unfold rowsK; rw [blks_succ]; rfl
theorem blks_len (s : Sz) (k : Nat) : (blks s k).length = 8 * k := by
  induction k with
  | zero => rfl
  | succ k ih => rw [blks_succ, List.length_append, ih]; simp [blk7]; omega
theorem rowsK_len (s : Sz) (k : Nat) : (rowsK s k).length = 8 * k + 1 := by unfold rowsK; rw [List.length_cons, blks_len]
theorem rowsL_len (s : Sz) : (rowsL s).length = 8 * s.l + 3 := by unfold rowsL; rw [List.length_append, rowsK_len]; rfl
theorem tot_app (a b : List (Bool × Nat)) : tot (a ++ b) = tot a + tot b := by unfold tot; rw [List.map_append, List.sum_append]
theorem tot_blks (s : Sz) (k : Nat) : tot (blks s k) = k * (2 * s.w + 4 * (s.w * s.w) + 2 * (s.i * s.w)) := by
  induction k with
  | zero => simp [blks, tot]
  | succ k ih =>
    have e : tot (blk7 s) = 2 * s.w + 4 * (s.w * s.w) + 2 * (s.i * s.w) := by
      simp only [blk7, tot, List.map_cons, List.map_nil, List.sum_cons, List.sum_nil, Nat.mul_comm s.w s.i]
      omega
    rw [blks_succ, tot_app, ih, e]
    exact (Nat.succ_mul _ _).symm
theorem tot_rows (s : Sz) : tot (rowsL s) = cnt s := by
  unfold rowsL rowsK
  rw [tot_app]
  have e : tot ((false, s.v * s.w) :: blks s s.l) = s.v * s.w + tot (blks s s.l) := by simp [tot]
  rw [e, tot_blks]
  unfold cnt
  simp [tot]; omega
theorem tot_take_le (rs : List (Bool × Nat)) (k : Nat) : tot (rs.take k) ≤ tot rs := by
  have : tot rs = tot (rs.take k) + tot (rs.drop k) := by rw [← tot_app, List.take_append_drop]
  omega
theorem tot_step (rs : List (Bool × Nat)) (k : Nat) (hk : k < rs.length) : tot (rs.take (k + 1)) = tot (rs.take k) + (rs.getD k default).2 := by
  rw [List.take_add_one, tot_app]
  simp [tot, List.getD, List.getElem?_eq_getElem hk]
theorem tot_at (rs : List (Bool × Nat)) (k : Nat) (hk : k < rs.length) : tot (rs.take k) + (rs.getD k default).2 ≤ tot rs := by
  rw [← tot_step _ _ hk]; exact tot_take_le _ _

/-- a row's two cells -/
def rcell (r : Bool × Nat) : List Value := [.bool r.1, .int .i64 r.2]
theorem rcell_len (rs : List (Bool × Nat)) : (rs.flatMap rcell).length = rs.length * 2 := by
  induction rs with
  | nil => rfl
  | cons r rs ih => rw [List.flatMap_cons, List.length_append, ih]; simp [rcell]; omega
theorem rcell_at (rs : List (Bool × Nat)) (k : Nat) (hk : k < rs.length) : (rs.flatMap rcell)[k * 2]? = some (.bool (rs.getD k default).1) ∧ (rs.flatMap rcell)[k * 2 + 1]? = some (.int .i64 ((rs.getD k default).2 : Nat)) := by
  induction rs generalizing k with
  | nil => simp at hk
  | cons r rs ih =>
    cases k with
    | zero => simp [rcell]
    | succ k =>
      obtain ⟨h1, h2⟩ := ih k (by simpa using hk)
      have e1 : (k + 1) * 2 = k * 2 + 2 := by omega
      rw [List.flatMap_cons, e1]
      simp only [rcell, List.cons_append, List.nil_append, List.getElem?_cons_succ, List.getD_cons_succ]
      exact ⟨h1, h2⟩

/-- rows as they lie: n of them, from a on -/
def RowsAt (w : World) (a : Option Addr) (n : Nat) (rs : List (Bool × Nat)) : Prop :=
  rs.length = n ∧ ∃ b, a = some ⟨b, 0, none⟩ ∧ b < w.heap.size ∧ ∀ k, k < n → w.cell? ⟨b, k * 2, none⟩ = some (.bool (rs.getD k default).1) ∧ w.cell? ⟨b, k * 2 + 1, none⟩ = some (.int .i64 ((rs.getD k default).2 : Nat))
theorem RowsAt.below {w w' : World} {a : Option Addr} {n : Nat} {rs : List (Bool × Nat)} (h : RowsAt w a n rs) (hb : Below w.heap.size w w') : RowsAt w' a n rs := by
  obtain ⟨h1, b, rfl, hlt, h2⟩ := h
  refine ⟨h1, b, rfl, Nat.lt_of_lt_of_le hlt hb.size, fun k hk => ?_⟩
  obtain ⟨c0, c1⟩ := h2 k hk
  exact ⟨(hb.cell (p := ⟨b, _, none⟩) hlt).trans c0, (hb.cell (p := ⟨b, _, none⟩) hlt).trans c1⟩
theorem rowsAt_of_own {w : World} {base : Nat} {e : TypeId} {v : Value} {n : Nat} {rs : List (Bool × Nat)} (h : w.ownsRow base e 2 v n (rs.flatMap rcell)) (hn : 0 < n) : ∃ a cap, v = .slice a n cap ∧ RowsAt w a n rs ∧ n ≤ 9223372036854775807 := by
  have hl : rs.length = n := by have := h.1; rw [rcell_len] at this; omega
  rcases h.2 with ⟨_, h0⟩ | ⟨g, cap, cur, hv, hb, hg, hnc, hcm, hcs, ht⟩
  · omega
  · unfold maxLen at hcm
    refine ⟨_, _, hv, ⟨hl, g, rfl, (Array.getElem?_eq_some_iff.1 hg).1, fun k hk => ?_⟩, by omega⟩
    obtain ⟨e0, e1⟩ := rcell_at rs k (by omega)
    rw [← ht] at e0 e1
    rw [List.getElem?_take, if_pos (by omega), Array.getElem?_toList] at e0 e1
    rw [cell_of_row w g _ cur e (0, 0) hg, cell_of_row w g _ cur e (0, 0) hg]
    exact ⟨e0, e1⟩

theorem info_row : (Tryz.prog.info? 140).map (fun i => (i.zero, i.size, i.bytes)) = some (some (.agg #[.bool false, .int .i64 0]), 2, 16) := by kernel_rfl

/-- some rows more, behind rows of the call's own: the append as a run -/
theorem run_append_rows (w : World) (base : Nat) (v : Value) (n m : Nat) (rs ms : List (Bool × Nat)) (cs : Array Value) (hcs : cs.toList = ms.flatMap rcell) (hown : w.ownsRow base 140 2 v n (rs.flatMap rcell)) (hm : ms.length = m) (hn : n ≤ 1000) (hm2 : m ≤ 1000) (hbase : base ≤ w.heap.size) :
    ∃ v' w', Sem.run Tryz.prog (Builtin.append_ #[137, 137] 137 #[v, .slice (some ⟨w.heap.size, 0, none⟩) m m]) (w.alloc (.cells cs 140)) = .ok v' w' ∧
      w'.ownsRow base 140 2 v' (n + m) ((rs ++ ms).flatMap rcell) ∧ w.grownBy w' v.ownBlock := by
  obtain ⟨i0, hi, hz0, hz1, hz2⟩ : ∃ i, Tryz.prog.info? 140 = some i ∧ i.zero = some (.agg #[.bool false, .int .i64 0]) ∧ i.size = 2 ∧ i.bytes = 16 := by
    have h := info_row
    cases hh : Tryz.prog.info? 140 with
    | none => rw [hh] at h; cases h
    | some i =>
      rw [hh] at h
      simp only [Option.map_some, Option.some.injEq, Prod.mk.injEq] at h
      exact ⟨i, rfl, h.1, h.2.1, h.2.2⟩
  have hnews := World.news_of_block (cs := cs) (t := 140) (fr := (0, 0)) (heap_alloc_new w (.cells cs 140))
  obtain ⟨v', w', hr, h2, h3, _⟩ := run_append_own_at (P := Tryz.prog) (w.alloc (.cells cs 140)) base 137 137 140 i0 _ 2 16 Tryz.underlying137 hi hz0 hz1 hz2 rfl (by omega) v n _ (hown.alloc _)
    ⟨w.heap.size, 0, none⟩ m m (ms.flatMap rcell) (by rw [rcell_len, hm]) (by rw [← hcs]; exact hnews) (by
      intro u hu
      obtain ⟨g, _, hu⟩ := List.mem_flatMap.1 hu
      simp only [rcell, List.mem_cons, List.not_mem_nil, or_false] at hu
      rcases hu with rfl | rfl <;> rfl) (by unfold maxLen; omega) (by omega) (by simp; omega)
  exact ⟨v', w', hr, by rw [List.flatMap_append]; exact h2, (World.grownBy_alloc w _ _).trans h3⟩

end Go.Proofs.YtoeihigdndkjeaaGreatDoor

/-
  The code's block of noughts: eight rows, each in new memory of its own.
-/
namespace Go.Proofs.YtoeihigdndkjeaaGreatDoor
open Go.RowKit
set_option linter.unusedVariables false

/-- the cells of a block whose rows lie in the blocks g 0 .. g 7 (the file's order), of W columns and I inner ones -/
def bkv (W I : Nat) (g : Nat → Nat) : Array Value := #[.slice (some ⟨(g 0), 0, none⟩) (W : Nat) (W : Nat), .slice (some ⟨(g 5), 0, none⟩) (W : Nat) (W : Nat), .int .i64 (W : Nat), .int .i64 (W : Nat), .slice (some ⟨(g 1), 0, none⟩) (W * W : Nat) (W * W : Nat), .int .i64 (W : Nat), .int .i64 (W : Nat), .slice (some ⟨(g 2), 0, none⟩) (W * W : Nat) (W * W : Nat), .int .i64 (W : Nat), .int .i64 (W : Nat), .slice (some ⟨(g 3), 0, none⟩) (W * W : Nat) (W * W : Nat), .int .i64 (W : Nat), .int .i64 (W : Nat), .slice (some ⟨(g 4), 0, none⟩) (W * W : Nat) (W * W : Nat), .int .i64 (I : Nat), .int .i64 (W : Nat), .slice (some ⟨(g 6), 0, none⟩) (I * W : Nat) (I * W : Nat), .int .i64 (W : Nat), .int .i64 (I : Nat), .slice (some ⟨(g 7), 0, none⟩) (W * I : Nat) (W * I : Nat)]
theorem bkv_size (W I : Nat) (g : Nat → Nat) : (bkv W I g).size = 20 := rfl
theorem bkv_one (W I : Nat) (g : Nat → Nat) : (bkv W I g).all (·.oneCell') = true := by simp [bkv, Value.oneCell']
/-- the numbers of the k-th row -/
def dim7 (W I : Nat) : List Nat := [W, W * W, W * W, W * W, W * W, W, I * W, W * I]


end Go.Proofs.YtoeihigdndkjeaaGreatDoor

/-
  The code's blank weights, the first stretch: matrices, rows and blocks of noughts.
-/
namespace Go.Proofs.YtoeihigdndkjeaaGreatDoor
open Go.RowKit
set_option linter.unusedVariables false

/-- the cells of weights: six numbers, two matrices, n blocks, a row -/
def wval (L W H I V P : Nat) (e b t h : Nat) : Array Value := #[.int .i64 L, .int .i64 W, .int .i64 H, .int .i64 I, .int .i64 V, .int .i64 P, .int .i64 V, .int .i64 W, .slice (some ⟨e, 0, none⟩) (V * W : Nat) (V * W : Nat), .slice (some ⟨b, 0, none⟩) L L, .slice (some ⟨t, 0, none⟩) W W, .int .i64 V, .int .i64 W, .slice (some ⟨h, 0, none⟩) (V * W : Nat) (V * W : Nat)]
theorem wval_one (L W H I V P e b t h : Nat) : (wval L W H I V P e b t h).all (·.oneCell') = true := by simp [wval, Value.oneCell']
/-- the zero values of a block and of weights -/
def zblk : Array Value := #[.slice none 0 0, .slice none 0 0, .int .i64 0, .int .i64 0, .slice none 0 0, .int .i64 0, .int .i64 0, .slice none 0 0, .int .i64 0, .int .i64 0, .slice none 0 0, .int .i64 0, .int .i64 0, .slice none 0 0, .int .i64 0, .int .i64 0, .slice none 0 0, .int .i64 0, .int .i64 0, .slice none 0 0]
def zwts : Array Value := #[.int .i64 0, .int .i64 0, .int .i64 0, .int .i64 0, .int .i64 0, .int .i64 0, .int .i64 0, .int .i64 0, .slice none 0 0, .slice none 0 0, .slice none 0 0, .int .i64 0, .int .i64 0, .slice none 0 0]
def ZW : Obj := .cells zwts 50 (0, 0)
def ZB (n : Nat) : Obj := .cells (madeCells zblk (n * 20)) 66 (0, 0)
theorem weights_made (w : World) : (w.alloc ZW).heap[w.heap.size]? = some ZW := heap_alloc_new w _
theorem blocks_made (w : World) (n : Nat) : (w.alloc (ZB n)).heap[w.heap.size]? = some (ZB n) := heap_alloc_new w _
theorem infoBlk : ∃ i, Tryz.prog.info? 66 = some i ∧ i.zero = some (.agg zblk) ∧ i.size = 20 ∧ i.bytes = 288 := by
  have h : (Tryz.prog.info? 66).map (fun i => (i.zero, i.size, i.bytes)) = some (some (.agg zblk), 20, 288) := by kernel_rfl
  cases hh : Tryz.prog.info? 66 with
  | none => rw [hh] at h; cases h
  | some i => rw [hh] at h; simp only [Option.map_some, Option.some.injEq, Prod.mk.injEq] at h; exact ⟨i, rfl, h.1, h.2.1, h.2.2⟩
/-- make([]api.Block, n) -/
theorem run_make_blocks (n : Nat) (hn : n ≤ 16) (w : World) : (Instr.makeSlice 48 (.int .i64 (n : Int)) (.int .i64 (n : Int))).run Tryz.prog w = .ok (.slice (some ⟨w.heap.size, 0, none⟩) n n) (w.alloc (ZB n)) := by
  obtain ⟨i, hi, hz, hs, hby⟩ := infoBlk
  have hr := run_make (P := Tryz.prog) w 48 66 i _ Tryz.underlying48 hi hz .i64 .i64 n n (by omega) (by omega) (by rw [hby]; omega) (by omega)
  simp only [Int.toNat_natCast, hs] at hr
  exact hr

/-- what blank answers: every row of noughts in a block of its own, the blocks' cells as they must be -/
def Blank (s : Sz) (w : World) (e : Ending) (w' : World) : Prop := ∃ (G : Nat → Nat) (b : Nat) (cs : Array Value), e = .returned (.agg (wval s.l s.w s.h s.i s.v s.p (G 0) b (G (8 * s.l + 1)) (G (8 * s.l + 2)))) ∧
  (∀ j r, (rowsL s)[j]? = some r → w.heap.size ≤ G j ∧ w'.heap[G j]? = some (Z8 r.2)) ∧ (∀ i j, i < 8 * s.l + 3 → j < 8 * s.l + 3 → i ≠ j → G i ≠ G j) ∧
  w.heap.size ≤ b ∧ Box w' b 66 cs ∧ cs.size = 20 * s.l ∧ (∀ c, c < s.l → ∀ k, k < 20 → cs[c * 20 + k]? = (bkv s.w s.i (fun k => G (1 + 8 * c + k)))[k]?)

theorem rowsL_zero (s : Sz) : (rowsL s)[0]? = some (false, s.v * s.w) := rfl
theorem rowsL_last (s : Sz) : (rowsL s)[8 * s.l + 1]? = some (true, s.w) := by
  unfold rowsL; rw [List.getElem?_append_right (by rw [rowsK_len]; omega), rowsK_len, Nat.sub_self]; rfl
theorem rowsL_head (s : Sz) : (rowsL s)[8 * s.l + 2]? = some (false, s.v * s.w) := by
  unfold rowsL; rw [List.getElem?_append_right (by rw [rowsK_len]; omega), rowsK_len, show 8 * s.l + 2 - (8 * s.l + 1) = 1 by omega]; rfl
theorem blks_at (s : Sz) (n c k : Nat) (hc : c < n) (hk : k < 8) : (blks s n)[8 * c + k]? = (blk7 s)[k]? := by
  induction n with
  | zero => omega
  | succ n ih =>
    rw [blks_succ]
    by_cases h : c < n
    · rw [List.getElem?_append_left (by rw [blks_len]; omega), ih h]
    · obtain rfl : c = n := by omega
      rw [List.getElem?_append_right (by rw [blks_len]; omega), blks_len, Nat.add_sub_cancel_left]
theorem rowsL_blk (s : Sz) (c k : Nat) (hc : c < s.l) (hk : k < 8) : (rowsL s)[1 + 8 * c + k]? = (blk7 s)[k]? := by
  unfold rowsL rowsK
  rw [List.getElem?_append_left (by rw [List.length_cons, blks_len]; omega), show 1 + 8 * c + k = (8 * c + k) + 1 by omega, List.getElem?_cons_succ]
  exact blks_at s s.l c k hc hk
theorem dim_blk (s : Sz) (k : Nat) : (dim7 s.w s.i)[k]? = ((blk7 s)[k]?).map Prod.snd := by
  rw [← List.getElem?_map]; rfl

/-- what blank's loop keeps, k blocks being laid -/
def BInv (s : Sz) (B k : Nat) (G : Nat → Nat) (b : Nat) (w : World) : Prop :=
  (∀ j r, (rowsL s)[j]? = some r → (j < 1 + 8 * k ∨ 8 * s.l + 1 ≤ j) → B ≤ G j ∧ w.heap[G j]? = some (Z8 r.2)) ∧
  (∀ i j, i < 8 * s.l + 3 → j < 8 * s.l + 3 → (i < 1 + 8 * k ∨ 8 * s.l + 1 ≤ i) → (j < 1 + 8 * k ∨ 8 * s.l + 1 ≤ j) → i ≠ j → G i ≠ G j) ∧
  ∃ cs, Box w b 66 cs ∧ cs.size = 20 * s.l ∧ ∀ c, c < k → ∀ q, q < 20 → cs[c * 20 + q]? = (bkv s.w s.i (fun k => G (1 + 8 * c + k)))[q]?

theorem bkv_congr (W I : Nat) (g g' : Nat → Nat) (h : ∀ x, x < 8 → g x = g' x) : bkv W I g = bkv W I g' := by
  unfold bkv
  rw [h 0 (by omega), h 1 (by omega), h 2 (by omega), h 3 (by omega), h 4 (by omega), h 5 (by omega), h 6 (by omega), h 7 (by omega)]
/-- one block more -/
theorem BInv.next {s : Sz} {B k : Nat} {G : Nat → Nat} {b : Nat} {w w' : World} (h : BInv s B k G b w) (hk : k < s.l) (g : Nat → Nat) (hb : Below w.heap.size w w') (hB : B ≤ w.heap.size)
    (hg : ∀ q n, (dim7 s.w s.i)[q]? = some n → w.heap.size ≤ g q ∧ w'.heap[g q]? = some (Z8 n)) (hd : ∀ i j, i < 8 → j < 8 → i ≠ j → g i ≠ g j) (hbb : B ≤ b) :
    ∃ cur G', Box w' b 66 cur ∧ k * 20 + 20 ≤ cur.size ∧ G' 0 = G 0 ∧ G' (8 * s.l + 1) = G (8 * s.l + 1) ∧ G' (8 * s.l + 2) = G (8 * s.l + 2) ∧ BInv s B (k + 1) G' b (w'.setRow b (mid cur (k * 20) (bkv s.w s.i g))) := by
  obtain ⟨h1, h2, cs, hbx, hcs, hat⟩ := h
  have hfit : k * 20 + (bkv s.w s.i g).size ≤ cs.size := by rw [bkv_size, hcs]; omega
  have hbx' := hbx.bel hb
  have hold : ∀ j, (j < 1 + 8 * k ∨ 8 * s.l + 1 ≤ j) → j < 8 * s.l + 3 → G j < w.heap.size := by
    intro j hm hj
    obtain ⟨r, hr⟩ : ∃ r, (rowsL s)[j]? = some r := ⟨_, List.getElem?_eq_getElem (by rw [rowsL_len]; exact hj)⟩
    exact (Array.getElem?_eq_some_iff.1 (h1 j r hr hm).2).1
  have hnew : ∀ q, q < 8 → w.heap.size ≤ g q := by
    intro q hq
    obtain ⟨n, hn⟩ : ∃ n, (dim7 s.w s.i)[q]? = some n := ⟨_, List.getElem?_eq_getElem (by simp [dim7]; omega)⟩
    exact (hg q n hn).1
  refine ⟨cs, fun j => if 1 + 8 * k ≤ j ∧ j < 1 + 8 * k + 8 then g (j - (1 + 8 * k)) else G j, hbx', by rw [hcs]; omega, ?_, ?_, ?_, ?_, ?_, ?_⟩
  · show (if 1 + 8 * k ≤ 0 ∧ _ then _ else _) = _; rw [if_neg (by omega)]
  · show (if 1 + 8 * k ≤ 8 * s.l + 1 ∧ _ then _ else _) = _; rw [if_neg (by omega)]
  · show (if 1 + 8 * k ≤ 8 * s.l + 2 ∧ _ then _ else _) = _; rw [if_neg (by omega)]
  · intro j r hj hm
    have hj3 : j < 8 * s.l + 3 := by have := (List.getElem?_eq_some_iff.1 hj).1; rw [rowsL_len] at this; exact this
    have hz : ∀ (G0 n : Nat), w'.heap[G0]? = some (Z8 n) → (w'.setRow b (mid cs (k * 20) (bkv s.w s.i g))).heap[G0]? = some (Z8 n) := by
      intro G0 n h0
      refine (setRow_other w' b G0 _ (fun e => ?_)).trans h0
      rw [e] at h0
      have := h0.symm.trans hbx'
      simp [Z8] at this
    by_cases hin : 1 + 8 * k ≤ j ∧ j < 1 + 8 * k + 8
    · simp only [if_pos hin]
      have he : j = 1 + 8 * k + (j - (1 + 8 * k)) := by omega
      have hr : (blk7 s)[j - (1 + 8 * k)]? = some r := by rw [← rowsL_blk s k _ hk (by omega), ← he]; exact hj
      obtain ⟨e1, e2⟩ := hg (j - (1 + 8 * k)) r.2 (by rw [dim_blk, hr]; rfl)
      exact ⟨by omega, hz _ _ e2⟩
    · simp only [if_neg hin]
      obtain ⟨e1, e2⟩ := h1 j r hj (by omega)
      exact ⟨e1, hz _ _ ((hb.block _ (hold j (by omega) hj3)).trans e2)⟩
  · intro i j hi hj mi mj hne
    by_cases ii : 1 + 8 * k ≤ i ∧ i < 1 + 8 * k + 8
    · simp only [if_pos ii]
      have a1 := hnew (i - (1 + 8 * k)) (by omega)
      by_cases jj : 1 + 8 * k ≤ j ∧ j < 1 + 8 * k + 8
      · simp only [if_pos jj]
        exact hd _ _ (by omega) (by omega) (by omega)
      · simp only [if_neg jj]
        have a2 := hold j (by omega) hj
        omega
    · simp only [if_neg ii]
      have a1 := hold i (by omega) hi
      by_cases jj : 1 + 8 * k ≤ j ∧ j < 1 + 8 * k + 8
      · simp only [if_pos jj]
        have a2 := hnew (j - (1 + 8 * k)) (by omega)
        omega
      · simp only [if_neg jj]
        exact h2 i j hi hj (by omega) (by omega) hne
  · refine ⟨_, hbx'.setRow, by rw [mid_size _ _ _ hfit]; exact hcs, fun c hc q hq => ?_⟩
    by_cases e : c = k
    · subst e
      rw [mid_at _ _ _ hfit q (by rw [bkv_size]; exact hq)]
      rw [bkv_congr s.w s.i g _ (fun x hx => ?_)]
      show g x = if 1 + 8 * c ≤ 1 + 8 * c + x ∧ 1 + 8 * c + x < 1 + 8 * c + 8 then g (1 + 8 * c + x - (1 + 8 * c)) else G (1 + 8 * c + x)
      rw [if_pos (by omega), Nat.add_sub_cancel_left]
    · rw [mid_far _ _ _ hfit _ (by rw [bkv_size]; omega), hat c (by omega) q hq]
      rw [bkv_congr s.w s.i _ _ (fun x hx => ?_)]
      show G (1 + 8 * c + x) = if 1 + 8 * k ≤ 1 + 8 * c + x ∧ 1 + 8 * c + x < 1 + 8 * k + 8 then g (1 + 8 * c + x - (1 + 8 * k)) else G (1 + 8 * c + x)
      rw [if_neg (by omega)]


end Go.Proofs.YtoeihigdndkjeaaGreatDoor

/-
  The document's product brought down, and heads turned, of stage 8.
-/
namespace Go.Proofs.YtoeihigdndkjeaaGreatDoor
open Go.RowKit
set_option linter.unusedVariables false

/-- a block of elements of a type -/
def IsT (w : World) (g : Nat) (X : TypeId) : Prop := ∃ cur fr, w.heap[g]? = some (.cells cur X fr)
theorem IsT.ne {w : World} {g g' : Nat} {X Y : TypeId} (h : IsT w g X) (k : IsT w g' Y) (hne : X ≠ Y) : g ≠ g' := by
  rintro rfl
  obtain ⟨c, f, e⟩ := h
  obtain ⟨c', f', e'⟩ := k
  rw [e] at e'
  simp only [Option.some.injEq, Obj.cells.injEq] at e'
  exact hne e'.2.1
theorem IsT.lt {w : World} {g : Nat} {X : TypeId} (h : IsT w g X) : g < w.heap.size := let ⟨_, _, e⟩ := h; (Array.getElem?_eq_some_iff.1 e).1
theorem own_isT {w : World} {base : Nat} {T : TypeId} {sz n : Nat} {v : Value} {xs : List Value} (h : w.ownsRow base T sz v n xs) {k : Nat} (hk : v.ownBlock = some k) : IsT w k T := by
  rcases h.2 with ⟨rfl, _⟩ | ⟨g, cap, cur, rfl, _, hg, _⟩
  · cases hk
  · simp only [Value.ownBlock, Option.some.injEq] at hk
    subst hk
    exact ⟨cur, (0, 0), hg⟩
/-- a row of numbers of 8 bits, in a block of such -/
def RowT (w : World) (q : Rw) : Prop := q.In .i8 w ∧ ∀ x, q.a = some x → IsT w x.block 64
/-- a row of numbers of 8 bits of one's own is answered -/
def GivesD (v : List Int) (n : Nat) (w0 w : World) (e : Ending) : Prop := ∃ g : Rw, e = .returned (.slice g.a g.n g.cap) ∧ RowT w g ∧ g.v = v ∧ g.n = n ∧ (∀ x, g.a = some x → w0.heap.size ≤ x.block) ∧ w.ownsRow w0.heap.size 64 1 (.slice g.a g.n g.cap) n (v.map (.int .i8))
theorem own_from {w : World} {B B' : Nat} {T : TypeId} {sz n : Nat} {v : Value} {xs : List Value} (h : w.ownsRow B T sz v n xs) (hle : B' ≤ B) : w.ownsRow B' T sz v n xs := by
  refine ⟨h.1, ?_⟩
  rcases h.2 with h1 | ⟨g, cap, cur, e, hb, rest⟩
  · exact .inl h1
  · exact .inr ⟨g, cap, cur, e, Nat.le_trans hle hb, rest⟩

theorem applyE (g : Gr) (qa : Option Addr) (qcap : Nat) (qv : List Int) (R C : Nat) (e1 : g.r = R) (e2 : g.c = C) (e3 : g.n = R * C) (hR : R ≤ 4096) (hC : C ≤ 4096) (hle : R * C ≤ 1048576) (w : World) (hg : g.In8 w) (hq : Elems .i8 w qa C qv) :
    Calls Tryz.prog 50 #[.agg #[.int .i64 g.r, .int .i64 g.c, .slice g.a g.n g.cap], .slice qa C qcap] w fun e w' => (∃ ua ucap, e = .returned (.tuple #[.slice ua R ucap, .bool true]) ∧ Elems .i32 w' ua R (mv g.v qv R C)) ∧ Below w.heap.size w w' := by
  obtain ⟨gr, gc, ga, gn, gcap, gv⟩ := g
  simp only at e1 e2 e3 ⊢
  subst e1 e2 e3
  exact doc_apply_walk R C ga gcap gv qa qcap qv w hg.1 hq hR hC hle

set_option maxHeartbeats 4000000 in
set_option maxRecDepth 100000 in
theorem quantsD (g : Gr) (qa : Option Addr) (qcap : Nat) (qv : List Int) (R C : Nat) (e1 : g.r = R) (e2 : g.c = C) (e3 : g.n = R * C) (hR : R ≤ 4096) (hC : C ≤ 4096) (hle : R * C ≤ 1048576) (w : World) (hg : g.In8 w) (hq : Elems .i8 w qa C qv) :
    Calls Tryz.prog 46 #[.agg #[.int .i64 g.r, .int .i64 g.c, .slice g.a g.n g.cap], .slice qa C qcap] w fun e w' => GivesD (smallO g.v qv R C) R w w' e ∧ Below w.heap.size w w' := by
  have hb1 := (Below.refl w.heap.size w).alloc (Nat.le_refl _) (.cells #[.int .i64 g.r, .int .i64 g.c, .slice g.a g.n g.cap] 47)
  have cA := applyE g qa qcap qv R C e1 e2 e3 hR hC hle _ ⟨hg.1.below hb1, hg.2⟩ (hq.below hb1)
  have HB1 := Lib.hid hb1
  clear hg hq hb1 e1 e2 e3
  go_enter Tryz.func46, Tryz.ntmps46
  go_wp2_with fail
  refine cA.mono ?_
  rintro e wa ⟨⟨ua, ucap, rfl, hE⟩, hb⟩
  have HE := Lib.hid hE
  have HBA := Lib.hid (below_two HB1.out hb)
  clear cA hE hb HB1
  go_wp2_with fail
  go_loopw [7, 8] (fun o i wr => ∃ k : Nat, k ≤ R ∧ i = .int .i64 k ∧ Hid (wr.ownsRow wa.heap.size 64 1 o k ((((mv g.v qv R C).take k).map (qua · 1 7)).map (.int .i8))) ∧ Hid (Below wa.heap.size wa wr)) (fun _ i _ => R - (intOf i).toNat)
  case atStart => exact ⟨0, by omega, rfl, Lib.hid (own_nil _ _ _), Lib.hid (Below.refl _ _)⟩
  case round =>
    obtain ⟨k, hk, rfl, ho, hb⟩ := hrel
    by_cases hlt : k < R
    · obtain ⟨bb, off, y, hua, hc, HY, hw⟩ := (HE.out.below hb.out).at_ hlt
      subst hua
      have hy := wf32 hw
      have hsc : ∀ W, Calls Tryz.prog 74 #[.int .i32 y, .int .i32 1, .int .i64 7, .int .i64 (-128), .int .i64 127] W fun e w' => e = .returned (.int .i64 (near (shr (y * 1) 7) (-128) 127)) ∧ W = w' := fun W => ref_scale y 1 7 _ _ hy.1 hy.2 (by omega) (by omega) W
      obtain ⟨z, hz⟩ : ∃ z, near (shr (y * 1) 7) (-128) 127 = z := ⟨_, rfl⟩
      have hzb : -128 ≤ z ∧ z ≤ 127 := by rw [← hz]; have := wf8 (qua_wf y 1 7); unfold qua at this; exact this
      rw [hz] at hsc
      have hzw : IntKind.i8.wrap z = z := by unfold IntKind.wrap; simp [IntKind.bits, IntKind.signed]; omega
      obtain ⟨v2, w2, hrun, ho2, hg2, _⟩ := run_append_lits (P := Tryz.prog) .i8 wr wa.heap.size 24 64 1 (by omega) Tryz.underlying24 info_i8 _ k 1 _ [z] #[.int .i8 z] rfl rfl ho.out (by omega) (by omega) hb.out.size
      have HO : Hid (w2.ownsRow wa.heap.size 64 1 v2 (k + 1) ((((mv g.v qv R C).take (k + 1)).map (qua · 1 7)).map (.int .i8))) := Lib.hid (by
        have h9 : k < (mv g.v qv R C).length := by rw [HE.out.1]; exact hlt
        have h8 := HY.out
        rw [List.getD_eq_getElem?_getD, List.getElem?_eq_getElem h9] at h8
        simp only [Option.getD_some] at h8
        rw [List.take_add_one, List.getElem?_eq_getElem h9, h8, List.map_append, List.map_append]
        have : qua y 1 7 = z := by unfold qua; exact hz
        simpa [this] using ho2)
      have HB2 := Lib.hid (hb.out.grown hg2 hb.out.size (fun j hj => (ho.out.lt j hj).1))
      clear ho2 hg2 hz hw HY
      go_wp2_with (first
        | (go_at_call 74; (with_reducible refine (hsc _).mono ?_); rintro e w' ⟨rfl, rfl⟩)
        | (at_builtin; refine wpList_append_at (by rfl) _ _ _ (by rfl) _ _ (by rfl) (by rfl) hrun ?_))
      clear hrun hsc
      go_roundw
      case rel => exact ⟨k + 1, by omega, by go_num, HO, HB2⟩
      case measure => simp [intOf]; omega
    · obtain rfl : k = R := by omega
      obtain ⟨a, cap, hv, hEl, c1, c2, c3, c4⟩ := own_lies ho.out (fun c hc => by
        obtain ⟨x, _, rfl⟩ := List.mem_map.1 hc
        exact qua_wf _ _ _) (by omega)
      have hsp : ∀ x, a = some x → x.spot = none := fun x hx => by
        rcases ho.out.2 with ⟨h1, _⟩ | ⟨g', cap', cur, h1, _⟩
        · rw [hv, hx] at h1; cases h1
        · rw [hv, hx] at h1; cases h1; rfl
      have HF : Hid (GivesD (smallO g.v qv k C) k w wr (.returned (.slice a k cap))) := Lib.hid ⟨⟨a, k, cap, smallO g.v qv k C⟩, rfl, ⟨⟨by
        have e : (mv g.v qv k C).take k = mv g.v qv k C := List.take_of_length_le (by rw [HE.out.1]; exact Nat.le_refl _)
        rw [e] at hEl
        exact hEl, c1, c2, ⟨c3, fun x hx _ => hsp x hx⟩⟩, fun x hx => own_isT ho.out (by rw [hv]; simp only at hx; rw [hx]; rfl)⟩, rfl, rfl, fun x hx => by
          have h3 := ho.out.lt x.block (by rw [hv]; simp only at hx; rw [hx]; rfl)
          exact Nat.le_trans HBA.out.size h3.1, by
          have h4 := own_from ho.out HBA.out.size
          rw [hv] at h4
          have e : (mv g.v qv k C).take k = mv g.v qv k C := List.take_of_length_le (by rw [HE.out.1]; exact Nat.le_refl _)
          rw [e] at h4
          exact h4⟩
      have HB3 := Lib.hid (below_two HBA.out hb.out)
      clear ho hb hEl c1 c2 c3 c4
      subst hv
      go_wp2
      go_ret
      exact ⟨HF.out, HB3.out⟩

set_option maxHeartbeats 4000000 in
set_option maxRecDepth 100000 in
theorem turnedD (place : Int) (H hw : Nat) (hH : 1 ≤ H) (hH2 : H ≤ 16) (h2 : 2 ≤ hw) (h3 : hw ≤ 128) (he : hw % 2 = 0) (q : Rw) (hn : q.n = H * hw) (w : World) (hq : q.In .i8 w) :
    Calls Tryz.prog 45 #[.int .i64 place, .int .i64 hw, .slice q.a q.n q.cap] w fun e w' => GivesD (headsO H hw place q.v) (H * hw) w w' e ∧ Below w.heap.size w w' := by
  obtain ⟨qa, qn, qcap, qv⟩ := q
  simp only at hn ⊢
  have hm : H * hw ≤ 16 * 128 := Nat.mul_le_mul hH2 h3
  have hp : 1 * 2 ≤ H * hw := Nat.mul_le_mul hH h2
  obtain ⟨b, off, hqa, -⟩ := hq.1.2.2.2 (by show 0 < qn; omega)
  simp only at hqa
  subst hqa
  have HQ : Hid (Elems .i8 w (some ⟨b, off, none⟩) qn qv) := Lib.hid hq.1
  have hc1 : qn ≤ qcap := hq.2.1
  have hc2 : qcap ≤ 9223372036854775807 := hq.2.2.1
  have HN := Lib.hid hn
  have hnb : qn ≤ 2048 := by omega
  have hcT := fun (xs : List Int) (a : Option Addr) (c : Nat) (W : World) (hx : Elems .i8 W a hw xs) => ref_turn6 place a hw c xs W hx (by omega) he
  clear hq hn hm hp
  go_enter Tryz.func45, Tryz.ntmps45
  go_wp2_with fail
  go_loopw [7, 8] (fun o i wr => ∃ k A : Nat, k ≤ H ∧ i = .int .i64 A ∧ Hid (A = k * hw) ∧ Hid (wr.ownsRow w.heap.size 64 1 o A ((headsO k hw place qv).map (.int .i8))) ∧ Hid (Below w.heap.size w wr)) (fun _ i _ => qn - (intOf i).toNat)
  case atStart => exact ⟨0, 0, by omega, rfl, Lib.hid (Nat.zero_mul _).symm, Lib.hid (own_nil _ _ _), Lib.hid (Below.refl _ _)⟩
  case round =>
    obtain ⟨k, A, hk, rfl, hA, ho, hb⟩ := hrel
    by_cases hlt : k < H
    · have hle : (k + 1) * hw ≤ H * hw := Nat.mul_le_mul_right _ hlt
      obtain ⟨r, hr⟩ : ∃ r, A + hw = r := ⟨_, rfl⟩
      have hrA : r = (k + 1) * hw := by rw [← hr, hA.out, Nat.add_mul, Nat.one_mul]
      have hrn : r ≤ qn := by rw [HN.out, hrA]; exact hle
      have l1 : A < qn := by omega
      have l2 : (A : Int) ≤ (r : Int) := by omega
      have l3 : (r : Int) ≤ (qcap : Int) := by omega
      have l4 : ¬ qcap = A := by omega
      have l5 : r - A = hw := by omega
      have hwr : IntKind.i64.wrap ((A : Int) + (hw : Int)) = (r : Int) := by rw [← hr]; unfold IntKind.wrap; simp [IntKind.bits, IntKind.signed]; omega
      have hsum : (A : Int) + (hw : Int) = (r : Int) := by omega
      have hE := ((HQ.out.below hb.out).drop A (by omega)).take hw (by omega)
      have cT := hcT _ _ (qcap - A) wr hE
      have HR := Lib.hid (And.intro hr hrA)
      clear hr hrA hle hE
      go_wp2_with fail
      refine cT.mono ?_
      rintro e ws ⟨⟨ba, bc, rfl, hE⟩, hbs⟩
      have how := own_below ho.out hbs
      have hba : ba = none → bc = 0 := fun e => by
        obtain ⟨b', o', hb', _⟩ := hE.2.2.2 (by omega)
        rw [e] at hb'
        cases hb'
      obtain ⟨v2, w2, hrun, ho2, hg2, _⟩ := run_append_elems (P := Tryz.prog) .i8 ws w.heap.size 24 64 1 (by omega) Tryz.underlying24 info_i8 _ A _ how ba hw bc _ hE hba (by omega) (by omega) (below_two hb.out hbs).size
      have HO : Hid (w2.ownsRow w.heap.size 64 1 v2 r ((headsO (k + 1) hw place qv).map (.int .i8))) := Lib.hid (by
        rw [← HR.out.1]
        have e1 : headsO (k + 1) hw place qv = headsO k hw place qv ++ turnL place ((qv.drop A).take hw) hw := by
          unfold headsO
          rw [flat_snoc, hA.out]
          rfl
        rw [e1]
        exact ho2)
      have HB2 := Lib.hid ((below_two hb.out hbs).grown hg2 (below_two hb.out hbs).size (fun j hj => (how.lt j hj).1))
      have HA2 : Hid (r = (k + 1) * hw) := Lib.hid HR.out.2
      clear ho2 hg2 how hE hbs cT hba ho hb hA
      go_wp2_with (at_builtin; refine wpList_append_at (by rfl) _ _ _ (by rfl) _ _ (by rfl) (by rfl) hrun ?_)
      clear hrun
      go_roundw
      case rel => exact ⟨k + 1, r, by omega, rfl, HA2, HO, HB2⟩
      case measure => simp [intOf]; omega
    · obtain rfl : k = H := by omega
      have hAn : A = qn := by rw [hA.out, HN.out]
      have hge : ¬ A < qn := by omega
      have hge2 : ¬ (A : Int) < (qn : Int) := by omega
      obtain ⟨a, cap, hv, hEl, c1, c2, c3, c4⟩ := own_lies ho.out (headsO_wf _ _ _ _) (by omega)
      have hsp : ∀ x, a = some x → x.spot = none := fun x hx => by
        rcases ho.out.2 with ⟨h1, _⟩ | ⟨g', cap', cur, h1, _⟩
        · rw [hv, hx] at h1; cases h1
        · rw [hv, hx] at h1; cases h1; rfl
      have HF : Hid (GivesD (headsO k hw place qv) (k * hw) w wr (.returned (.slice a A cap))) := Lib.hid ⟨⟨a, A, cap, headsO k hw place qv⟩, rfl, ⟨⟨hEl, c1, c2, ⟨c3, fun x hx _ => hsp x hx⟩⟩, fun x hx => own_isT ho.out (by rw [hv]; simp only at hx; rw [hx]; rfl)⟩, rfl, hA.out, fun x hx => by
          have h3 := ho.out.lt x.block (by rw [hv]; simp only at hx; rw [hx]; rfl)
          exact h3.1, by
          have h4 := ho.out
          rw [hv] at h4
          rw [hA.out] at h4 ⊢
          exact h4⟩
      have HB3 := hb
      clear ho hb hEl c1 c2 c3 c4 hsp hAn hA
      subst hv
      go_wp2
      go_ret
      exact ⟨HF.out, HB3.out⟩

end Go.Proofs.YtoeihigdndkjeaaGreatDoor

/-
  Weights made of rows that lie each in a block of its own: what they are, their runs, their numbers.
-/
namespace Go.Proofs.YtoeihigdndkjeaaGreatDoor
open Go.RowKit
set_option linter.unusedVariables false

/-- row j: where it lies, its numbers -/
def rowG (G : Nat → Nat) (n : Nat) (V : Nat → List Int) (j : Nat) : Rw := ⟨some ⟨G j, 0, none⟩, n, n, V j⟩
def matG (G : Nat → Nat) (r c : Nat) (V : Nat → List Int) (j : Nat) : Gr := ⟨r, c, some ⟨G j, 0, none⟩, r * c, r * c, V j⟩
def blkG (s : Sz) (G : Nat → Nat) (V : Nat → List Int) (c : Nat) : Bk7 :=
  ⟨rowG G s.w V (1 + 8 * c), rowG G s.w V (1 + 8 * c + 5), matG G s.w s.w V (1 + 8 * c + 1), matG G s.w s.w V (1 + 8 * c + 2), matG G s.w s.w V (1 + 8 * c + 3), matG G s.w s.w V (1 + 8 * c + 4), matG G s.i s.w V (1 + 8 * c + 6), matG G s.w s.i V (1 + 8 * c + 7)⟩
def mkW (s : Sz) (G : Nat → Nat) (b : Nat) (V : Nat → List Int) : Wt7 :=
  ⟨s.l, s.w, s.h, s.i, s.v, s.p, matG G s.v s.w V 0, some ⟨b, 0, none⟩, s.l, s.l, (List.range s.l).map (blkG s G V), rowG G s.w V (8 * s.l + 1), matG G s.v s.w V (8 * s.l + 2)⟩
theorem mkW_cells (s : Sz) (G : Nat → Nat) (b : Nat) (V : Nat → List Int) : (mkW s G b V).cells = wval s.l s.w s.h s.i s.v s.p (G 0) b (G (8 * s.l + 1)) (G (8 * s.l + 2)) := rfl
theorem blkG_cells (s : Sz) (G : Nat → Nat) (V : Nat → List Int) (c : Nat) : (blkG s G V c).cells = bkv s.w s.i (fun k => G (1 + 8 * c + k)) := rfl

/-- run j, by its number -/
def runG (s : Sz) (G : Nat → Nat) (V : Nat → List Int) (j : Nat) : Bool × Rw := (((rowsL s).getD j default).1, rowG G ((rowsL s).getD j default).2 V j)
theorem getD_of {α : Type} [Inhabited α] {l : List α} {j : Nat} {x : α} (h : l[j]? = some x) : l.getD j default = x := by rw [List.getD_eq_getElem?_getD, h]; rfl

theorem blkG_runs (s : Sz) (G : Nat → Nat) (V : Nat → List Int) (c : Nat) (hc : c < s.l) : (blkG s G V c).runs = (List.range 8).map (fun k => runG s G V (1 + 8 * c + k)) := by
  have h : ∀ k r, k < 8 → (blk7 s)[k]? = some r → runG s G V (1 + 8 * c + k) = (r.1, rowG G r.2 V (1 + 8 * c + k)) := by
    intro k r hk hr
    unfold runG
    rw [getD_of ((rowsL_blk s c k hc hk).trans hr)]
  show _ = [runG s G V (1 + 8 * c + 0), runG s G V (1 + 8 * c + 1), runG s G V (1 + 8 * c + 2), runG s G V (1 + 8 * c + 3), runG s G V (1 + 8 * c + 4), runG s G V (1 + 8 * c + 5), runG s G V (1 + 8 * c + 6), runG s G V (1 + 8 * c + 7)]
  rw [h 0 _ (by omega) rfl, h 1 _ (by omega) rfl, h 2 _ (by omega) rfl, h 3 _ (by omega) rfl, h 4 _ (by omega) rfl, h 5 _ (by omega) rfl, h 6 _ (by omega) rfl, h 7 _ (by omega) rfl]
  rfl

theorem range_app (f : Nat → Bool × Rw) (a b : Nat) : (List.range (a + b)).map f = (List.range a).map f ++ (List.range b).map (fun k => f (a + k)) := by
  rw [List.range_add, List.map_append, List.map_map]; rfl

theorem mkW_runs (s : Sz) (G : Nat → Nat) (b : Nat) (V : Nat → List Int) : (mkW s G b V).runs = (List.range (8 * s.l + 3)).map (runG s G V) := by
  have h0 : runG s G V 0 = (false, (matG G s.v s.w V 0).row) := by unfold runG; rw [getD_of (rowsL_zero s)]; rfl
  have h1 : runG s G V (8 * s.l + 1) = (true, rowG G s.w V (8 * s.l + 1)) := by unfold runG; rw [getD_of (rowsL_last s)]
  have h2 : runG s G V (8 * s.l + 2) = (false, (matG G s.v s.w V (8 * s.l + 2)).row) := by unfold runG; rw [getD_of (rowsL_head s)]; rfl
  have hb : ∀ n, n ≤ s.l → bruns ((List.range n).map (blkG s G V)) = (List.range (8 * n)).map (fun k => runG s G V (1 + k)) := by
    intro n
    induction n with
    | zero => intro _; rfl
    | succ n ih =>
      intro hn
      have e : bruns ((List.range (n + 1)).map (blkG s G V)) = bruns ((List.range n).map (blkG s G V)) ++ (blkG s G V n).runs := by
        unfold bruns
        rw [List.range_succ, List.map_append, List.flatMap_append]
        simp
      rw [e, ih (by omega), blkG_runs s G V n (by omega), show 8 * (n + 1) = 8 * n + 8 by omega, range_app]
      congr 1
  unfold Wt7.runs
  show (false, (matG G s.v s.w V 0).row) :: bruns ((List.range s.l).map (blkG s G V)) ++ [(true, rowG G s.w V (8 * s.l + 1)), (false, (matG G s.v s.w V (8 * s.l + 2)).row)] = _
  rw [hb s.l (Nat.le_refl _), ← h0, ← h1, ← h2, show 8 * s.l + 3 = (1 + 8 * s.l) + 2 by omega, range_app, range_app]
  have e2 : (List.range 2).map (fun k => runG s G V (1 + 8 * s.l + k)) = [runG s G V (8 * s.l + 1), runG s G V (8 * s.l + 2)] := by
    show [runG s G V (1 + 8 * s.l + 0), runG s G V (1 + 8 * s.l + 1)] = _
    rw [show 1 + 8 * s.l + 0 = 8 * s.l + 1 by omega, show 1 + 8 * s.l + 1 = 8 * s.l + 2 by omega]
  rw [e2]
  rfl

/-- the numbers of weights whose row j has the numbers f (off j), f (off j + 1), .. -/
theorem flat_of (rs : List (Bool × Nat)) (f : Nat → Int) (g : Nat → List Int) (h : ∀ j, j < rs.length → g j = (List.range (rs.getD j default).2).map (fun x => f (tot (rs.take j) + x))) :
    ∀ n, n ≤ rs.length → ((List.range n).map g).flatten = (List.range (tot (rs.take n))).map f := by
  intro n
  induction n with
  | zero => intro _; rfl
  | succ n ih =>
    intro hn
    rw [List.range_succ, List.map_append, List.flatten_append, ih (by omega), tot_step _ _ (by omega), List.range_add, List.map_append, List.map_map]
    congr 1
    simp only [List.map_cons, List.map_nil, List.flatten_cons, List.flatten_nil, List.append_nil]
    rw [h n (by omega)]
    rfl
theorem mkW_flat (s : Sz) (G : Nat → Nat) (b : Nat) (V : Nat → List Int) (f : Nat → Int) (h : ∀ j, j < 8 * s.l + 3 → V j = (List.range ((rowsL s).getD j default).2).map (fun x => f (tot ((rowsL s).take j) + x))) : (mkW s G b V).flat = (List.range (cnt s)).map f := by
  unfold Wt7.flat
  rw [mkW_runs, List.flatMap_map]
  have h1 := flat_of (rowsL s) f V (fun j hj => h j (by rw [rowsL_len] at hj; exact hj)) (8 * s.l + 3) (by rw [rowsL_len]; exact Nat.le_refl _)
  rw [List.take_of_length_le (by rw [rowsL_len]; exact Nat.le_refl _), tot_rows] at h1
  rw [← h1]
  rfl

theorem blk7_len (s : Sz) : (blk7 s).length = 8 := rfl
/-- such weights stand in memory -/
theorem mkW_in (s : Sz) (ok : s.Ok) (G : Nat → Nat) (b : Nat) (V : Nat → List Int) (w : World) (cs : Array Value) (hV : ∀ j r, (rowsL s)[j]? = some r → MineK .i8 w (G j) 64 (V j) ∧ (V j).length = r.2 ∧ ∀ x ∈ V j, (Lit.int .i8 x).wf = true)
    (hb : Box w b 66 cs) (hcs : ∀ c, c < s.l → ∀ k, k < 20 → cs[c * 20 + k]? = (bkv s.w s.i (fun k => G (1 + 8 * c + k)))[k]?) : (mkW s G b V).In w := by
  obtain ⟨hl, hh, hw0, hi, hv, hp⟩ := ok.bd
  have a1 := mul_bd hv.2 hw0.2
  have a2 := mul_bd hw0.2 hw0.2
  have a3 := mul_bd hi.2 hw0.2
  have a4 := mul_bd hw0.2 hi.2
  have hrow : ∀ j n, (rowsL s)[j]? = some (true, n) ∨ (rowsL s)[j]? = some (false, n) → n ≤ 131072 → Elems .i8 w (some ⟨G j, 0, none⟩) n (V j) := by
    intro j n hj hn
    have : ∃ r, (rowsL s)[j]? = some r ∧ r.2 = n := by rcases hj with h | h <;> exact ⟨_, h, rfl⟩
    obtain ⟨r, h1, h2⟩ := this
    obtain ⟨m1, m2, m3⟩ := hV j r h1
    exact m1.elems (by rw [m2, h2]) (by omega) m3
  have hR : ∀ j n, (rowsL s)[j]? = some (true, n) ∨ (rowsL s)[j]? = some (false, n) → n ≤ 131072 → (rowG G n V j).In .i8 w := fun j n hj hn =>
    ⟨hrow j n hj hn, Nat.le_refl _, by show n ≤ _; omega, ⟨fun e => (by cases e), fun x e _ => (by cases e; rfl)⟩⟩
  have hM : ∀ j r c, (rowsL s)[j]? = some (true, r * c) ∨ (rowsL s)[j]? = some (false, r * c) → r * c ≤ 131072 → r ≤ 1000 → c ≤ 1000 → (matG G r c V j).In8 w := fun j r c hj hn hr hc =>
    ⟨hrow j _ hj hn, Nat.le_refl _, by show r * c ≤ _; omega, ⟨fun e => (by cases e), fun x e _ => (by cases e; rfl)⟩, by show _ ≤ (r : Int); omega, by show (r : Int) ≤ _; omega, by show _ ≤ (c : Int); omega, by show (c : Int) ≤ _; omega⟩
  have hB : ∀ c, c < s.l → (blkG s G V c).In w := by
    intro c hc
    have e : ∀ k r, k < 8 → (blk7 s)[k]? = some r → (rowsL s)[1 + 8 * c + k]? = some r := fun k r hk hr => (rowsL_blk s c k hc hk).trans hr
    exact ⟨hR _ _ (.inl (e 0 _ (by omega) rfl)) (by omega), hR _ _ (.inl (e 5 _ (by omega) rfl)) (by omega), hM _ _ _ (.inr (e 1 _ (by omega) rfl)) (by omega) (by omega) (by omega), hM _ _ _ (.inr (e 2 _ (by omega) rfl)) (by omega) (by omega) (by omega), hM _ _ _ (.inr (e 3 _ (by omega) rfl)) (by omega) (by omega) (by omega), hM _ _ _ (.inr (e 4 _ (by omega) rfl)) (by omega) (by omega) (by omega), hM _ _ _ (.inr (e 6 _ (by omega) rfl)) (by omega) (by omega) (by omega), hM _ _ _ (.inr (e 7 _ (by omega) rfl)) (by omega) (by omega) (by omega)⟩
  refine ⟨hM 0 _ _ (.inr (rowsL_zero s)) (by omega) (by omega) (by omega), hM _ _ _ (.inr (rowsL_head s)) (by omega) (by omega) (by omega), hR _ _ (.inl (rowsL_last s)) (by omega), ⟨by simp [mkW], by show s.l ≤ _; omega, ?_, fun _ => ⟨b, 0, rfl, hb.lt, ?_⟩⟩, Nat.le_refl _, by show s.l ≤ _; omega, ?_⟩
  · intro x hx
    obtain ⟨c, hc, rfl⟩ := List.mem_map.1 hx
    exact hB c (List.mem_range.1 hc)
  · intro c hc k hk
    have hc2 : c < s.l := hc
    rw [show (mkW s G b V).bs.getD c default = blkG s G V c by simp [mkW, List.getD, hc2], blkG_cells, Nat.zero_add, hb.cell, hcs c hc2 k hk]
  · exact ⟨by show _ ≤ (s.l : Int) ∧ (s.l : Int) ≤ _; omega, by show _ ≤ (s.w : Int) ∧ (s.w : Int) ≤ _; omega, by show _ ≤ (s.h : Int) ∧ (s.h : Int) ≤ _; omega⟩

end Go.Proofs.YtoeihigdndkjeaaGreatDoor

/-
  Rows that are filled number by number, one behind the other: what is so after P numbers.
-/
namespace Go.Proofs.YtoeihigdndkjeaaGreatDoor
open Go.RowKit
set_option linter.unusedVariables false

def off7 (s : Sz) (j : Nat) : Nat := tot ((rowsL s).take j)
def num7 (s : Sz) (j : Nat) : Nat := ((rowsL s).getD j default).2
/-- row j after P numbers -/
def fillV (s : Sz) (f : Nat → Int) (P j : Nat) : List Int := (List.range (num7 s j)).map (fun x => if off7 s j + x < P then f (off7 s j + x) else 0)
theorem fillV_len (s : Sz) (f : Nat → Int) (P j : Nat) : (fillV s f P j).length = num7 s j := by simp [fillV]
theorem fillV_zero (s : Sz) (f : Nat → Int) (j : Nat) : fillV s f 0 j = List.replicate (num7 s j) 0 := by
  unfold fillV
  apply List.ext_getElem (by simp)
  intro i h1 h2
  simp
theorem off7_succ (s : Sz) (j : Nat) (hj : j < 8 * s.l + 3) : off7 s (j + 1) = off7 s j + num7 s j := tot_step _ _ (by rw [rowsL_len]; exact hj)
theorem off7_mono (s : Sz) (i j : Nat) (h : i ≤ j) : off7 s i ≤ off7 s j := by
  unfold off7
  have e : (rowsL s).take i = ((rowsL s).take j).take i := by rw [List.take_take, Nat.min_eq_left h]
  rw [e]; exact tot_take_le _ _
theorem off7_end (s : Sz) : off7 s (8 * s.l + 3) = cnt s := by
  unfold off7
  rw [List.take_of_length_le (by rw [rowsL_len]; exact Nat.le_refl _), tot_rows]
theorem off7_lt (s : Sz) (j i : Nat) (hj : j < 8 * s.l + 3) (hi : i < num7 s j) : off7 s j + i < cnt s := by
  have h1 := off7_succ s j hj
  have h2 := off7_mono s (j + 1) (8 * s.l + 3) (by omega)
  rw [off7_end] at h2
  omega
theorem fillV_same (s : Sz) (f : Nat → Int) (j i : Nat) (hi : i < num7 s j) : (fillV s f (off7 s j + i) j).set i (f (off7 s j + i)) = fillV s f (off7 s j + i + 1) j := by
  unfold fillV
  apply List.ext_getElem (by simp)
  intro k h1 h2
  rw [List.getElem_set]
  simp only [List.getElem_map, List.getElem_range]
  by_cases e : i = k
  · subst e; rw [if_pos rfl, if_pos (by omega)]
  · rw [if_neg e]
    by_cases h : k < i
    · rw [if_pos (by omega), if_pos (by omega)]
    · rw [if_neg (by omega), if_neg (by omega)]
theorem fillV_other (s : Sz) (f : Nat → Int) (j j' i : Nat) (hj : j < 8 * s.l + 3) (hj' : j' < 8 * s.l + 3) (hi : i < num7 s j) (hne : j' ≠ j) : fillV s f (off7 s j + i) j' = fillV s f (off7 s j + i + 1) j' := by
  unfold fillV
  apply List.map_congr_left
  intro x hx
  have hx2 := List.mem_range.1 hx
  have hne2 : off7 s j' + x ≠ off7 s j + i := by
    rcases Nat.lt_or_ge j' j with h | h
    · have h1 := off7_succ s j' hj'
      have h2 := off7_mono s (j' + 1) j h
      omega
    · have h1 := off7_succ s j hj
      have h2 := off7_mono s (j + 1) j' (by omega)
      omega
  by_cases h : off7 s j' + x < off7 s j + i
  · rw [if_pos h, if_pos (by omega)]
  · rw [if_neg h, if_neg (by omega)]
theorem fillV_end (s : Sz) (f : Nat → Int) (j : Nat) (hj : j < 8 * s.l + 3) : fillV s f (cnt s) j = (List.range ((rowsL s).getD j default).2).map (fun x => f (tot ((rowsL s).take j) + x)) := by
  unfold fillV
  apply List.map_congr_left
  intro x hx
  rw [if_pos (off7_lt s j x hj (List.mem_range.1 hx))]
  rfl
theorem fillV_wf (s : Sz) (f : Nat → Int) (hf : ∀ k, (Lit.int .i8 (f k)).wf = true) (P j : Nat) : ∀ x ∈ fillV s f P j, (Lit.int .i8 x).wf = true := by
  intro x hx
  obtain ⟨k, _, rfl⟩ := List.mem_map.1 hx
  show (Lit.int .i8 (if _ then _ else _)).wf = true
  split
  · exact hf _
  · rfl

/-- the world after P numbers: the closure's cell, the rows, all else as it was -/
structure FillW (s : Sz) (w3 : World) (G : Nat → Nat) (c : Nat) (Tc : TypeId) (St : Nat → Value) (f : Nat → Int) (P : Nat) (wr : World) : Prop where
  cell : Box wr c Tc #[St P]
  rows : ∀ j, j < 8 * s.l + 3 → MineK .i8 wr (G j) 64 (fillV s f P j)
  keep : ∀ k, k < w3.heap.size → k ≠ c → (∀ j, j < 8 * s.l + 3 → k ≠ G j) → wr.heap[k]? = w3.heap[k]?
  bel : Below c w3 wr

theorem mine_box {w : World} {g : Nat} {T : TypeId} {cs : List Int} (h : MineK .i8 w g T cs) : Box w g T (cs.map (Value.int .i8)).toArray := h
theorem box_ne {w : World} {g g' : Nat} {T T' : TypeId} {cs cs' : Array Value} (h : Box w g T cs) (h' : Box w g' T' cs') (hT : T ≠ T') : g ≠ g' := by
  intro e
  subst e
  have := h.symm.trans h'
  simp at this
  exact hT this.2

/-- a stretch that makes new blocks alone -/
theorem FillW.more {s : Sz} {w3 wr w' : World} {G : Nat → Nat} {c : Nat} {Tc : TypeId} {St : Nat → Value} {f : Nat → Int} {P : Nat} (h : FillW s w3 G c Tc St f P wr) (hb : Below wr.heap.size wr w') : FillW s w3 G c Tc St f P w' := by
  refine ⟨h.cell.bel hb, fun j hj => (h.rows j hj).below hb (h.rows j hj).lt, fun k hk h1 h2 => (hb.block k (Nat.lt_of_lt_of_le hk h.bel.size)).trans (h.keep k hk h1 h2), h.bel.trans (hb.mono (Nat.le_of_lt h.cell.lt))⟩

/-- one number more: behind the closure's call, and behind the store -/
theorem FillW.next {s : Sz} {w3 wr : World} {G : Nat → Nat} {c : Nat} {Tc : TypeId} {St : Nat → Value} {f : Nat → Int} {j i : Nat} (h : FillW s w3 G c Tc St f (off7 s j + i) wr) (hj : j < 8 * s.l + 3) (hi : i < num7 s j) (hT : Tc ≠ 64)
    (hd : ∀ a b, a < 8 * s.l + 3 → b < 8 * s.l + 3 → a ≠ b → G a ≠ G b) (hcG : ∀ a, a < 8 * s.l + 3 → c ≤ G a) (w1 : World) (d : Nat) (hw1 : w1 = (wr.setCell ⟨c, 0, none⟩ (St (off7 s j + i + 1))).drewN d) :
    (∃ u, w1.cell? ⟨G j, i, none⟩ = some u) ∧ w1.frozen? ⟨G j, i, none⟩ = false ∧ FillW s w3 G c Tc St f (off7 s j + i + 1) (w1.setCell ⟨G j, i, none⟩ (.int .i8 (f (off7 s j + i)))) ∧ (∀ q T cs, q ≠ c → q ≠ G j → Box wr q T cs → Box (w1.setCell ⟨G j, i, none⟩ (.int .i8 (f (off7 s j + i)))) q T cs) ∧ (∀ q T cs, q ≠ c → Box wr q T cs → Box w1 q T cs) ∧ w1.heap.size = wr.heap.size := by
  subst hw1
  have hcg : ∀ a, a < 8 * s.l + 3 → c ≠ G a := fun a ha => box_ne h.cell (mine_box (h.rows a ha)) hT
  have g1 : wr.grownBy ((wr.setCell ⟨c, 0, none⟩ (St (off7 s j + i + 1))).drewN d) (some c) := (grownBy_setCell wr c 0 _).trans (grownBy_drewN _ d _)
  have g2 := grownBy_setCell ((wr.setCell ⟨c, 0, none⟩ (St (off7 s j + i + 1))).drewN d) (G j) i (.int .i8 (f (off7 s j + i)))
  have hM := fun a ha => (h.rows a ha).kept g1 (by simpa using fun e => hcg a ha e.symm)
  have hlen := fillV_len s f (off7 s j + i) j
  have hC : Box ((wr.setCell ⟨c, 0, none⟩ (St (off7 s j + i + 1))).drewN d) c Tc #[St (off7 s j + i + 1)] := h.cell.set 0 (St (off7 s j + i + 1))
  refine ⟨⟨_, (hM j hj).cell (k := i) (by omega)⟩, (hM j hj).frozen i, ⟨hC.kept g2 (by simpa using hcg j hj), fun a ha => ?_, fun k hk h1 h2 => ?_, ?_⟩, fun q T cs h1 h2 hb => (hb.kept g1 (by simpa using h1)).kept g2 (by simpa using h2), fun q T cs h1 hb => hb.kept g1 (by simpa using h1), by simp⟩
  · by_cases e : a = j
    · subst e
      rw [← fillV_same s f a i hi]
      exact (hM a ha).set i _
    · rw [← fillV_other s f j a i hj ha hi e]
      exact (hM a ha).kept g2 (by simpa using hd a j ha hj e)
  · have hk2 : k < wr.heap.size := Nat.lt_of_lt_of_le hk h.bel.size
    exact (g2.block k (Nat.lt_of_lt_of_le hk2 g1.size) (by simpa using h2 j hj)).trans ((g1.block k hk2 (by simpa using h1)).trans (h.keep k hk h1 h2))
  · exact (h.bel.trans ((Below.refl c wr).grown g1 (Nat.le_of_lt h.cell.lt) (fun k hk => by cases hk; exact Nat.le_refl _))).setCell (p := ⟨G j, i, none⟩) (hcG j hj) _

end Go.Proofs.YtoeihigdndkjeaaGreatDoor
