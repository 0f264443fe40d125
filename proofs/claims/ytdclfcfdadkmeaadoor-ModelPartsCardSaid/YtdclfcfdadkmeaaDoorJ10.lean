import Derived.Test.YtdclfcfdadkmeaaDoorJ02
import Derived.Test.YtdclfcfdadkmeaaDoorJ03
import Derived.Test.YtdclfcfdadkmeaaDoorJ04
import Derived.Test.YtdclfcfdadkmeaaDoorJ06
import Derived.Test.YtdclfcfdadkmeaaDoorJ08
import Derived.Test.YtdclfcfdadkmeaaDoorJ09
import Derived.Test.YtdclfcfdadkmeaaDoorJ07
import Derived.Maps.AppendAt
import Derived.Laws.OwnMore
import Derived.Test.YtdclfcfdadkmeaaDoorJ05
import Derived.Deep.CutRange
import Derived.Maps.RangeWalk
import Derived.Deep.RegionHeld3
import Derived.Defers
/-
  A token's way through a model, as plain mathematics: of lists of numbers; what is kept, by layer and place.
-/
namespace Go.Proofs.YtdclfcfdadkmeaaDoor
open Go.RowKit
set_option linter.unusedVariables false

/-- a matrix's sides -/
def matB8 (r c : Nat) (g : Gr) : Prop := g.r = r ∧ g.c = c ∧ g.n = r * c

/-- a block's numbers -/
structure Blk8 where
  f : List Int
  q : List Int
  k : List Int
  v : List Int
  o : List Int
  s : List Int
  u : List Int
  d : List Int
deriving Inhabited
/-- a model's numbers -/
structure Wn8 where
  s : Sz
  e : List Int
  bs : List Blk8
  t : List Int
  hd : List Int

noncomputable def invO (xs : List Int) : Int := Classical.choose (inv_ex (msq xs) (msq_bd xs).1)
theorem invO_is (xs : List Int) : IsInv (msq xs) (invO xs) := Classical.choose_spec (inv_ex (msq xs) (msq_bd xs).1)
open Classical in
noncomputable def topO (xs : List Int) : Int := if h : ∃ m, IsTop xs m then Classical.choose h else 0
theorem topO_is {xs : List Int} {n : Nat} (hl : xs.length = n) (h0 : 0 < n) : IsTop xs (topO xs) := by
  have h := top_ex hl h0
  unfold topO
  rw [dif_pos h]
  exact Classical.choose_spec h

/-- a row brought to one size -/
noncomputable def normO (g x : List Int) (n : Nat) : List Int := norms (invO x) g x n
/-- a product, brought down -/
def smallO (m a : List Int) (R C : Nat) : List Int := (mv m a R C).map (qua · 1 7)
/-- H heads of a row, turned -/
def headsO (H hw : Nat) (p : Int) (x : List Int) : List Int := (List.range H).flatMap fun h => turnL p (rowOf x hw h) hw
def mixV (ws : List Int) (vs : List (List Int)) (n m : Nat) : List Int := (List.range m).map fun p => mix1 (((List.range n).map fun i => ws.getD i 0 * (vs.getD i []).getD p 0).sum)
theorem mixL_V (ws : List Int) (qs : List Rw) (n m : Nat) : mixL ws qs n m = mixV ws (qs.map (·.v)) n m := by
  unfold mixL mixV msum
  have h : ∀ i, (qs.getD i default).v = (qs.map (·.v)).getD i [] := by
    intro i
    rw [List.getD_eq_getElem?_getD, List.getD_eq_getElem?_getD, List.getElem?_map]
    cases qs[i]? <;> rfl
  simp only [h]
/-- keys and values -/
abbrev KV8 := List Int × List Int
def scoresO (hw h : Nat) (q : List Int) (ps : List KV8) : List Int := ps.map fun kv => wsum (prods (rowOf q hw h) (rowOf kv.1 hw h))
noncomputable def ansO (hw h : Nat) (q : List Int) (ps : List KV8) : List Int :=
  mixV (soft 64 0 (topO (scoresO hw h q ps)) (scoresO hw h q ps)) (ps.map fun kv => rowOf kv.2 hw h) ps.length hw

noncomputable def qO (s : Sz) (b : Blk8) (p : Nat) (x : List Int) : List Int := headsO s.h (s.w / s.h) p (smallO b.q (normO b.f x s.w) s.w s.w)
noncomputable def kvO (s : Sz) (b : Blk8) (p : Nat) (x : List Int) : KV8 := (headsO s.h (s.w / s.h) p (smallO b.k (normO b.f x s.w) s.w s.w), smallO b.v (normO b.f x s.w) s.w s.w)
/-- the heads' answers, one behind the other -/
noncomputable def ansAll (s : Sz) (q : List Int) (ps : List KV8) : List Int := (List.range s.h).flatMap fun h => ansO (s.w / s.h) h q ps
/-- behind the first half -/
noncomputable def attO (s : Sz) (b : Blk8) (p : Nat) (x : List Int) (ps : List KV8) : List Int := joinL 1 4 x (mv b.o (ansAll s (qO s b p x) ps) s.w s.w) s.w
/-- behind the second half -/
noncomputable def gateO (s : Sz) (b : Blk8) (x : List Int) : List Int := joinL 1 4 x (mv b.d ((smallO b.u (normO b.s x s.w) s.i s.w).map gate1) s.w s.i) s.w

/-- what is kept, by layer and place -/
abbrev KF8 := Nat → Nat → KV8
def embO (W : Wn8) (t : Nat) : List Int := (rowOf W.e W.s.w t).map (· * 16)
/-- the row ahead of a layer -/
noncomputable def layO (W : Wn8) (K : KF8) (p t : Nat) : Nat → List Int
  | 0 => embO W t
  | n + 1 => gateO W.s (W.bs.getD n default) (attO W.s (W.bs.getD n default) p (layO W K p t n) ((List.range p).map (K n) ++ [kvO W.s (W.bs.getD n default) p (layO W K p t n)]))
noncomputable def newO (W : Wn8) (K : KF8) (p t n : Nat) : KV8 := kvO W.s (W.bs.getD n default) p (layO W K p t n)
/-- of the layers below n, what a token laid at place p -/
noncomputable def partK (W : Wn8) (K : KF8) (p t n : Nat) : KF8 := fun l q => if q = p ∧ l < n then newO W K p t l else K l q
noncomputable def stepK (W : Wn8) (K : KF8) (p t : Nat) : KF8 := partK W K p t W.s.l
noncomputable def outO (W : Wn8) (x : List Int) : List Int := mv W.hd (normO W.t x W.s.w) W.s.v W.s.w

/-- a run: the last row, the place, what is kept -/
structure St8 where
  x : List Int
  p : Nat
  K : KF8
noncomputable def goO (W : Wn8) (st : St8) (t : Nat) : St8 := ⟨layO W st.K st.p t W.s.l, st.p + 1, stepK W st.K st.p t⟩
noncomputable def runO (W : Wn8) (st : St8) (ts : List Nat) : St8 := ts.foldl (goO W) st
theorem runO_nil (W : Wn8) (st : St8) : runO W st [] = st := rfl
theorem runO_app (W : Wn8) (st : St8) (a b : List Nat) : runO W st (a ++ b) = runO W (runO W st a) b := by unfold runO; rw [List.foldl_append]
theorem runO_one (W : Wn8) (st : St8) (t : Nat) : runO W st [t] = goO W st t := rfl
theorem runO_take (W : Wn8) (st : St8) (ts : List Nat) (k : Nat) (hk : k < ts.length) : runO W st (ts.take (k + 1)) = goO W (runO W st (ts.take k)) (ts.getD k 0) := by
  rw [List.take_add_one, runO_app]
  simp only [List.getD_eq_getElem?_getD, List.getElem?_eq_getElem hk, Option.toList_some, Option.getD_some]
  rfl
theorem runO_p (W : Wn8) (st : St8) (ts : List Nat) : (runO W st ts).p = st.p + ts.length := by
  induction ts generalizing st with
  | nil => rfl
  | cons t ts ih => rw [show runO W st (t :: ts) = runO W (goO W st t) ts from rfl, ih]; show st.p + 1 + _ = _; simp; omega

/-! ### how long they are, and of which numbers -/
theorem flat_length {α : Type} (n m : Nat) (f : Nat → List α) (h : ∀ i, i < n → (f i).length = m) : ((List.range n).flatMap f).length = n * m := by
  induction n with
  | zero => simp
  | succ n ih =>
    rw [List.range_succ, List.flatMap_append, List.length_append, ih (fun i hi => h i (by omega))]
    simp [h n (by omega), Nat.succ_mul]
theorem flat_snoc {α : Type} (n : Nat) (f : Nat → List α) : (List.range (n + 1)).flatMap f = (List.range n).flatMap f ++ f n := by
  rw [List.range_succ, List.flatMap_append]; simp
theorem flat_wf {kd : IntKind} (n : Nat) (f : Nat → List Int) (h : ∀ i, i < n → ∀ x ∈ f i, (Lit.int kd x).wf = true) : ∀ x ∈ (List.range n).flatMap f, (Lit.int kd x).wf = true := by
  intro x hx
  rw [List.mem_flatMap] at hx
  obtain ⟨i, hi, hx⟩ := hx
  exact h i (List.mem_range.1 hi) x hx
theorem normO_length (g x : List Int) (n : Nat) : (normO g x n).length = n := by simp [normO, norms]
theorem normO_wf (g x : List Int) (n : Nat) : ∀ c ∈ normO g x n, (Lit.int .i8 c).wf = true := norms_wf _ _ _ _
theorem smallO_length (m a : List Int) (R C : Nat) : (smallO m a R C).length = R := by simp [smallO, mv]
theorem smallO_wf (m a : List Int) (R C : Nat) : ∀ c ∈ smallO m a R C, (Lit.int .i8 c).wf = true := by
  intro c hc
  obtain ⟨y, _, rfl⟩ := List.mem_map.1 hc
  exact qua_wf _ _ _
theorem turnL_length (p : Int) (x : List Int) (n : Nat) : (turnL p x n).length = n := by simp [turnL]
theorem headsO_length (H hw : Nat) (p : Int) (x : List Int) : (headsO H hw p x).length = H * hw := flat_length _ _ _ (fun i _ => turnL_length _ _ _)
theorem headsO_wf (H hw : Nat) (p : Int) (x : List Int) : ∀ c ∈ headsO H hw p x, (Lit.int .i8 c).wf = true := flat_wf _ _ (fun i _ => turnL_wf _ _ _)
theorem mixV_length (ws : List Int) (vs : List (List Int)) (n m : Nat) : (mixV ws vs n m).length = m := by simp [mixV]
theorem mixV_wf (ws : List Int) (vs : List (List Int)) (n m : Nat) : ∀ c ∈ mixV ws vs n m, (Lit.int .i8 c).wf = true := by
  intro c hc
  obtain ⟨y, _, rfl⟩ := List.mem_map.1 hc
  exact mix1_wf _
theorem ansO_length (hw h : Nat) (q : List Int) (ps : List KV8) : (ansO hw h q ps).length = hw := mixV_length _ _ _ _
theorem ansO_wf (hw h : Nat) (q : List Int) (ps : List KV8) : ∀ c ∈ ansO hw h q ps, (Lit.int .i8 c).wf = true := mixV_wf _ _ _ _
theorem ansAll_length (s : Sz) (q : List Int) (ps : List KV8) : (ansAll s q ps).length = s.h * (s.w / s.h) := flat_length _ _ _ (fun i _ => ansO_length _ _ _ _)
theorem ansAll_wf (s : Sz) (q : List Int) (ps : List KV8) : ∀ c ∈ ansAll s q ps, (Lit.int .i8 c).wf = true := flat_wf _ _ (fun i _ => ansO_wf _ _ _ _)
theorem joinL_length (b s : Int) (x y : List Int) (n : Nat) : (joinL b s x y n).length = n := by simp [joinL]
theorem attO_length (s : Sz) (b : Blk8) (p : Nat) (x : List Int) (ps : List KV8) : (attO s b p x ps).length = s.w := joinL_length _ _ _ _ _
theorem attO_wf (s : Sz) (b : Blk8) (p : Nat) (x : List Int) (ps : List KV8) : ∀ c ∈ attO s b p x ps, (Lit.int .i32 c).wf = true := joinL_wf _ _ _ _ _
theorem gateO_length (s : Sz) (b : Blk8) (x : List Int) : (gateO s b x).length = s.w := joinL_length _ _ _ _ _
theorem gateO_wf (s : Sz) (b : Blk8) (x : List Int) : ∀ c ∈ gateO s b x, (Lit.int .i32 c).wf = true := joinL_wf _ _ _ _ _
theorem sz_heads {s : Sz} (ok : s.Ok) : s.h * (s.w / s.h) = s.w ∧ (s.w / s.h) % 2 = 0 ∧ 2 ≤ s.w / s.h ∧ s.w / s.h ≤ 128 := by
  obtain ⟨l0, l1, h0, h1, w0, w1, hm, _⟩ := ok
  have h : s.w % (2 * s.h) = 0 := by
    have : ((s.w % (2 * s.h) : Nat) : Int) = 0 := by rw [← hm]; push_cast; rfl
    exact_mod_cast this
  obtain ⟨k, hk⟩ : ∃ k, s.w = s.h * (2 * k) := ⟨s.w / (2 * s.h), by
    have := Nat.div_add_mod s.w (2 * s.h)
    rw [h, Nat.add_zero] at this
    rw [← Nat.mul_assoc, Nat.mul_comm s.h 2]
    exact this.symm⟩
  have hh : 0 < s.h := by omega
  have e : s.w / s.h = 2 * k := by rw [hk, Nat.mul_div_cancel_left _ hh]
  have hk0 : 0 < k := by
    rcases Nat.eq_zero_or_pos k with e0 | e0
    · subst e0; simp at hk; omega
    · exact e0
  have hle := Nat.div_le_self s.w s.h
  rw [e] at hle
  rw [e]
  exact ⟨hk.symm, by omega, by omega, by omega⟩

end Go.Proofs.YtdclfcfdadkmeaaDoor

/-
  The model's smaller steps: a row brought to one size, a product, a product brought down, a join; each in new memory.
-/
namespace Go.Proofs.YtdclfcfdadkmeaaDoor
open Go.RowKit
set_option linter.unusedVariables false

/-- a row of numbers is answered, in a block -/
def GivesS (kd : IntKind) (n : Nat) (xs : List Int) (e : Ending) (w' : World) : Prop :=
  ∃ g c, e = .returned (.slice (some ⟨g, 0, none⟩) n c) ∧ Elems kd w' (some ⟨g, 0, none⟩) n xs ∧ n ≤ c ∧ c ≤ 9223372036854775807
theorem rw_at {kd : IntKind} {w : World} {g n c : Nat} {xs : List Int} (h : Elems kd w (some ⟨g, 0, none⟩) n xs) (h1 : n ≤ c) (h2 : c ≤ 9223372036854775807) : Rw.In kd w ⟨some ⟨g, 0, none⟩, n, c, xs⟩ :=
  ⟨h, h1, h2, ⟨fun e => (by cases e), fun x e _ => (by cases e; rfl)⟩⟩
/-- a matrix of given sides -/
theorem matB_yes {r c : Nat} {g : Gr} (h : matB8 r c g) : g.r = r ∧ g.c = c ∧ g.n = r * c := h

theorem normed8 (ga xa : Option Addr) (n gcap xcap : Nat) (gs xs : List Int) (w : World) (hg : Elems .i8 w ga n gs) (hx : Elems .i32 w xa n xs) (h0 : 0 < n) (hn : n ≤ 1000) :
    Calls Tryd.prog 31 #[.slice ga n gcap, .slice xa n xcap] w fun e w' => GivesS .i8 n (normO gs xs n) e w' ∧ Below w.heap.size w w' := by
  have hc := norm_some ga xa n gcap xcap gs xs (invO xs) w hg hx h0 hn (invO_is xs)
  clear hg hx
  go_enter Tryd.func31, Tryd.ntmps31
  go_wp2_with fail
  refine hc.mono ?_
  rintro e w1 ⟨⟨g, rfl, hE⟩, hb⟩
  clear hc
  go_wp2
  go_ret
  exact ⟨⟨g, n, rfl, hE, Nat.le_refl _, by omega⟩, hb⟩

theorem product8 (g : Gr) (q : Rw) (R C : Nat) (hm : matB8 R C g) (e4 : q.n = C) (hR : R ≤ 1000) (hC : C ≤ 1000) (w : World) (hg : g.In8 w) (hq : q.In .i8 w) :
    Calls Tryd.prog 30 #[.agg #[.int .i64 g.r, .int .i64 g.c, .slice g.a g.n g.cap], .slice q.a q.n q.cap] w fun e w' => GivesS .i32 R (mv g.v q.v R C) e w' ∧ Below w.heap.size w w' := by
  obtain ⟨e1, e2, e3⟩ := hm
  have hle : R * C ≤ 1000 * 1000 := Nat.mul_le_mul hR hC
  have B1 : ∀ o, Below w.heap.size w (w.alloc o) := fun o => (Below.refl _ _).alloc (Nat.le_refl _) o
  have hc := fun o => apply_yes g q R C e1 e2 e3 e4 (by omega) (by omega) (by omega) (w.alloc o) (hg.below (B1 o)) (hq.below (B1 o))
  obtain ⟨gr, gc, ga, gn, gcap, gv⟩ := g
  obtain ⟨qa, qn, qcap, qv⟩ := q
  simp only at hc e1 e2 e3 e4 ⊢
  clear hg hq e1 e2 e3 e4
  go_enter Tryd.func30, Tryd.ntmps30
  go_wp2_with fail
  refine (hc _).mono ?_
  rintro e w1 ⟨⟨g, rfl, _, hE⟩, hb⟩
  have hb1 := (B1 _).trans (hb.mono (by simp))
  clear hc hb B1
  go_wp2
  go_ret
  exact ⟨⟨g, R, rfl, hE, Nat.le_refl _, by omega⟩, hb1⟩

theorem small8 (g : Gr) (q : Rw) (R C : Nat) (hm : matB8 R C g) (e4 : q.n = C) (hR : R ≤ 1000) (hC : C ≤ 1000) (w : World) (hg : g.In8 w) (hq : q.In .i8 w) :
    Calls Tryd.prog 62 #[.agg #[.int .i64 g.r, .int .i64 g.c, .slice g.a g.n g.cap], .slice q.a q.n q.cap] w fun e w' => GivesS .i8 R (smallO g.v q.v R C) e w' ∧ Below w.heap.size w w' := by
  have B1 : ∀ o, Below w.heap.size w (w.alloc o) := fun o => (Below.refl _ _).alloc (Nat.le_refl _) o
  have hc := fun o => product8 g q R C hm e4 hR hC (w.alloc o) (hg.below (B1 o)) (hq.below (B1 o))
  obtain ⟨gr, gc, ga, gn, gcap, gv⟩ := g
  obtain ⟨qa, qn, qcap, qv⟩ := q
  simp only at hc e4 ⊢
  clear hg hq e4 hm
  go_enter Tryd.func62, Tryd.ntmps62
  go_wp2_with fail
  refine (hc _).mono ?_
  rintro e w1 ⟨⟨g, c, rfl, hE, _, _⟩, hb⟩
  have hb1 := (B1 _).trans (hb.mono (by simp))
  have hq := quants 1 7 (some ⟨g, 0, none⟩) R c _ w1 hE (by omega) (by decide) (by decide)
  clear hc hb B1 hE
  go_wp2_with fail
  refine hq.mono ?_
  rintro e w2 ⟨g2, rfl, hE2, hb2⟩
  have hb3 := below_two hb1 hb2
  clear hq hb2
  go_wp2
  go_ret
  exact ⟨⟨g2, R, rfl, hE2, Nat.le_refl _, by omega⟩, hb3⟩

theorem joined8 (xa ya : Option Addr) (n xcap ycap : Nat) (xs ys : List Int) (w : World) (hx : Elems .i32 w xa n xs) (hy : Elems .i32 w ya n ys) (hn : n ≤ 1000) :
    Calls Tryd.prog 63 #[.slice xa n xcap, .slice ya n ycap] w fun e w' => GivesS .i32 n (joinL 1 4 xs ys n) e w' ∧ Below w.heap.size w w' := by
  have hc := join_yes xa ya n xcap ycap 1 4 xs ys w hx hy (by omega) (by decide) (by decide)
  clear hx hy
  go_enter Tryd.func63, Tryd.ntmps63
  go_wp2_with fail
  refine hc.mono ?_
  rintro e w1 ⟨⟨g, rfl, hE⟩, hb⟩
  clear hc
  go_wp2
  go_ret
  exact ⟨⟨g, n, rfl, hE, Nat.le_refl _, by omega⟩, hb⟩

end Go.Proofs.YtdclfcfdadkmeaaDoor

/-
  Weights as they stand in memory: a block, a slice of blocks, the whole; their rows in the file's order.
-/
namespace Go.Proofs.YtdclfcfdadkmeaaDoor
open Go.RowKit
set_option linter.unusedVariables false

/-- a block: two rows of gains, six matrices -/
structure Bk7 where
  x : Rw
  y : Rw
  q : Gr
  k : Gr
  v : Gr
  o : Gr
  u : Gr
  d : Gr
deriving Inhabited
/-- a matrix's numbers, as a row -/
def Gr.row (g : Gr) : Rw := ⟨g.a, g.n, g.cap, g.v⟩
def Bk7.cells (b : Bk7) : Array Value := #[.slice b.x.a b.x.n b.x.cap, .slice b.y.a b.y.n b.y.cap, .int .i64 b.q.r, .int .i64 b.q.c, .slice b.q.a b.q.n b.q.cap, .int .i64 b.k.r, .int .i64 b.k.c, .slice b.k.a b.k.n b.k.cap, .int .i64 b.v.r, .int .i64 b.v.c, .slice b.v.a b.v.n b.v.cap, .int .i64 b.o.r, .int .i64 b.o.c, .slice b.o.a b.o.n b.o.cap, .int .i64 b.u.r, .int .i64 b.u.c, .slice b.u.a b.u.n b.u.cap, .int .i64 b.d.r, .int .i64 b.d.c, .slice b.d.a b.d.n b.d.cap]
def Bk7.In (w : World) (b : Bk7) : Prop := b.x.In .i8 w ∧ b.y.In .i8 w ∧ b.q.In8 w ∧ b.k.In8 w ∧ b.v.In8 w ∧ b.o.In8 w ∧ b.u.In8 w ∧ b.d.In8 w
theorem Gr.In8.bel {w w' : World} {g : Gr} (h : g.In8 w) (hb : Below w.heap.size w w') : g.In8 w' := ⟨h.1.below hb, h.2⟩
theorem Bk7.In.bel {w w' : World} {b : Bk7} (h : b.In w) (hb : Below w.heap.size w w') : b.In w' := by
  obtain ⟨h1, h2, h3, h4, h5, h6, h7, h8⟩ := h
  exact ⟨h1.below hb, h2.below hb, h3.bel hb, h4.bel hb, h5.bel hb, h6.bel hb, h7.bel hb, h8.bel hb⟩
theorem Gr.In8.row {w : World} {g : Gr} (h : g.In8 w) : g.row.In .i8 w := ⟨h.1, h.2.1, h.2.2.1, h.2.2.2.1⟩

/-- n blocks at a -/
def BksAt (w : World) (a : Option Addr) (n : Nat) (bs : List Bk7) : Prop :=
  bs.length = n ∧ n ≤ 9223372036854775807 ∧ (∀ b ∈ bs, b.In w) ∧
    (0 < n → ∃ g off, a = some ⟨g, off, none⟩ ∧ g < w.heap.size ∧ ∀ i, i < n → ∀ k, k < 20 → w.cell? ⟨g, off + i * 20 + k, none⟩ = (bs.getD i default).cells[k]?)
theorem BksAt.bel {w w' : World} {a : Option Addr} {n : Nat} {bs : List Bk7} (h : BksAt w a n bs) (hb : Below w.heap.size w w') : BksAt w' a n bs := by
  refine ⟨h.1, h.2.1, fun b hb' => (h.2.2.1 b hb').bel hb, fun hn => ?_⟩
  obtain ⟨g, off, rfl, hlt, hc⟩ := h.2.2.2 hn
  exact ⟨g, off, rfl, Nat.lt_of_lt_of_le hlt hb.size, fun i hi k hk => (hb.cell (p := ⟨g, _, none⟩) hlt).trans (hc i hi k hk)⟩
theorem BksAt.at_ {w : World} {a : Option Addr} {n : Nat} {bs : List Bk7} (h : BksAt w a n bs) {i : Nat} (hi : i < n) :
    ∃ g off b, a = some ⟨g, off, none⟩ ∧ g < w.heap.size ∧ (∀ k, k < 20 → w.cell? ⟨g, off + i * 20 + k, none⟩ = b.cells[k]?) ∧ Hid (bs.getD i default = b) ∧ b.In w := by
  obtain ⟨g, off, rfl, hlt, hc⟩ := h.2.2.2 (by omega)
  refine ⟨g, off, _, rfl, hlt, hc i hi, Lib.hid rfl, h.2.2.1 _ ?_⟩
  rw [List.getD_eq_getElem?_getD, List.getElem?_eq_getElem (by rw [h.1]; exact hi)]
  exact List.getElem_mem _
/-- the cells of an element, one by one -/
theorem bk_cells {w : World} {g o : Nat} {b : Bk7} (h : ∀ k, k < 20 → w.cell? ⟨g, o + k, none⟩ = b.cells[k]?) :
    w.cell? ⟨g, o, none⟩ = some (.slice b.x.a b.x.n b.x.cap) ∧ w.cell? ⟨g, o + 1, none⟩ = some (.slice b.y.a b.y.n b.y.cap) ∧ w.cell? ⟨g, o + 2, none⟩ = some (.int .i64 b.q.r) ∧ w.cell? ⟨g, o + 3, none⟩ = some (.int .i64 b.q.c) ∧ w.cell? ⟨g, o + 4, none⟩ = some (.slice b.q.a b.q.n b.q.cap) ∧ w.cell? ⟨g, o + 5, none⟩ = some (.int .i64 b.k.r) ∧ w.cell? ⟨g, o + 6, none⟩ = some (.int .i64 b.k.c) ∧ w.cell? ⟨g, o + 7, none⟩ = some (.slice b.k.a b.k.n b.k.cap) ∧ w.cell? ⟨g, o + 8, none⟩ = some (.int .i64 b.v.r) ∧ w.cell? ⟨g, o + 9, none⟩ = some (.int .i64 b.v.c) ∧ w.cell? ⟨g, o + 10, none⟩ = some (.slice b.v.a b.v.n b.v.cap) ∧ w.cell? ⟨g, o + 11, none⟩ = some (.int .i64 b.o.r) ∧ w.cell? ⟨g, o + 12, none⟩ = some (.int .i64 b.o.c) ∧ w.cell? ⟨g, o + 13, none⟩ = some (.slice b.o.a b.o.n b.o.cap) ∧ w.cell? ⟨g, o + 14, none⟩ = some (.int .i64 b.u.r) ∧ w.cell? ⟨g, o + 15, none⟩ = some (.int .i64 b.u.c) ∧ w.cell? ⟨g, o + 16, none⟩ = some (.slice b.u.a b.u.n b.u.cap) ∧ w.cell? ⟨g, o + 17, none⟩ = some (.int .i64 b.d.r) ∧ w.cell? ⟨g, o + 18, none⟩ = some (.int .i64 b.d.c) ∧ w.cell? ⟨g, o + 19, none⟩ = some (.slice b.d.a b.d.n b.d.cap) :=
  ⟨h 0 (by decide), h 1 (by decide), h 2 (by decide), h 3 (by decide), h 4 (by decide), h 5 (by decide), h 6 (by decide), h 7 (by decide), h 8 (by decide), h 9 (by decide), h 10 (by decide), h 11 (by decide), h 12 (by decide), h 13 (by decide), h 14 (by decide), h 15 (by decide), h 16 (by decide), h 17 (by decide), h 18 (by decide), h 19 (by decide)⟩

/-- weights: a shape (of whatever numbers), what they hold -/
structure Wt7 where
  l : Int
  w : Int
  h : Int
  i : Int
  v : Int
  p : Int
  e : Gr
  ba : Option Addr
  bn : Nat
  bcap : Nat
  bs : List Bk7
  t : Rw
  hd : Gr
def Wt7.cells (W : Wt7) : Array Value := #[.int .i64 W.l, .int .i64 W.w, .int .i64 W.h, .int .i64 W.i, .int .i64 W.v, .int .i64 W.p, .int .i64 W.e.r, .int .i64 W.e.c, .slice W.e.a W.e.n W.e.cap, .slice W.ba W.bn W.bcap, .slice W.t.a W.t.n W.t.cap, .int .i64 W.hd.r, .int .i64 W.hd.c, .slice W.hd.a W.hd.n W.hd.cap]
def Six64 (W : Wt7) : Prop := (-9223372036854775808 ≤ W.l ∧ W.l ≤ 9223372036854775807) ∧ (-9223372036854775808 ≤ W.w ∧ W.w ≤ 9223372036854775807) ∧ (-9223372036854775808 ≤ W.h ∧ W.h ≤ 9223372036854775807)
def Wt7.In (w : World) (W : Wt7) : Prop := W.e.In8 w ∧ W.hd.In8 w ∧ W.t.In .i8 w ∧ BksAt w W.ba W.bn W.bs ∧ W.bn ≤ W.bcap ∧ W.bcap ≤ 9223372036854775807 ∧ Six64 W
theorem Wt7.In.bel {w w' : World} {W : Wt7} (h : W.In w) (hb : Below w.heap.size w w') : W.In w' := by
  obtain ⟨h1, h2, h3, h4, h5⟩ := h
  exact ⟨h1.bel hb, h2.bel hb, h3.below hb, h4.bel hb, h5⟩

/-- a block's rows, in the file's order; the weights' -/
def Bk7.runs (b : Bk7) : List (Bool × Rw) := [(true, b.x), (false, b.q.row), (false, b.k.row), (false, b.v.row), (false, b.o.row), (true, b.y), (false, b.u.row), (false, b.d.row)]
def bruns (bs : List Bk7) : List (Bool × Rw) := bs.flatMap Bk7.runs
def Wt7.runs (W : Wt7) : List (Bool × Rw) := (false, W.e.row) :: bruns W.bs ++ [(true, W.t), (false, W.hd.row)]
/-- all numbers, in the file's order -/
def Wt7.flat (W : Wt7) : List Int := W.runs.flatMap (fun r => r.2.v)
theorem bruns_len (bs : List Bk7) : (bruns bs).length = 8 * bs.length := by
  unfold bruns
  induction bs with
  | nil => rfl
  | cons b bs ih => rw [List.flatMap_cons, List.length_append, ih]; simp [Bk7.runs]; omega
theorem bruns_step (bs : List Bk7) (k : Nat) (hk : k < bs.length) : bruns (bs.take (k + 1)) = bruns (bs.take k) ++ (bs.getD k default).runs := by
  unfold bruns
  rw [List.take_add_one, List.flatMap_append]
  simp [List.getD, List.getElem?_eq_getElem hk]

end Go.Proofs.YtdclfcfdadkmeaaDoor

/-
  The code's runs: its two closures, which lay rows behind a captured list.
-/
namespace Go.Proofs.YtdclfcfdadkmeaaDoor
open Go.RowKit
set_option linter.unusedVariables false
end Go.Proofs.YtdclfcfdadkmeaaDoor

/-
  The code's runs: all rows of weights, in the file's order.
-/
namespace Go.Proofs.YtdclfcfdadkmeaaDoor
open Go.RowKit
set_option linter.unusedVariables false

theorem box_bk {w : World} {g : Nat} {T : TypeId} {b : Bk7} (h : Box w g T b.cells) :
    w.cell? ⟨g, 0, none⟩ = some (.slice b.x.a b.x.n b.x.cap) ∧ w.cell? ⟨g, 1, none⟩ = some (.slice b.y.a b.y.n b.y.cap) ∧ w.cell? ⟨g, 2, none⟩ = some (.int .i64 b.q.r) ∧ w.cell? ⟨g, 3, none⟩ = some (.int .i64 b.q.c) ∧ w.cell? ⟨g, 4, none⟩ = some (.slice b.q.a b.q.n b.q.cap) ∧ w.cell? ⟨g, 5, none⟩ = some (.int .i64 b.k.r) ∧ w.cell? ⟨g, 6, none⟩ = some (.int .i64 b.k.c) ∧ w.cell? ⟨g, 7, none⟩ = some (.slice b.k.a b.k.n b.k.cap) ∧ w.cell? ⟨g, 8, none⟩ = some (.int .i64 b.v.r) ∧ w.cell? ⟨g, 9, none⟩ = some (.int .i64 b.v.c) ∧ w.cell? ⟨g, 10, none⟩ = some (.slice b.v.a b.v.n b.v.cap) ∧ w.cell? ⟨g, 11, none⟩ = some (.int .i64 b.o.r) ∧ w.cell? ⟨g, 12, none⟩ = some (.int .i64 b.o.c) ∧ w.cell? ⟨g, 13, none⟩ = some (.slice b.o.a b.o.n b.o.cap) ∧ w.cell? ⟨g, 14, none⟩ = some (.int .i64 b.u.r) ∧ w.cell? ⟨g, 15, none⟩ = some (.int .i64 b.u.c) ∧ w.cell? ⟨g, 16, none⟩ = some (.slice b.u.a b.u.n b.u.cap) ∧ w.cell? ⟨g, 17, none⟩ = some (.int .i64 b.d.r) ∧ w.cell? ⟨g, 18, none⟩ = some (.int .i64 b.d.c) ∧ w.cell? ⟨g, 19, none⟩ = some (.slice b.d.a b.d.n b.d.cap) :=
  ⟨h.cell 0, h.cell 1, h.cell 2, h.cell 3, h.cell 4, h.cell 5, h.cell 6, h.cell 7, h.cell 8, h.cell 9, h.cell 10, h.cell 11, h.cell 12, h.cell 13, h.cell 14, h.cell 15, h.cell 16, h.cell 17, h.cell 18, h.cell 19⟩
theorem box_wt {w : World} {g : Nat} {T : TypeId} {W : Wt7} (h : Box w g T W.cells) :
    w.cell? ⟨g, 0, none⟩ = some (.int .i64 W.l) ∧ w.cell? ⟨g, 1, none⟩ = some (.int .i64 W.w) ∧ w.cell? ⟨g, 2, none⟩ = some (.int .i64 W.h) ∧ w.cell? ⟨g, 3, none⟩ = some (.int .i64 W.i) ∧ w.cell? ⟨g, 4, none⟩ = some (.int .i64 W.v) ∧ w.cell? ⟨g, 5, none⟩ = some (.int .i64 W.p) ∧ w.cell? ⟨g, 6, none⟩ = some (.int .i64 W.e.r) ∧ w.cell? ⟨g, 7, none⟩ = some (.int .i64 W.e.c) ∧ w.cell? ⟨g, 8, none⟩ = some (.slice W.e.a W.e.n W.e.cap) ∧ w.cell? ⟨g, 9, none⟩ = some (.slice W.ba W.bn W.bcap) ∧ w.cell? ⟨g, 10, none⟩ = some (.slice W.t.a W.t.n W.t.cap) ∧ w.cell? ⟨g, 11, none⟩ = some (.int .i64 W.hd.r) ∧ w.cell? ⟨g, 12, none⟩ = some (.int .i64 W.hd.c) ∧ w.cell? ⟨g, 13, none⟩ = some (.slice W.hd.a W.hd.n W.hd.cap) :=
  ⟨h.cell 0, h.cell 1, h.cell 2, h.cell 3, h.cell 4, h.cell 5, h.cell 6, h.cell 7, h.cell 8, h.cell 9, h.cell 10, h.cell 11, h.cell 12, h.cell 13⟩
theorem bk_one (b : Bk7) : b.cells.all (·.oneCell') = true := by simp [Bk7.cells, Value.oneCell']
theorem lits1 (g : Gr) : ∀ k, k < 1 → (#[.int .i64 g.r, .int .i64 g.c, .slice g.a g.n g.cap] : Array Value)[k * 3]? = some (.int .i64 (([g] : List Gr).getD k default).r) ∧ (#[.int .i64 g.r, .int .i64 g.c, .slice g.a g.n g.cap] : Array Value)[k * 3 + 1]? = some (.int .i64 (([g] : List Gr).getD k default).c) ∧ (#[.int .i64 g.r, .int .i64 g.c, .slice g.a g.n g.cap] : Array Value)[k * 3 + 2]? = some (.slice (([g] : List Gr).getD k default).a (([g] : List Gr).getD k default).n (([g] : List Gr).getD k default).cap) := by
  intro k hk
  obtain rfl : k = 0 := by omega
  exact ⟨rfl, rfl, rfl⟩
theorem lits2 (g h : Gr) : ∀ k, k < 2 → (#[.int .i64 g.r, .int .i64 g.c, .slice g.a g.n g.cap, .int .i64 h.r, .int .i64 h.c, .slice h.a h.n h.cap] : Array Value)[k * 3]? = some (.int .i64 (([g, h] : List Gr).getD k default).r) ∧ (#[.int .i64 g.r, .int .i64 g.c, .slice g.a g.n g.cap, .int .i64 h.r, .int .i64 h.c, .slice h.a h.n h.cap] : Array Value)[k * 3 + 1]? = some (.int .i64 (([g, h] : List Gr).getD k default).c) ∧ (#[.int .i64 g.r, .int .i64 g.c, .slice g.a g.n g.cap, .int .i64 h.r, .int .i64 h.c, .slice h.a h.n h.cap] : Array Value)[k * 3 + 2]? = some (.slice (([g, h] : List Gr).getD k default).a (([g, h] : List Gr).getD k default).n (([g, h] : List Gr).getD k default).cap) := by
  intro k hk
  have : k = 0 ∨ k = 1 := by omega
  rcases this with rfl | rfl <;> exact ⟨rfl, rfl, rfl⟩
theorem lits4 (g h i j : Gr) : ∀ k, k < 4 → (#[.int .i64 g.r, .int .i64 g.c, .slice g.a g.n g.cap, .int .i64 h.r, .int .i64 h.c, .slice h.a h.n h.cap, .int .i64 i.r, .int .i64 i.c, .slice i.a i.n i.cap, .int .i64 j.r, .int .i64 j.c, .slice j.a j.n j.cap] : Array Value)[k * 3]? = some (.int .i64 (([g, h, i, j] : List Gr).getD k default).r) ∧ (#[.int .i64 g.r, .int .i64 g.c, .slice g.a g.n g.cap, .int .i64 h.r, .int .i64 h.c, .slice h.a h.n h.cap, .int .i64 i.r, .int .i64 i.c, .slice i.a i.n i.cap, .int .i64 j.r, .int .i64 j.c, .slice j.a j.n j.cap] : Array Value)[k * 3 + 1]? = some (.int .i64 (([g, h, i, j] : List Gr).getD k default).c) ∧ (#[.int .i64 g.r, .int .i64 g.c, .slice g.a g.n g.cap, .int .i64 h.r, .int .i64 h.c, .slice h.a h.n h.cap, .int .i64 i.r, .int .i64 i.c, .slice i.a i.n i.cap, .int .i64 j.r, .int .i64 j.c, .slice j.a j.n j.cap] : Array Value)[k * 3 + 2]? = some (.slice (([g, h, i, j] : List Gr).getD k default).a (([g, h, i, j] : List Gr).getD k default).n (([g, h, i, j] : List Gr).getD k default).cap) := by
  intro k hk
  have : k = 0 ∨ k = 1 ∨ k = 2 ∨ k = 3 := by omega
  rcases this with rfl | rfl | rfl | rfl <;> exact ⟨rfl, rfl, rfl⟩


end Go.Proofs.YtdclfcfdadkmeaaDoor

/-
  Are matrices of given sides? The document's mat, the code's sided and odd.
-/
namespace Go.Proofs.YtdclfcfdadkmeaaDoor
open Go.RowKit
set_option linter.unusedVariables false

/-- is a matrix of these sides? -/
def matB (r c : Nat) (g : Gr) : Bool := decide (g.r = r) && (decide (g.c = c) && decide (g.n = r * c))
/-- has it these sides, whatever its numbers? -/
def sidB (r c : Nat) (g : Gr) : Bool := decide (g.r = r) && decide (g.c = c)
theorem matB_fit {r c : Nat} (h0 : r ≤ 4096) (h1 : c ≤ 4096) (h2 : r * c ≤ 1048576) (g : Gr) : matB r c g = (sidB r c g && fitB g.r g.c g.n) := by
  unfold matB sidB
  by_cases e1 : g.r = r
  · by_cases e2 : g.c = c
    · have s1 : sideB g.r = true := by unfold sideB; exact decide_eq_true (by omega)
      have s2 : sideB g.c = true := by unfold sideB; exact decide_eq_true (by omega)
      unfold fitB rightB
      rw [s1, s2, decide_eq_true e1, decide_eq_true e2, e1, e2]
      by_cases e3 : g.n = r * c
      · rw [decide_eq_true e3, decide_eq_true (show (g.n : Int) = (r : Int) * c by rw [e3]; push_cast; rfl), decide_eq_true (by omega)]; rfl
      · have h5 : ((r * c : Nat) : Int) = (r : Int) * c := by push_cast; rfl
        have this : ¬ (g.n : Int) = (r : Int) * c := by rw [← h5]; omega
        rw [decide_eq_false e3, decide_eq_false this]; rfl
    · rw [decide_eq_false e2]; simp
  · rw [decide_eq_false e1]; simp
theorem all_and {α : Type} (p q : α → Bool) (l : List α) : l.all (fun x => p x && q x) = (l.all p && l.all q) := by
  induction l with
  | nil => rfl
  | cons x l ih => simp only [List.all_cons, ih]; cases p x <;> cases q x <;> simp
theorem sid_fit {r c : Nat} (h0 : r ≤ 4096) (h1 : c ≤ 4096) (h2 : r * c ≤ 1048576) (gs : List Gr) : gs.all (matB r c) = (gs.all (sidB r c) && fitAll gs) := by
  unfold fitAll
  rw [← all_and]
  congr 1
  funext g
  exact matB_fit h0 h1 h2 g


set_option maxHeartbeats 1600000 in
theorem sided_any (r c : Nat) (hr : r ≤ 1000) (hc : c ≤ 1000) (hp : r * c ≤ 1048576) (a : Option Addr) (n cap : Nat) (gs : List Gr) (w : World) (h : Mats w a n gs) :
    Calls Tryd.prog 76 #[.int .i64 r, .int .i64 c, .slice a n cap] w fun e w' => e = .returned (.bool (gs.all (matB r c))) ∧ Below w.heap.size w w' := by
  have hn := h.2.1
  have hl := Lib.hid h.1
  have HS := Lib.hid (sid_fit (r := r) (c := c) (by omega) (by omega) hp gs)
  have HH := Lib.hid h
  clear h hp
  go_enter Tryd.func76, Tryd.ntmps76
  go_wp2
  go_loopw [11] (fun i wr => ∃ k : Nat, k ≤ n ∧ i = .int .i64 k ∧ Hid ((gs.take k).all (sidB r c) = true) ∧ Hid (Below w.heap.size w wr)) (fun i _ => n - (intOf i).toNat)
  case atStart => exact ⟨0, by omega, rfl, Lib.hid (by simp), Lib.hid (Below.refl _ _)⟩
  case round =>
    obtain ⟨k, hk, rfl, ht, hbel⟩ := hrel
    by_cases hlt : k < n
    · obtain ⟨b, off, g, rfl, hbl, c0, c1, c2, hg, hin⟩ := (HH.out.below hbel.out).at_ hlt
      obtain ⟨hst, hend⟩ := all_step (sidB r c) gs k (by rw [hl.out]; exact hlt) g hg.out ht.out
      have HB := Lib.hid (hbel.out.alloc hbel.out.size (.cells #[.int .i64 g.r, .int .i64 g.c, .slice g.a g.n g.cap] 55))
      obtain ⟨gr, gc, ga, m, gcap, v⟩ := g
      simp only at c0 c1 c2 HB
      by_cases h1 : gr = r
      · by_cases h2 : gc = c
        · have R2 : Hid ((gs.take (k + 1)).all (sidB r c) = true) := Lib.hid (by rw [hst]; unfold sidB; rw [decide_eq_true h1, decide_eq_true h2]; rfl)
          subst h1 h2
          clear hst hend hg hin
          go_wp2
          go_roundw
          case rel => exact ⟨k + 1, by omega, by go_num, R2, HB⟩
          case measure => simp [intOf]; omega
        · have R2 : Hid (gs.all (matB r c) = false) := Lib.hid (by rw [HS.out, hend (by unfold sidB; rw [decide_eq_false h2]; simp)]; rfl)
          have e3 : (gc != (c : Int)) = true := by simp; omega
          subst h1
          clear hst hend hg hin
          go_wp2
          go_ret
          exact ⟨ret_bool R2.out.symm, HB.out⟩
      · have R2 : Hid (gs.all (matB r c) = false) := Lib.hid (by rw [HS.out, hend (by unfold sidB; rw [decide_eq_false h1]; simp)]; rfl)
        have e3 : (gr != (r : Int)) = true := by simp; omega
        clear hst hend hg hin
        go_wp2
        go_ret
        exact ⟨ret_bool R2.out.symm, HB.out⟩
    · obtain rfl : k = n := by omega
      have R : Hid (gs.all (matB r c) = fitAll gs) := Lib.hid (by
        have h1 := ht.out
        rw [List.take_of_length_le (by rw [hl.out]; omega)] at h1
        rw [HS.out, h1]; rfl)
      have hm := mright_any a k cap gs wr (HH.out.below hbel.out)
      go_wp2_with fail
      refine hm.mono ?_
      rintro e w' ⟨rfl, hb⟩
      have HB := Lib.hid (below_two hbel.out hb)
      clear hb hm
      go_wp2
      go_ret
      exact ⟨ret_bool R.out.symm, HB.out⟩

end Go.Proofs.YtdclfcfdadkmeaaDoor

/-
  The code's matrix: noughts in new memory.
-/
namespace Go.Proofs.YtdclfcfdadkmeaaDoor
open Go.RowKit
set_option linter.unusedVariables false

/-- n numbers of 8 bits, all noughts, as a block -/
def Z8 (n : Nat) : Obj := .cells (((List.replicate n (0 : Int)).map (Value.int .i8)).toArray) 89 (0, 0)
theorem z8_mine {w : World} {g n : Nat} (h : w.heap[g]? = some (Z8 n)) : MineK .i8 w g 89 (List.replicate n 0) := h
theorem mine_z8 {w : World} {g n : Nat} (h : MineK .i8 w g 89 (List.replicate n 0)) : w.heap[g]? = some (Z8 n) := h


end Go.Proofs.YtdclfcfdadkmeaaDoor

/-
  How many numbers of which kind weights have, in the file's order: the document's Rows, as a list; where such rows lie.
-/
namespace Go.Proofs.YtdclfcfdadkmeaaDoor
open Go.RowKit
set_option linter.unusedVariables false

/-- one block's rows: gains or not, how many -/
def blk7 (s : Sz) : List (Bool × Nat) := [(true, s.w), (false, s.w * s.w), (false, s.w * s.w), (false, s.w * s.w), (false, s.w * s.w), (true, s.w), (false, s.i * s.w), (false, s.w * s.i)]
/-- the first k blocks' -/
def blks (s : Sz) (k : Nat) : List (Bool × Nat) := (List.replicate k (blk7 s)).flatten
def rowsK (s : Sz) (k : Nat) : List (Bool × Nat) := (false, s.v * s.w) :: blks s k
/-- all -/
def rowsL (s : Sz) : List (Bool × Nat) := rowsK s s.l ++ [(true, s.w), (false, s.v * s.w)]
/-- how many numbers -/
def tot (rs : List (Bool × Nat)) : Nat := (rs.map Prod.snd).sum

theorem blks_succ (s : Sz) (k : Nat) : blks s (k + 1) = blks s k ++ blk7 s := by
  unfold blks; rw [List.replicate_succ', List.flatten_append]; simp
theorem rowsK_succ (s : Sz) (k : Nat) : rowsK s (k + 1) = rowsK s k ++ blk7 s := by unfold rowsK; rw [blks_succ]; rfl
theorem blks_len (s : Sz) (k : Nat) : (blks s k).length = 8 * k := by
  induction k with
  | zero => rfl
  | succ k ih => rw [blks_succ, List.length_append, ih]; simp [blk7]; omega
theorem rowsK_len (s : Sz) (k : Nat) : (rowsK s k).length = 8 * k + 1 := by unfold rowsK; rw [List.length_cons, blks_len]
theorem rowsL_len (s : Sz) : (rowsL s).length = 8 * s.l + 3 := by unfold rowsL; rw [List.length_append, rowsK_len]; rfl
theorem tot_app (a b : List (Bool × Nat)) : tot (a ++ b) = tot a + tot b := by unfold tot; rw [List.map_append, List.sum_append]
theorem tot_blks (s : Sz) (k : Nat) : tot (blks s k) = k * (2 * s.w + 4 * (s.w * s.w) + 2 * (s.i * s.w)) := by
  induction k with
  | zero => simp [blks, tot]
  | succ k ih =>
    have e : tot (blk7 s) = 2 * s.w + 4 * (s.w * s.w) + 2 * (s.i * s.w) := by
      simp only [blk7, tot, List.map_cons, List.map_nil, List.sum_cons, List.sum_nil, Nat.mul_comm s.w s.i]
      omega
    rw [blks_succ, tot_app, ih, e]
    exact (Nat.succ_mul _ _).symm
theorem tot_rows (s : Sz) : tot (rowsL s) = cnt s := by
  unfold rowsL rowsK
  rw [tot_app]
  have e : tot ((false, s.v * s.w) :: blks s s.l) = s.v * s.w + tot (blks s s.l) := by simp [tot]
  rw [e, tot_blks]
  unfold cnt
  simp [tot]; omega
theorem tot_take_le (rs : List (Bool × Nat)) (k : Nat) : tot (rs.take k) ≤ tot rs := by
  have : tot rs = tot (rs.take k) + tot (rs.drop k) := by rw [← tot_app, List.take_append_drop]
  omega
theorem tot_step (rs : List (Bool × Nat)) (k : Nat) (hk : k < rs.length) : tot (rs.take (k + 1)) = tot (rs.take k) + (rs.getD k default).2 := by
  rw [List.take_add_one, tot_app]
  simp [tot, List.getD, List.getElem?_eq_getElem hk]
theorem tot_at (rs : List (Bool × Nat)) (k : Nat) (hk : k < rs.length) : tot (rs.take k) + (rs.getD k default).2 ≤ tot rs := by
  rw [← tot_step _ _ hk]; exact tot_take_le _ _

/-- a row's two cells -/
def rcell (r : Bool × Nat) : List Value := [.bool r.1, .int .i64 r.2]
theorem rcell_len (rs : List (Bool × Nat)) : (rs.flatMap rcell).length = rs.length * 2 := by
  induction rs with
  | nil => rfl
  | cons r rs ih => rw [List.flatMap_cons, List.length_append, ih]; simp [rcell]; omega
theorem rcell_at (rs : List (Bool × Nat)) (k : Nat) (hk : k < rs.length) : (rs.flatMap rcell)[k * 2]? = some (.bool (rs.getD k default).1) ∧ (rs.flatMap rcell)[k * 2 + 1]? = some (.int .i64 ((rs.getD k default).2 : Nat)) := by
  induction rs generalizing k with
  | nil => simp at hk
  | cons r rs ih =>
    cases k with
    | zero => simp [rcell]
    | succ k =>
      obtain ⟨h1, h2⟩ := ih k (by simpa using hk)
      have e1 : (k + 1) * 2 = k * 2 + 2 := by omega
      rw [List.flatMap_cons, e1]
      simp only [rcell, List.cons_append, List.nil_append, List.getElem?_cons_succ, List.getD_cons_succ]
      exact ⟨h1, h2⟩

/-- rows as they lie: n of them, from a on -/
def RowsAt (w : World) (a : Option Addr) (n : Nat) (rs : List (Bool × Nat)) : Prop :=
  rs.length = n ∧ ∃ b, a = some ⟨b, 0, none⟩ ∧ b < w.heap.size ∧ ∀ k, k < n → w.cell? ⟨b, k * 2, none⟩ = some (.bool (rs.getD k default).1) ∧ w.cell? ⟨b, k * 2 + 1, none⟩ = some (.int .i64 ((rs.getD k default).2 : Nat))
theorem RowsAt.below {w w' : World} {a : Option Addr} {n : Nat} {rs : List (Bool × Nat)} (h : RowsAt w a n rs) (hb : Below w.heap.size w w') : RowsAt w' a n rs := by
  obtain ⟨h1, b, rfl, hlt, h2⟩ := h
  refine ⟨h1, b, rfl, Nat.lt_of_lt_of_le hlt hb.size, fun k hk => ?_⟩
  obtain ⟨c0, c1⟩ := h2 k hk
  exact ⟨(hb.cell (p := ⟨b, _, none⟩) hlt).trans c0, (hb.cell (p := ⟨b, _, none⟩) hlt).trans c1⟩
theorem rowsAt_of_own {w : World} {base : Nat} {e : TypeId} {v : Value} {n : Nat} {rs : List (Bool × Nat)} (h : w.ownsRow base e 2 v n (rs.flatMap rcell)) (hn : 0 < n) : ∃ a cap, v = .slice a n cap ∧ RowsAt w a n rs ∧ n ≤ 9223372036854775807 := by
  have hl : rs.length = n := by have := h.1; rw [rcell_len] at this; omega
  rcases h.2 with ⟨_, h0⟩ | ⟨g, cap, cur, hv, hb, hg, hnc, hcm, hcs, ht⟩
  · omega
  · unfold maxLen at hcm
    refine ⟨_, _, hv, ⟨hl, g, rfl, (Array.getElem?_eq_some_iff.1 hg).1, fun k hk => ?_⟩, by omega⟩
    obtain ⟨e0, e1⟩ := rcell_at rs k (by omega)
    rw [← ht] at e0 e1
    rw [List.getElem?_take, if_pos (by omega), Array.getElem?_toList] at e0 e1
    rw [cell_of_row w g _ cur e (0, 0) hg, cell_of_row w g _ cur e (0, 0) hg]
    exact ⟨e0, e1⟩

theorem info_row : (Tryd.prog.info? 129).map (fun i => (i.zero, i.size, i.bytes)) = some (some (.agg #[.bool false, .int .i64 0]), 2, 16) := by kernel_rfl

/-- some rows more, behind rows of the call's own: the append as a run -/
theorem run_append_rows (w : World) (base : Nat) (v : Value) (n m : Nat) (rs ms : List (Bool × Nat)) (cs : Array Value) (hcs : cs.toList = ms.flatMap rcell) (hown : w.ownsRow base 129 2 v n (rs.flatMap rcell)) (hm : ms.length = m) (hn : n ≤ 1000) (hm2 : m ≤ 1000) (hbase : base ≤ w.heap.size) :
    ∃ v' w', Sem.run Tryd.prog (Builtin.append_ #[126, 126] 126 #[v, .slice (some ⟨w.heap.size, 0, none⟩) m m]) (w.alloc (.cells cs 129)) = .ok v' w' ∧
      w'.ownsRow base 129 2 v' (n + m) ((rs ++ ms).flatMap rcell) ∧ w.grownBy w' v.ownBlock := by
  obtain ⟨i0, hi, hz0, hz1, hz2⟩ : ∃ i, Tryd.prog.info? 129 = some i ∧ i.zero = some (.agg #[.bool false, .int .i64 0]) ∧ i.size = 2 ∧ i.bytes = 16 := by
    have h := info_row
    cases hh : Tryd.prog.info? 129 with
    | none => rw [hh] at h; cases h
    | some i =>
      rw [hh] at h
      simp only [Option.map_some, Option.some.injEq, Prod.mk.injEq] at h
      exact ⟨i, rfl, h.1, h.2.1, h.2.2⟩
  have hnews := World.news_of_block (cs := cs) (t := 129) (fr := (0, 0)) (heap_alloc_new w (.cells cs 129))
  obtain ⟨v', w', hr, h2, h3, _⟩ := run_append_own_at (P := Tryd.prog) (w.alloc (.cells cs 129)) base 126 126 129 i0 _ 2 16 Tryd.underlying126 hi hz0 hz1 hz2 rfl (by omega) v n _ (hown.alloc _)
    ⟨w.heap.size, 0, none⟩ m m (ms.flatMap rcell) (by rw [rcell_len, hm]) (by rw [← hcs]; exact hnews) (by
      intro u hu
      obtain ⟨g, _, hu⟩ := List.mem_flatMap.1 hu
      simp only [rcell, List.mem_cons, List.not_mem_nil, or_false] at hu
      rcases hu with rfl | rfl <;> rfl) (by unfold maxLen; omega) (by omega) (by simp; omega)
  exact ⟨v', w', hr, by rw [List.flatMap_append]; exact h2, (World.grownBy_alloc w _ _).trans h3⟩

end Go.Proofs.YtdclfcfdadkmeaaDoor

/-
  The code's block of noughts: eight rows, each in new memory of its own.
-/
namespace Go.Proofs.YtdclfcfdadkmeaaDoor
open Go.RowKit
set_option linter.unusedVariables false

/-- the cells of a block whose rows lie in the blocks g 0 .. g 7 (the file's order), of W columns and I inner ones -/
def bkv (W I : Nat) (g : Nat → Nat) : Array Value := #[.slice (some ⟨(g 0), 0, none⟩) (W : Nat) (W : Nat), .slice (some ⟨(g 5), 0, none⟩) (W : Nat) (W : Nat), .int .i64 (W : Nat), .int .i64 (W : Nat), .slice (some ⟨(g 1), 0, none⟩) (W * W : Nat) (W * W : Nat), .int .i64 (W : Nat), .int .i64 (W : Nat), .slice (some ⟨(g 2), 0, none⟩) (W * W : Nat) (W * W : Nat), .int .i64 (W : Nat), .int .i64 (W : Nat), .slice (some ⟨(g 3), 0, none⟩) (W * W : Nat) (W * W : Nat), .int .i64 (W : Nat), .int .i64 (W : Nat), .slice (some ⟨(g 4), 0, none⟩) (W * W : Nat) (W * W : Nat), .int .i64 (I : Nat), .int .i64 (W : Nat), .slice (some ⟨(g 6), 0, none⟩) (I * W : Nat) (I * W : Nat), .int .i64 (W : Nat), .int .i64 (I : Nat), .slice (some ⟨(g 7), 0, none⟩) (W * I : Nat) (W * I : Nat)]
theorem bkv_size (W I : Nat) (g : Nat → Nat) : (bkv W I g).size = 20 := rfl
theorem bkv_one (W I : Nat) (g : Nat → Nat) : (bkv W I g).all (·.oneCell') = true := by simp [bkv, Value.oneCell']
/-- the numbers of the k-th row -/
def dim7 (W I : Nat) : List Nat := [W, W * W, W * W, W * W, W * W, W, I * W, W * I]


end Go.Proofs.YtdclfcfdadkmeaaDoor

/-
  The code's blank weights, the first stretch: matrices, rows and blocks of noughts.
-/
namespace Go.Proofs.YtdclfcfdadkmeaaDoor
open Go.RowKit
set_option linter.unusedVariables false

/-- the cells of weights: six numbers, two matrices, n blocks, a row -/
def wval (L W H I V P : Nat) (e b t h : Nat) : Array Value := #[.int .i64 L, .int .i64 W, .int .i64 H, .int .i64 I, .int .i64 V, .int .i64 P, .int .i64 V, .int .i64 W, .slice (some ⟨e, 0, none⟩) (V * W : Nat) (V * W : Nat), .slice (some ⟨b, 0, none⟩) L L, .slice (some ⟨t, 0, none⟩) W W, .int .i64 V, .int .i64 W, .slice (some ⟨h, 0, none⟩) (V * W : Nat) (V * W : Nat)]
theorem wval_one (L W H I V P e b t h : Nat) : (wval L W H I V P e b t h).all (·.oneCell') = true := by simp [wval, Value.oneCell']
/-- the zero values of a block and of weights -/
def zblk : Array Value := #[.slice none 0 0, .slice none 0 0, .int .i64 0, .int .i64 0, .slice none 0 0, .int .i64 0, .int .i64 0, .slice none 0 0, .int .i64 0, .int .i64 0, .slice none 0 0, .int .i64 0, .int .i64 0, .slice none 0 0, .int .i64 0, .int .i64 0, .slice none 0 0, .int .i64 0, .int .i64 0, .slice none 0 0]
def zwts : Array Value := #[.int .i64 0, .int .i64 0, .int .i64 0, .int .i64 0, .int .i64 0, .int .i64 0, .int .i64 0, .int .i64 0, .slice none 0 0, .slice none 0 0, .slice none 0 0, .int .i64 0, .int .i64 0, .slice none 0 0]
def ZW : Obj := .cells zwts 58 (0, 0)
def ZB (n : Nat) : Obj := .cells (madeCells zblk (n * 20)) 101 (0, 0)
theorem weights_made (w : World) : (w.alloc ZW).heap[w.heap.size]? = some ZW := heap_alloc_new w _
theorem blocks_made (w : World) (n : Nat) : (w.alloc (ZB n)).heap[w.heap.size]? = some (ZB n) := heap_alloc_new w _
theorem infoBlk : ∃ i, Tryd.prog.info? 101 = some i ∧ i.zero = some (.agg zblk) ∧ i.size = 20 ∧ i.bytes = 288 := by
  have h : (Tryd.prog.info? 101).map (fun i => (i.zero, i.size, i.bytes)) = some (some (.agg zblk), 20, 288) := by kernel_rfl
  cases hh : Tryd.prog.info? 101 with
  | none => rw [hh] at h; cases h
  | some i => rw [hh] at h; simp only [Option.map_some, Option.some.injEq, Prod.mk.injEq] at h; exact ⟨i, rfl, h.1, h.2.1, h.2.2⟩
/-- make([]api.Block, n) -/
theorem run_make_blocks (n : Nat) (hn : n ≤ 16) (w : World) : (Instr.makeSlice 56 (.int .i64 (n : Int)) (.int .i64 (n : Int))).run Tryd.prog w = .ok (.slice (some ⟨w.heap.size, 0, none⟩) n n) (w.alloc (ZB n)) := by
  obtain ⟨i, hi, hz, hs, hby⟩ := infoBlk
  have hr := run_make (P := Tryd.prog) w 56 101 i _ Tryd.underlying56 hi hz .i64 .i64 n n (by omega) (by omega) (by rw [hby]; omega) (by omega)
  simp only [Int.toNat_natCast, hs] at hr
  exact hr

/-- what blank answers: every row of noughts in a block of its own, the blocks' cells as they must be -/
def Blank (s : Sz) (w : World) (e : Ending) (w' : World) : Prop := ∃ (G : Nat → Nat) (b : Nat) (cs : Array Value), e = .returned (.agg (wval s.l s.w s.h s.i s.v s.p (G 0) b (G (8 * s.l + 1)) (G (8 * s.l + 2)))) ∧
  (∀ j r, (rowsL s)[j]? = some r → w.heap.size ≤ G j ∧ w'.heap[G j]? = some (Z8 r.2)) ∧ (∀ i j, i < 8 * s.l + 3 → j < 8 * s.l + 3 → i ≠ j → G i ≠ G j) ∧
  w.heap.size ≤ b ∧ Box w' b 101 cs ∧ cs.size = 20 * s.l ∧ (∀ c, c < s.l → ∀ k, k < 20 → cs[c * 20 + k]? = (bkv s.w s.i (fun k => G (1 + 8 * c + k)))[k]?)

theorem rowsL_zero (s : Sz) : (rowsL s)[0]? = some (false, s.v * s.w) := rfl
theorem rowsL_last (s : Sz) : (rowsL s)[8 * s.l + 1]? = some (true, s.w) := by
  unfold rowsL; rw [List.getElem?_append_right (by rw [rowsK_len]; omega), rowsK_len, Nat.sub_self]; rfl
theorem rowsL_head (s : Sz) : (rowsL s)[8 * s.l + 2]? = some (false, s.v * s.w) := by
  unfold rowsL; rw [List.getElem?_append_right (by rw [rowsK_len]; omega), rowsK_len, show 8 * s.l + 2 - (8 * s.l + 1) = 1 by omega]; rfl
theorem blks_at (s : Sz) (n c k : Nat) (hc : c < n) (hk : k < 8) : (blks s n)[8 * c + k]? = (blk7 s)[k]? := by
  induction n with
  | zero => omega
  | succ n ih =>
    rw [blks_succ]
    by_cases h : c < n
    · rw [List.getElem?_append_left (by rw [blks_len]; omega), ih h]
    · obtain rfl : c = n := by omega
      rw [List.getElem?_append_right (by rw [blks_len]; omega), blks_len, Nat.add_sub_cancel_left]
theorem rowsL_blk (s : Sz) (c k : Nat) (hc : c < s.l) (hk : k < 8) : (rowsL s)[1 + 8 * c + k]? = (blk7 s)[k]? := by
  unfold rowsL rowsK
  rw [List.getElem?_append_left (by rw [List.length_cons, blks_len]; omega), show 1 + 8 * c + k = (8 * c + k) + 1 by omega, List.getElem?_cons_succ]
  exact blks_at s s.l c k hc hk
theorem dim_blk (s : Sz) (k : Nat) : (dim7 s.w s.i)[k]? = ((blk7 s)[k]?).map Prod.snd := by
  rw [← List.getElem?_map]; rfl

/-- what blank's loop keeps, k blocks being laid -/
def BInv (s : Sz) (B k : Nat) (G : Nat → Nat) (b : Nat) (w : World) : Prop :=
  (∀ j r, (rowsL s)[j]? = some r → (j < 1 + 8 * k ∨ 8 * s.l + 1 ≤ j) → B ≤ G j ∧ w.heap[G j]? = some (Z8 r.2)) ∧
  (∀ i j, i < 8 * s.l + 3 → j < 8 * s.l + 3 → (i < 1 + 8 * k ∨ 8 * s.l + 1 ≤ i) → (j < 1 + 8 * k ∨ 8 * s.l + 1 ≤ j) → i ≠ j → G i ≠ G j) ∧
  ∃ cs, Box w b 101 cs ∧ cs.size = 20 * s.l ∧ ∀ c, c < k → ∀ q, q < 20 → cs[c * 20 + q]? = (bkv s.w s.i (fun k => G (1 + 8 * c + k)))[q]?

theorem bkv_congr (W I : Nat) (g g' : Nat → Nat) (h : ∀ x, x < 8 → g x = g' x) : bkv W I g = bkv W I g' := by
  unfold bkv
  rw [h 0 (by omega), h 1 (by omega), h 2 (by omega), h 3 (by omega), h 4 (by omega), h 5 (by omega), h 6 (by omega), h 7 (by omega)]
/-- one block more -/
theorem BInv.next {s : Sz} {B k : Nat} {G : Nat → Nat} {b : Nat} {w w' : World} (h : BInv s B k G b w) (hk : k < s.l) (g : Nat → Nat) (hb : Below w.heap.size w w') (hB : B ≤ w.heap.size)
    (hg : ∀ q n, (dim7 s.w s.i)[q]? = some n → w.heap.size ≤ g q ∧ w'.heap[g q]? = some (Z8 n)) (hd : ∀ i j, i < 8 → j < 8 → i ≠ j → g i ≠ g j) (hbb : B ≤ b) :
    ∃ cur G', Box w' b 101 cur ∧ k * 20 + 20 ≤ cur.size ∧ G' 0 = G 0 ∧ G' (8 * s.l + 1) = G (8 * s.l + 1) ∧ G' (8 * s.l + 2) = G (8 * s.l + 2) ∧ BInv s B (k + 1) G' b (w'.setRow b (mid cur (k * 20) (bkv s.w s.i g))) := by
  obtain ⟨h1, h2, cs, hbx, hcs, hat⟩ := h
  have hfit : k * 20 + (bkv s.w s.i g).size ≤ cs.size := by rw [bkv_size, hcs]; omega
  have hbx' := hbx.bel hb
  have hold : ∀ j, (j < 1 + 8 * k ∨ 8 * s.l + 1 ≤ j) → j < 8 * s.l + 3 → G j < w.heap.size := by
    intro j hm hj
    obtain ⟨r, hr⟩ : ∃ r, (rowsL s)[j]? = some r := ⟨_, List.getElem?_eq_getElem (by rw [rowsL_len]; exact hj)⟩
    exact (Array.getElem?_eq_some_iff.1 (h1 j r hr hm).2).1
  have hnew : ∀ q, q < 8 → w.heap.size ≤ g q := by
    intro q hq
    obtain ⟨n, hn⟩ : ∃ n, (dim7 s.w s.i)[q]? = some n := ⟨_, List.getElem?_eq_getElem (by simp [dim7]; omega)⟩
    exact (hg q n hn).1
  refine ⟨cs, fun j => if 1 + 8 * k ≤ j ∧ j < 1 + 8 * k + 8 then g (j - (1 + 8 * k)) else G j, hbx', by rw [hcs]; omega, ?_, ?_, ?_, ?_, ?_, ?_⟩
  · show (if 1 + 8 * k ≤ 0 ∧ _ then _ else _) = _; rw [if_neg (by omega)]
  · show (if 1 + 8 * k ≤ 8 * s.l + 1 ∧ _ then _ else _) = _; rw [if_neg (by omega)]
  · show (if 1 + 8 * k ≤ 8 * s.l + 2 ∧ _ then _ else _) = _; rw [if_neg (by omega)]
  · intro j r hj hm
    have hj3 : j < 8 * s.l + 3 := by have := (List.getElem?_eq_some_iff.1 hj).1; rw [rowsL_len] at this; exact this
    have hz : ∀ (G0 n : Nat), w'.heap[G0]? = some (Z8 n) → (w'.setRow b (mid cs (k * 20) (bkv s.w s.i g))).heap[G0]? = some (Z8 n) := by
      intro G0 n h0
      refine (setRow_other w' b G0 _ (fun e => ?_)).trans h0
      rw [e] at h0
      have := h0.symm.trans hbx'
      simp [Z8] at this
    by_cases hin : 1 + 8 * k ≤ j ∧ j < 1 + 8 * k + 8
    · simp only [if_pos hin]
      have he : j = 1 + 8 * k + (j - (1 + 8 * k)) := by omega
      have hr : (blk7 s)[j - (1 + 8 * k)]? = some r := by rw [← rowsL_blk s k _ hk (by omega), ← he]; exact hj
      obtain ⟨e1, e2⟩ := hg (j - (1 + 8 * k)) r.2 (by rw [dim_blk, hr]; rfl)
      exact ⟨by omega, hz _ _ e2⟩
    · simp only [if_neg hin]
      obtain ⟨e1, e2⟩ := h1 j r hj (by omega)
      exact ⟨e1, hz _ _ ((hb.block _ (hold j (by omega) hj3)).trans e2)⟩
  · intro i j hi hj mi mj hne
    by_cases ii : 1 + 8 * k ≤ i ∧ i < 1 + 8 * k + 8
    · simp only [if_pos ii]
      have a1 := hnew (i - (1 + 8 * k)) (by omega)
      by_cases jj : 1 + 8 * k ≤ j ∧ j < 1 + 8 * k + 8
      · simp only [if_pos jj]
        exact hd _ _ (by omega) (by omega) (by omega)
      · simp only [if_neg jj]
        have a2 := hold j (by omega) hj
        omega
    · simp only [if_neg ii]
      have a1 := hold i (by omega) hi
      by_cases jj : 1 + 8 * k ≤ j ∧ j < 1 + 8 * k + 8
      · simp only [if_pos jj]
        have a2 := hnew (j - (1 + 8 * k)) (by omega)
        omega
      · simp only [if_neg jj]
        exact h2 i j hi hj (by omega) (by omega) hne
  · refine ⟨_, hbx'.setRow, by rw [mid_size _ _ _ hfit]; exact hcs, fun c hc q hq => ?_⟩
    by_cases e : c = k
    · subst e
      rw [mid_at _ _ _ hfit q (by rw [bkv_size]; exact hq)]
      rw [bkv_congr s.w s.i g _ (fun x hx => ?_)]
      show g x = if 1 + 8 * c ≤ 1 + 8 * c + x ∧ 1 + 8 * c + x < 1 + 8 * c + 8 then g (1 + 8 * c + x - (1 + 8 * c)) else G (1 + 8 * c + x)
      rw [if_pos (by omega), Nat.add_sub_cancel_left]
    · rw [mid_far _ _ _ hfit _ (by rw [bkv_size]; omega), hat c (by omega) q hq]
      rw [bkv_congr s.w s.i _ _ (fun x hx => ?_)]
      show G (1 + 8 * c + x) = if 1 + 8 * k ≤ 1 + 8 * c + x ∧ 1 + 8 * c + x < 1 + 8 * k + 8 then g (1 + 8 * c + x - (1 + 8 * k)) else G (1 + 8 * c + x)
      rw [if_neg (by omega)]


end Go.Proofs.YtdclfcfdadkmeaaDoor
