import Derived.Test.YtoeihigdndkjeaaGreatDoorP25
/-
  What the document's run keeps while a token goes through its layers.
-/
namespace Go.Proofs.YtoeihigdndkjeaaGreatDoor
open Go.RowKit Go.Shelf
set_option linter.unusedVariables false

/-- behind the first place's making: w9 is the world then; keys of n layers are laid, values of m -/
structure LoopO (w9 wr : World) (lb lcap p : Nat) (s : Sz) (f : Nat → KV8) (ps : List Pl8) (n m : Nat) (x : Pl8) : Prop where
  os : wr.os = w9.os
  tape : wr.tape = w9.tape
  output : wr.output = w9.output
  size : w9.heap.size ≤ wr.heap.size
  blk : ∀ k, k < w9.heap.size → k ≠ lb → wr.heap[k]? = w9.heap[k]?
  lt : lb < w9.heap.size
  own : wr.ownsRow 0 56 2 (.slice (some ⟨lb, 0, none⟩) (p + 1) lcap) (p + 1) (lvals (ps ++ [x]))
  sl : AllSl wr 56 lb
  k : HdT wr w9.heap.size x.kv n s.w x.kr
  v : HdT wr w9.heap.size x.vv m s.w x.vr
  ne : ∀ g, x.kv.ownBlock = some g → x.vv.ownBlock ≠ some g
  numk : ∀ l, l < n → (x.kr.getD l default).v = (f l).1
  numv : ∀ l, l < m → (x.vr.getD l default).v = (f l).2

/-- the same, in letters -/
def GivesT (v : List Int) (n : Nat) (w : World) (e : Ending) : Prop := ∃ a cap, e = .returned (.slice a n cap) ∧ RowT w ⟨a, n, cap, v⟩
theorem GivesD.t {v : List Int} {n : Nat} {w0 w : World} {e : Ending} (h : GivesD v n w0 w e) : GivesT v n w e := by
  obtain ⟨⟨a, n', cap, v'⟩, he, hT, hv, hn, _, _⟩ := h
  simp only at he hv hn
  subst hv hn
  exact ⟨a, cap, he, hT⟩
theorem HdT.grown {w w' : World} {q : Option Nat} {v : Value} {n base wd : Nat} {rows : List Rw} (h : HdT w base v n wd rows) (hg : w.grownBy w' q) (hq : ∀ g, q = some g → IsT w g 24 ∧ v.ownBlock ≠ some g) : HdT w' base v n wd rows :=
  ⟨own_blk h.own (fun k hk => hg.block k (h.own.lt k hk).2 (fun e => (hq k e.symm).2 hk)),
   fun x hx => ⟨(h.rows x hx).1.blk fun y hy => hg.block _ ((h.rows x hx).1.2 y hy).lt (fun e => ((h.rows x hx).1.2 y hy).ne (hq _ e.symm).1 (by decide) rfl), (h.rows x hx).2⟩,
   fun k hk => (h.sl k hk).blk (hg.block k (h.own.lt k hk).2 (fun e => (hq k e.symm).2 hk))⟩
theorem keep_grown {w w' : World} {q : Option Nat} (hg : w.grownBy w' q) (hq : ∀ g, q = some g → AllSl w 24 g) : Keep8 w w' :=
  ⟨fun a v hs hv hc => hg.cell hc (fun e => (hq _ e.symm).ne hc hs hv rfl), fun k X hk h1 h2 => hg.block k hk.lt (fun e => hk.ne (hq k e.symm).isT h2 rfl), hg.size⟩
theorem keep_set {w : World} {lb o : Nat} (h : AllSl w 56 lb) (u : Value) : Keep8 w (w.setCell ⟨lb, o, none⟩ u) :=
  ⟨fun a v hs hv hc => cell_set hc u (h.ne hc hs hv), fun k X hk h1 h2 => Below.heap_setCell w ⟨lb, o, none⟩ u k (hk.ne h.isT h1), by simp⟩
theorem getD_end {α : Type} [Inhabited α] (xs : List α) (y : α) (i : Nat) : (i < xs.length → (xs ++ [y]).getD i default = xs.getD i default) ∧ (i = xs.length → (xs ++ [y]).getD i default = y) := by
  constructor
  · intro h
    rw [List.getD_eq_getElem?_getD, List.getD_eq_getElem?_getD, List.getElem?_append_left h]
  · rintro rfl
    rw [List.getD_eq_getElem?_getD, List.getElem?_append_right (Nat.le_refl _), Nat.sub_self]
    rfl
section
variable {w9 wr w' : World} {lb lcap p n m : Nat} {s : Sz} {f : Nat → KV8} {ps : List Pl8} {x : Pl8}
theorem LoopO.bel (h : LoopO w9 wr lb lcap p s f ps n m x) (hb : Below wr.heap.size wr w') : LoopO w9 w' lb lcap p s f ps n m x :=
  ⟨hb.os.trans h.os, hb.tape.trans h.tape, hb.output.trans h.output, Nat.le_trans h.size hb.size, fun k hk hne => (hb.block k (Nat.lt_of_lt_of_le hk h.size)).trans (h.blk k hk hne), h.lt,
   own_blk h.own (fun k hk => hb.block k (h.own.lt k hk).2), h.sl.blk (hb.block _ h.sl.isT.lt), h.k.bel hb, h.v.bel hb, h.ne, h.numk, h.numv⟩
theorem LoopO.keep (h : LoopO w9 wr lb lcap p s f ps n m x) (h9 : AllSl w9 56 lb) : Keep8 w9 wr :=
  ⟨fun a v hs hv hc => (World.cell?_of_block (w := w9) (a := a) (h.blk _ (World.block_lt_of_cell? _ _ hc) (h9.ne hc hs hv))).trans hc, fun k X hk h1 h2 => h.blk k hk.lt (hk.ne h9.isT h1), h.size⟩
theorem LoopO.wt (h : LoopO w9 wr lb lcap p s f ps n m x) (h9 : AllSl w9 56 lb) {W : Wt7} (hW : W.In w9) : W.In wr :=
  (h.keep h9).st.wt hW h.size (fun g off ha hn => by
    have := (wt_ne (w := w9) hW ha hn).1 _ _ h9
    obtain ⟨_, _, _, ⟨_, _, _, k4⟩, _⟩ := hW
    obtain ⟨g', off', ha', hlt', _⟩ := k4 hn
    rw [ha] at ha'
    cases ha'
    exact h.blk g hlt' this)
theorem LoopO.cells (h : LoopO w9 wr lb lcap p s f ps n m x) (hps : ps.length = p) {i : Nat} (hi : i ≤ p) : wr.cell? ⟨lb, i * 2, none⟩ = some ((ps ++ [x]).getD i default).kv ∧ wr.cell? ⟨lb, i * 2 + 1, none⟩ = some ((ps ++ [x]).getD i default).vv := by
  obtain ⟨h1, h2⟩ := lvals_at (ps ++ [x]) i (by simp; omega)
  have c := h.own.cells (g := lb) rfl
  have c1 := c _ _ h1
  have c2 := c _ _ h2
  rw [Addr.add_lit, Nat.zero_add] at c1 c2
  exact ⟨c1, c2⟩
theorem LoopO.putK (h : LoopO w9 wr lb lcap p s f ps n m x) (hps : ps.length = p) (q : Rw) (hq : RowT wr q) (hqn : q.n = s.w) (hv : q.v = (f n).1) (hn : n ≤ 16) :
    ∃ g cap w2, Sem.run Tryz.prog (Builtin.append_ #[54, 54] 54 #[x.kv, .slice (some ⟨wr.heap.size, 0, none⟩) 1 1]) (wr.alloc (.cells #[.slice q.a q.n q.cap] 24)) = .ok (.slice (some ⟨g, 0, none⟩) (n + 1) cap) w2 ∧
      w2.cell? ⟨lb, p * 2, none⟩ = some x.kv ∧ w2.frozen? ⟨lb, p * 2, none⟩ = false ∧ Keep8 wr w2 ∧ Keep8 w2 (w2.setCell ⟨lb, p * 2, none⟩ (.slice (some ⟨g, 0, none⟩) (n + 1) cap)) ∧
      LoopO w9 (w2.setCell ⟨lb, p * 2, none⟩ (.slice (some ⟨g, 0, none⟩) (n + 1) cap)) lb lcap p s f ps (n + 1) m ⟨.slice (some ⟨g, 0, none⟩) (n + 1) cap, x.kr ++ [q], x.vv, x.vr⟩ := by
  obtain ⟨g, cap, w2, hr, hk2, hgr, hgb, _⟩ := head_next wr w9.heap.size x.kv n s.w x.kr q h.k hq hqn (by omega) h.size
  have hkb : ∀ j, x.kv.ownBlock = some j → w9.heap.size ≤ j ∧ j < wr.heap.size := fun j hj => h.k.own.lt j hj
  have hlb : w2.heap[lb]? = wr.heap[lb]? := hgr.block lb h.sl.isT.lt (fun e => by have := (hkb lb e.symm).1; have := h.lt; omega)
  have hsl2 : AllSl w2 56 lb := h.sl.blk hlb
  have hown2 : w2.ownsRow 0 56 2 (.slice (some ⟨lb, 0, none⟩) (p + 1) lcap) (p + 1) (lvals (ps ++ [x])) := own_blk h.own (fun j hj => by cases hj; exact hlb)
  have hlx := (getD_end ps x p).2 hps.symm
  have hc : w2.cell? ⟨lb, p * 2, none⟩ = some x.kv := by
    have h1 := (h.cells hps (Nat.le_refl p)).1
    rw [hlx] at h1
    rw [World.cell?_of_block (w := wr) (a := ⟨lb, p * 2, none⟩) hlb]
    exact h1
  have hv2 : HdT w2 w9.heap.size x.vv m s.w x.vr := h.v.grown hgr (fun j hj => ⟨own_isT h.k.own hj, h.ne j hj⟩)
  have hbut : But lb w2 (w2.setCell ⟨lb, p * 2, none⟩ (.slice (some ⟨g, 0, none⟩) (n + 1) cap)) := fun j hj hne => Below.heap_setCell w2 ⟨lb, p * 2, none⟩ _ j hne
  refine ⟨g, cap, w2, hr, hc, ?_, keep_grown hgr h.k.sl, keep_set hsl2 _, ?_⟩
  · obtain ⟨cs, hB, _⟩ := hsl2
    exact hB.frozen _
  refine ⟨hgr.os.trans h.os, hgr.tape.trans h.tape, hgr.output.trans h.output, ?_, ?_, h.lt, ?_, hsl2.set _ _ _ _, hk2.but hbut hsl2.isT (by decide) (by decide), hv2.but hbut hsl2.isT (by decide) (by decide), ?_, ?_, h.numv⟩
  · have := hgr.size; have := h.size; simp; omega
  · intro j hj hne
    exact ((hbut j (Nat.lt_of_lt_of_le hj (Nat.le_trans h.size hgr.size)) hne).trans (hgr.block j (Nat.lt_of_lt_of_le hj h.size) (fun e => by have := (hkb j e.symm).1; omega))).trans (h.blk j hj hne)
  · have h1 := (hown2.stored (p * 2) (.slice (some ⟨g, 0, none⟩) (n + 1) cap)).1
    rw [← hps, (lvals_set ps x (.slice (some ⟨g, 0, none⟩) (n + 1) cap) (x.kr ++ [q])).1, hps] at h1
    exact h1
  · intro j hj e
    cases hj
    rcases hgb with h5 | h5
    · exact h.ne _ h5 e
    · have h6 := (h.v.own.lt _ e).2; simp only at h6; omega
  · intro l hl
    have hlen := h.k.len
    rcases Nat.lt_or_ge l n with h5 | h5
    · show ((x.kr ++ [q]).getD l default).v = _
      rw [(getD_end x.kr q l).1 (by omega)]; exact h.numk l h5
    · obtain rfl : l = n := by omega
      show ((x.kr ++ [q]).getD l default).v = _
      rw [(getD_end x.kr q l).2 hlen.symm]; exact hv
theorem LoopO.putV (h : LoopO w9 wr lb lcap p s f ps n m x) (hps : ps.length = p) (q : Rw) (hq : RowT wr q) (hqn : q.n = s.w) (hv : q.v = (f m).2) (hn : m ≤ 16) :
    ∃ g cap w2, Sem.run Tryz.prog (Builtin.append_ #[54, 54] 54 #[x.vv, .slice (some ⟨wr.heap.size, 0, none⟩) 1 1]) (wr.alloc (.cells #[.slice q.a q.n q.cap] 24)) = .ok (.slice (some ⟨g, 0, none⟩) (m + 1) cap) w2 ∧
      w2.cell? ⟨lb, p * 2 + 1, none⟩ = some x.vv ∧ w2.frozen? ⟨lb, p * 2 + 1, none⟩ = false ∧ Keep8 wr w2 ∧ Keep8 w2 (w2.setCell ⟨lb, p * 2 + 1, none⟩ (.slice (some ⟨g, 0, none⟩) (m + 1) cap)) ∧
      LoopO w9 (w2.setCell ⟨lb, p * 2 + 1, none⟩ (.slice (some ⟨g, 0, none⟩) (m + 1) cap)) lb lcap p s f ps n (m + 1) ⟨x.kv, x.kr, .slice (some ⟨g, 0, none⟩) (m + 1) cap, x.vr ++ [q]⟩ := by
  obtain ⟨g, cap, w2, hr, hk2, hgr, hgb, _⟩ := head_next wr w9.heap.size x.vv m s.w x.vr q h.v hq hqn (by omega) h.size
  have hkb : ∀ j, x.vv.ownBlock = some j → w9.heap.size ≤ j ∧ j < wr.heap.size := fun j hj => h.v.own.lt j hj
  have hlb : w2.heap[lb]? = wr.heap[lb]? := hgr.block lb h.sl.isT.lt (fun e => by have := (hkb lb e.symm).1; have := h.lt; omega)
  have hsl2 : AllSl w2 56 lb := h.sl.blk hlb
  have hown2 : w2.ownsRow 0 56 2 (.slice (some ⟨lb, 0, none⟩) (p + 1) lcap) (p + 1) (lvals (ps ++ [x])) := own_blk h.own (fun j hj => by cases hj; exact hlb)
  have hlx := (getD_end ps x p).2 hps.symm
  have hc : w2.cell? ⟨lb, p * 2 + 1, none⟩ = some x.vv := by
    have h1 := (h.cells hps (Nat.le_refl p)).2
    rw [hlx] at h1
    rw [World.cell?_of_block (w := wr) (a := ⟨lb, p * 2 + 1, none⟩) hlb]
    exact h1
  have hv2 : HdT w2 w9.heap.size x.kv n s.w x.kr := h.k.grown hgr (fun j hj => ⟨own_isT h.v.own hj, fun e => h.ne j e hj⟩)
  have hbut : But lb w2 (w2.setCell ⟨lb, p * 2 + 1, none⟩ (.slice (some ⟨g, 0, none⟩) (m + 1) cap)) := fun j hj hne => Below.heap_setCell w2 ⟨lb, p * 2 + 1, none⟩ _ j hne
  refine ⟨g, cap, w2, hr, hc, ?_, keep_grown hgr h.v.sl, keep_set hsl2 _, ?_⟩
  · obtain ⟨cs, hB, _⟩ := hsl2
    exact hB.frozen _
  refine ⟨hgr.os.trans h.os, hgr.tape.trans h.tape, hgr.output.trans h.output, ?_, ?_, h.lt, ?_, hsl2.set _ _ _ _, hv2.but hbut hsl2.isT (by decide) (by decide), hk2.but hbut hsl2.isT (by decide) (by decide), ?_, h.numk, ?_⟩
  · have := hgr.size; have := h.size; simp; omega
  · intro j hj hne
    exact ((hbut j (Nat.lt_of_lt_of_le hj (Nat.le_trans h.size hgr.size)) hne).trans (hgr.block j (Nat.lt_of_lt_of_le hj h.size) (fun e => by have := (hkb j e.symm).1; omega))).trans (h.blk j hj hne)
  · have h1 := (hown2.stored (p * 2 + 1) (.slice (some ⟨g, 0, none⟩) (m + 1) cap)).1
    rw [← hps, (lvals_set ps x (.slice (some ⟨g, 0, none⟩) (m + 1) cap) (x.vr ++ [q])).2, hps] at h1
    exact h1
  · intro j hj e
    cases e
    rcases hgb with h5 | h5
    · exact h.ne _ hj h5
    · have h6 := (h.k.own.lt _ hj).2; simp only at h6; omega
  · intro l hl
    have hlen := h.v.len
    rcases Nat.lt_or_ge l m with h5 | h5
    · show ((x.vr ++ [q]).getD l default).v = _
      rw [(getD_end x.vr q l).1 (by omega)]; exact h.numv l h5
    · obtain rfl : l = m := by omega
      show ((x.vr ++ [q]).getD l default).v = _
      rw [(getD_end x.vr q l).2 hlen.symm]; exact hv
theorem LoopO.hds (h : LoopO w9 wr lb lcap p s f ps n m x) (h9 : AllSl w9 56 lb) (hpl : ∀ x ∈ ps, HdT w9 0 x.kv s.l s.w x.kr ∧ HdT w9 0 x.vv s.l s.w x.vr) : ∀ x ∈ ps, HdT wr 0 x.kv s.l s.w x.kr ∧ HdT wr 0 x.vv s.l s.w x.vr :=
  fun y hy => ⟨(hpl y hy).1.but h.blk h9.isT (by decide) (by decide), (hpl y hy).2.but h.blk h9.isT (by decide) (by decide)⟩
/-- how a layer looks behind its keys and values -/
theorem LoopO.view (h : LoopO w9 wr lb lcap p s f ps (n + 1) (n + 1) x) (hps : ps.length = p) (h9 : AllSl w9 56 lb) (hpl : ∀ x ∈ ps, HdT w9 0 x.kv s.l s.w x.kr ∧ HdT w9 0 x.vv s.l s.w x.vr) {K : KF8}
    (hnum : ∀ q, q < p → ∀ l, l < s.l → ((ps.getD q default).kr.getD l default).v = (K l q).1 ∧ ((ps.getD q default).vr.getD l default).v = (K l q).2) (hn : n < s.l) : View8 wr lb n (p + 1) s.w (fun i => if i = p then f n else K n i) := by
  refine ⟨fun i hi => ?_⟩
  obtain ⟨c1, c2⟩ := h.cells hps (i := i) (by omega)
  rcases Nat.lt_or_ge i p with h5 | h5
  · rw [(getD_end ps x i).1 (by omega)] at c1 c2
    have hm : ps.getD i default ∈ ps := by
      rw [List.getD_eq_getElem?_getD, List.getElem?_eq_getElem (by omega)]
      exact List.getElem_mem _
    obtain ⟨hk, hv⟩ := h.hds h9 hpl _ hm
    obtain ⟨kb, kc, g, e1, k1, k2, k3, k4⟩ := hk.at_ hn
    obtain ⟨vb, vc, u, e2, u1, u2, u3, u4⟩ := hv.at_ hn
    rw [e1] at c1
    rw [e2] at c2
    have hnu := hnum i h5 n hn
    rw [k4, u4] at hnu
    refine ⟨kb, s.l, kc, vb, s.l, vc, g, u, c1, c2, hn, hn, k1, u1, k2, u2, k3, u3, ?_, ?_⟩
    · rw [if_neg (by omega)]; exact hnu.1
    · rw [if_neg (by omega)]; exact hnu.2
  · obtain rfl : i = p := by omega
    rw [(getD_end ps x i).2 hps.symm] at c1 c2
    obtain ⟨kb, kc, g, e1, k1, k2, k3, k4⟩ := h.k.at_ (Nat.lt_succ_self n)
    obtain ⟨vb, vc, u, e2, u1, u2, u3, u4⟩ := h.v.at_ (Nat.lt_succ_self n)
    rw [e1] at c1
    rw [e2] at c2
    have n1 := h.numk n (Nat.lt_succ_self n)
    have n2 := h.numv n (Nat.lt_succ_self n)
    rw [k4] at n1
    rw [u4] at n2
    refine ⟨kb, n + 1, kc, vb, n + 1, vc, g, u, c1, c2, Nat.lt_succ_self n, Nat.lt_succ_self n, k1, u1, k2, u2, k3, u3, ?_, ?_⟩
    · rw [if_pos rfl]; exact n1
    · rw [if_pos rfl]; exact n2
/-- behind all layers -/
theorem LoopO.fin (h : LoopO w9 wr lb lcap p s f ps s.l s.l x) (hps : ps.length = p) (h9 : AllSl w9 56 lb) (hpl : ∀ x ∈ ps, HdT w9 0 x.kv s.l s.w x.kr ∧ HdT w9 0 x.vv s.l s.w x.vr) {K K' : KF8}
    (hnum : ∀ q, q < p → ∀ l, l < s.l → ((ps.getD q default).kr.getD l default).v = (K l q).1 ∧ ((ps.getD q default).vr.getD l default).v = (K l q).2) (hK : ∀ l q, l < s.l → K' l q = if q = p then f l else K l q) :
    LAt wr (.slice (some ⟨lb, 0, none⟩) (p + 1) lcap) s (p + 1) K' (ps ++ [x]) := by
  refine ⟨h.own, fun g hg => by cases hg; exact h.sl, ?_, ?_⟩
  · intro y hy
    rcases List.mem_append.1 hy with h5 | h5
    · exact h.hds h9 hpl y h5
    · obtain rfl := List.mem_singleton.1 h5
      exact ⟨h.k.base0, h.v.base0⟩
  · intro q hq l hl
    rw [hK l q hl]
    rcases Nat.lt_or_ge q p with h5 | h5
    · rw [(getD_end ps x q).1 (by omega), if_neg (by omega)]
      exact hnum q h5 l hl
    · obtain rfl : q = p := by omega
      rw [(getD_end ps x q).2 hps.symm, if_pos rfl]
      exact ⟨h.numk l hl, h.numv l hl⟩
end

theorem RowT.keep {w w' : World} {q : Rw} (h : RowT w q) (k : Keep8 w w') : RowT w' q := ⟨k.st.rw_ h.1, fun x hx => (h.2 x hx).blk (k.bx _ _ (h.2 x hx) (by decide) (by decide))⟩
/-- a row more, wherever it lies, behind a row of rows of the call's own -/
theorem rows_next {w : World} {base n : Nat} {v : Value} {rows : List Rw} (h : w.ownsRow base 24 1 v n (rows.map rwv)) (q : Rw) (hn : n ≤ 1000) (hbase : base ≤ w.heap.size) :
    ∃ g cap w', Sem.run Tryz.prog (Builtin.append_ #[54, 54] 54 #[v, .slice (some ⟨w.heap.size, 0, none⟩) 1 1]) (w.alloc (.cells #[.slice q.a q.n q.cap] 24)) = .ok (.slice (some ⟨g, 0, none⟩) (n + 1) cap) w' ∧
      w'.ownsRow base 24 1 (.slice (some ⟨g, 0, none⟩) (n + 1) cap) (n + 1) ((rows ++ [q]).map rwv) ∧ w.grownBy w' v.ownBlock := by
  obtain ⟨i0, hi, hz0, hz1, hz2⟩ := infoRow8
  have hnews := World.news_of_block (cs := #[rwv q]) (t := 24) (fr := (0, 0)) (heap_alloc_new w (.cells #[rwv q] 24))
  obtain ⟨v', w', hr, h2, h3, _, h4⟩ := run_append_own_at (P := Tryz.prog) (w.alloc (.cells #[rwv q] 24)) base 54 54 24 i0 _ 1 24 Tryz.underlying54 hi hz0 hz1 hz2 rfl (by omega) v n _ (h.alloc _)
    ⟨w.heap.size, 0, none⟩ 1 1 [rwv q] rfl hnews (by intro u hu; simp only [List.mem_singleton] at hu; subst hu; rfl) (by unfold maxLen; omega) (by omega) (by simp; omega)
  rw [show rows.map rwv ++ [rwv q] = (rows ++ [q]).map rwv by simp] at h2
  rcases h2.2 with ⟨_, e⟩ | ⟨g, cap, cur, rfl, _, _, hnc, hcm, _⟩
  · omega
  · exact ⟨g, cap, w', hr, h2, (World.grownBy_alloc w (.cells #[rwv q] 24) v.ownBlock).trans h3⟩
theorem own_rws {w : World} {base n : Nat} {v : Value} {rows : List Rw} (h : w.ownsRow base 24 1 v n (rows.map rwv)) (hr : ∀ q ∈ rows, q.In .i8 w) (hn : n ≤ 1000) : ∃ a cap, v = .slice a n cap ∧ Rws .i8 w a n rows := by
  have hlen : rows.length = n := by have := h.1; simpa using this
  rcases h.2 with ⟨h1, h2⟩ | ⟨g, cap, cur, rfl, _, hg, _⟩
  · subst h2
    exact ⟨none, 0, h1, hlen, by omega, hr, fun h0 => absurd h0 (by omega)⟩
  · refine ⟨_, cap, rfl, hlen, by omega, hr, fun h0 => ⟨g, 0, rfl, fun i hi => ?_⟩⟩
    have h1 := h.cells (g := g) rfl i (rwv (rows.getD i default)) (by
      rw [List.getElem?_map, List.getD_eq_getElem?_getD, List.getElem?_eq_getElem (by omega)]; rfl)
    rwa [Addr.add_lit] at h1
theorem sameW_all {qs : List Rw} {m : Nat} (h : ∀ i, i < qs.length → (qs.getD i default).n = m) (h0 : 0 < qs.length) : sameW qs = true ∧ (qs.getD 0 default).n = m := by
  have e := h 0 h0
  refine ⟨?_, e⟩
  unfold sameW
  rw [List.all_eq_true]
  intro x hx
  obtain ⟨i, hi, rfl⟩ := List.mem_iff_getElem.1 hx
  have h1 := h i hi
  rw [List.getD_eq_getElem?_getD, List.getElem?_eq_getElem hi] at h1
  simp only [Option.getD_some] at h1
  rw [e, h1]
  simp
theorem map_v_eq {qs : List Rw} {PS : List KV8} {g : KV8 → List Int} (hl : qs.length = PS.length) (h : ∀ i, i < qs.length → (qs.getD i default).v = g (PS.getD i default)) : qs.map (·.v) = PS.map g := by
  apply List.ext_getElem (by simpa using hl)
  intro i h1 h2
  have h3 : i < qs.length := by simpa using h1
  have h4 := h i h3
  rw [List.getD_eq_getElem?_getD, List.getElem?_eq_getElem h3, List.getD_eq_getElem?_getD, List.getElem?_eq_getElem (by omega)] at h4
  simpa using h4
/-- the three appends, in letters -/
theorem rows_next' {w : World} {base n : Nat} {v : Value} {rows : List Rw} (h : w.ownsRow base 24 1 v n (rows.map rwv)) (qa : Option Addr) (qn qc : Nat) (qv : List Int) (hn : n ≤ 1000) (hbase : base ≤ w.heap.size) :
    ∃ g cap w', Sem.run Tryz.prog (Builtin.append_ #[54, 54] 54 #[v, .slice (some ⟨w.heap.size, 0, none⟩) 1 1]) (w.alloc (.cells #[.slice qa qn qc] 24)) = .ok (.slice (some ⟨g, 0, none⟩) (n + 1) cap) w' ∧
      (∀ nq, nq = (⟨qa, qn, qc, qv⟩ : Rw) → w'.ownsRow base 24 1 (.slice (some ⟨g, 0, none⟩) (n + 1) cap) (n + 1) ((rows ++ [nq]).map rwv)) ∧ w.grownBy w' v.ownBlock := by
  obtain ⟨g, cap, w', h1, h2, h3⟩ := rows_next h ⟨qa, qn, qc, qv⟩ hn hbase
  exact ⟨g, cap, w', h1, by rintro nq rfl; exact h2, h3⟩
section
variable {w9 wr w' : World} {lb lcap p n m : Nat} {s : Sz} {f : Nat → KV8} {ps : List Pl8} {x : Pl8}
theorem LoopO.putK' (h : LoopO w9 wr lb lcap p s f ps n m x) (hps : ps.length = p) (qa : Option Addr) (qc : Nat) (qv : List Int) (hq : RowT wr ⟨qa, s.w, qc, qv⟩) (hv : qv = (f n).1) (hn : n ≤ 16) :
    ∃ g cap w2 pl', Sem.run Tryz.prog (Builtin.append_ #[54, 54] 54 #[x.kv, .slice (some ⟨wr.heap.size, 0, none⟩) 1 1]) (wr.alloc (.cells #[.slice qa s.w qc] 24)) = .ok (.slice (some ⟨g, 0, none⟩) (n + 1) cap) w2 ∧
      w2.cell? ⟨lb, p * 2, none⟩ = some x.kv ∧ w2.frozen? ⟨lb, p * 2, none⟩ = false ∧ Hid (Keep8 wr w2) ∧ Hid (Keep8 w2 (w2.setCell ⟨lb, p * 2, none⟩ (.slice (some ⟨g, 0, none⟩) (n + 1) cap))) ∧
      Hid (LoopO w9 (w2.setCell ⟨lb, p * 2, none⟩ (.slice (some ⟨g, 0, none⟩) (n + 1) cap)) lb lcap p s f ps (n + 1) m pl') := by
  obtain ⟨g, cap, w2, h1, h2, h3, h4, h5, h6⟩ := h.putK hps ⟨qa, s.w, qc, qv⟩ hq rfl hv hn
  exact ⟨g, cap, w2, _, h1, h2, h3, Lib.hid h4, Lib.hid h5, Lib.hid h6⟩
theorem LoopO.putV' (h : LoopO w9 wr lb lcap p s f ps n m x) (hps : ps.length = p) (qa : Option Addr) (qc : Nat) (qv : List Int) (hq : RowT wr ⟨qa, s.w, qc, qv⟩) (hv : qv = (f m).2) (hn : m ≤ 16) :
    ∃ g cap w2 pl', Sem.run Tryz.prog (Builtin.append_ #[54, 54] 54 #[x.vv, .slice (some ⟨wr.heap.size, 0, none⟩) 1 1]) (wr.alloc (.cells #[.slice qa s.w qc] 24)) = .ok (.slice (some ⟨g, 0, none⟩) (m + 1) cap) w2 ∧
      w2.cell? ⟨lb, p * 2 + 1, none⟩ = some x.vv ∧ w2.frozen? ⟨lb, p * 2 + 1, none⟩ = false ∧ Hid (Keep8 wr w2) ∧ Hid (Keep8 w2 (w2.setCell ⟨lb, p * 2 + 1, none⟩ (.slice (some ⟨g, 0, none⟩) (m + 1) cap))) ∧
      Hid (LoopO w9 (w2.setCell ⟨lb, p * 2 + 1, none⟩ (.slice (some ⟨g, 0, none⟩) (m + 1) cap)) lb lcap p s f ps n (m + 1) pl') := by
  obtain ⟨g, cap, w2, h1, h2, h3, h4, h5, h6⟩ := h.putV hps ⟨qa, s.w, qc, qv⟩ hq rfl hv hn
  exact ⟨g, cap, w2, _, h1, h2, h3, Lib.hid h4, Lib.hid h5, Lib.hid h6⟩
end
/-- the numbers below 0 made 0, up to k -/
def gateTo (U : List Int) (k : Nat) : List Int := (U.take k).map gate1 ++ U.drop k
theorem gateTo_zero (U : List Int) : gateTo U 0 = U := rfl
theorem gateTo_end (U : List Int) (n : Nat) (h : U.length = n) : gateTo U n = U.map gate1 := by unfold gateTo; rw [List.take_of_length_le (by omega), List.drop_of_length_le (by omega), List.append_nil]
theorem gateTo_at (U : List Int) (k : Nat) (hk : k < U.length) : (gateTo U k)[k]? = some (U.getD k 0) := by
  unfold gateTo
  rw [List.getElem?_append_right (by simp; omega)]
  have e : k - ((U.take k).map gate1).length = 0 := by simp; omega
  rw [e, List.drop_eq_getElem_cons hk, List.getD_eq_getElem?_getD, List.getElem?_eq_getElem hk]
  rfl
theorem gateTo_next (U : List Int) (k : Nat) (hk : k < U.length) : gateTo U (k + 1) = (gateTo U k).set k (gate1 (U.getD k 0)) := by
  unfold gateTo
  rw [List.set_append_right _ _ (by simp; omega)]
  have e : k - ((U.take k).map gate1).length = 0 := by simp; omega
  rw [e, List.drop_eq_getElem_cons hk, List.set_cons_zero, List.take_add_one, List.getElem?_eq_getElem hk, List.getD_eq_getElem?_getD, List.getElem?_eq_getElem hk, List.map_append]
  simp only [Option.toList_some, List.map_cons, List.map_nil, Option.getD_some, List.append_assoc, List.cons_append, List.nil_append]
theorem gateTo_pos (U : List Int) (k : Nat) (hk : k < U.length) (h : 0 ≤ U.getD k 0) : gateTo U (k + 1) = gateTo U k := by
  rw [gateTo_next U k hk]
  have e : gate1 (U.getD k 0) = U.getD k 0 := by unfold gate1; rw [if_pos h]
  rw [e]
  have h2 := gateTo_at U k hk
  apply List.ext_getElem? 
  intro i
  rw [List.getElem?_set]
  split
  · rename_i hi
    subst hi
    split
    · exact h2.symm
    · rename_i h9
      rw [List.getElem?_eq_none (by omega)]
  · rfl
theorem own_frozen {w : World} {base : Nat} {T : TypeId} {sz n g cap : Nat} {xs : List Value} (h : w.ownsRow base T sz (.slice (some ⟨g, 0, none⟩) n cap) n xs) (j : Nat) : w.frozen? ⟨g, j, none⟩ = false := by
  rcases h.2 with ⟨h', _⟩ | ⟨g', cap', cur, h', hb, hg, _⟩
  · simp at h'
  · simp only [Value.slice.injEq, Option.some.injEq, Addr.mk.injEq, and_true, true_and] at h'
    obtain ⟨rfl, rfl⟩ := h'
    exact frozen_of_row w g j cur T hg
/-- keys and values of a layer, place by place -/
theorem ps_getD (p : Nat) (g : Nat → KV8) (x : KV8) (i : Nat) (hi : i ≤ p) : ((List.range p).map g ++ [x]).getD i default = if i = p then x else g i := by
  rcases Nat.lt_or_ge i p with h | h
  · rw [if_neg (by omega), List.getD_eq_getElem?_getD, List.getElem?_append_left (by simpa using h)]
    simp [h]
  · obtain rfl : i = p := by omega
    rw [if_pos rfl, List.getD_eq_getElem?_getD, List.getElem?_append_right (by simp)]
    simp

end Go.Proofs.YtoeihigdndkjeaaGreatDoor
