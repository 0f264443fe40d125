import Derived.Test.YtoeihigdndkjeaaGreatDoorJ19
import Derived.Test.YtoeihigdndkjeaaGreatDoorJ11
import Derived.Deep.CutRange
/-
  New of whole weights.
-/
namespace Go.Proofs.YtoeihigdndkjeaaGreatDoor
open Go.RowKit Go.Shelf
set_option linter.unusedVariables false
attribute [local go_sem] Oper.semAt_some

/-- a copy of a matrix, of a row, in blocks from B on -/
def CpG (g : Gr) (w : World) (h : Gr) (B : Nat) : Prop := h.In8 w ∧ h.v = g.v ∧ h.n = g.n ∧ h.r = g.r ∧ h.c = g.c ∧ ∀ x, h.a = some x → B ≤ x.block
def CpR (q : Rw) (w : World) (h : Rw) (B : Nat) : Prop := h.In .i8 w ∧ h.v = q.v ∧ h.n = q.n ∧ ∀ x, h.a = some x → B ≤ x.block
theorem CpG.bel {g h : Gr} {w w' : World} {B : Nat} (k : CpG g w h B) (hb : Below w.heap.size w w') : CpG g w' h B := ⟨k.1.bel hb, k.2⟩
theorem CpR.bel {g h : Rw} {w w' : World} {B : Nat} (k : CpR g w h B) (hb : Below w.heap.size w w') : CpR g w' h B := ⟨k.1.below hb, k.2⟩
/-- the cells of new weights -/
def wcells (W : Wt7) (e : Gr) (t : Rw) (h : Gr) (b : Nat) : Array Value := #[.int .i64 W.l, .int .i64 W.w, .int .i64 W.h, .int .i64 W.i, .int .i64 W.v, .int .i64 W.p, .int .i64 e.r, .int .i64 e.c, .slice e.a e.n e.cap, .slice (some ⟨b, 0, none⟩) W.bn W.bn, .slice t.a t.n t.cap, .int .i64 h.r, .int .i64 h.c, .slice h.a h.n h.cap]
theorem wcells_one (W : Wt7) (e : Gr) (t : Rw) (h : Gr) (b : Nat) : (wcells W e t h b).all (·.oneCell') = true := by simp [wcells, Value.oneCell']
/-- none of the cells is a number of 8 bits -/
def No8 (cs : Array Value) : Prop := ∀ (o : Nat) (y : Int), cs[o]? ≠ some (.int .i8 y)
theorem no8_of {cs : Array Value} (h : (cs.toList.all fun v => match v with | .int .i8 _ => false | _ => true) = true) : No8 cs := by
  intro o y e
  rw [List.all_eq_true] at h
  have hm : Value.int .i8 y ∈ cs.toList := by
    rw [← Array.getElem?_toList] at e
    exact List.mem_of_getElem? e
  have := h _ hm
  simp at this
theorem elems_row {w : World} {A : Nat} {T : TypeId} {cs cs' : Array Value} (hB : Box w A T cs) (hc : No8 cs) {w' : World} (hk : ∀ k, k < w.heap.size → k ≠ A → w'.heap[k]? = w.heap[k]?) {a : Option Addr} {n : Nat} {xs : List Int} (h : Elems .i8 w a n xs) : Elems .i8 w' a n xs :=
  ⟨h.1, h.2.1, h.2.2.1, fun hn => let ⟨b, off, ha, hq⟩ := h.2.2.2 hn; ⟨b, off, ha, fun i hi => by
    have h0 := hq i hi
    have hne : b ≠ A := by
      rintro rfl
      rw [hB.cell] at h0
      exact hc _ _ h0
    rw [World.cell?_of_block (w := w) (a := ⟨b, off + i, none⟩) (hk b (World.block_lt_of_cell? _ _ h0) hne)]
    exact h0⟩⟩
/-- what stands behind New's first stretch -/
def NewRel (W : Wt7) (B : Nat) (wa : World) (v : Value) (wx : World) : Prop := ∃ (ge gh : Gr) (gt : Rw) (gA gM : Nat), v = .pointer (some ⟨gA, 0, none⟩) ∧ B ≤ gA ∧ B ≤ gM ∧ gA ≠ gM ∧
  Hid (Box wx gA 50 (wcells W ge gt gh gM)) ∧ Hid (Box wx gM 66 (madeCells zblk (W.bn * 20))) ∧ Hid (CpG W.e wx ge B) ∧ Hid (CpR W.t wx gt B) ∧ Hid (CpG W.hd wx gh B) ∧ Hid (Below wa.heap.size wa wx)
theorem newRel_of {W : Wt7} {wa v : World} {gA gM : Nat} {ge gh : Gr} {gt : Rw} (XA : Box v gA 50 zwts) (XM : Box v gM 66 (madeCells zblk (W.bn * 20))) (D : Below wa.heap.size wa v) (hA : wa.heap.size ≤ gA) (hM : wa.heap.size ≤ gM)
    (hE : CpG W.e v ge wa.heap.size) (hT : CpR W.t v gt wa.heap.size) (hH : CpG W.hd v gh wa.heap.size) : NewRel W wa.heap.size wa (.pointer (some ⟨gA, 0, none⟩)) (v.setRow gA (wcells W ge gt gh gM)) := by
  have hne : gA ≠ gM := box_ne8 XA XM (by decide)
  have hk : ∀ k, k < v.heap.size → k ≠ gA → (v.setRow gA (wcells W ge gt gh gM)).heap[k]? = v.heap[k]? := fun k hk hne => (grownBy_setRow v gA _).block k hk (by simpa using hne)
  have h8 : No8 zwts := no8_of (by decide)
  exact ⟨ge, gh, gt, gA, gM, rfl, hA, hM, hne, Lib.hid XA.setRow, Lib.hid (XM.setRow_other (Ne.symm hne)), Lib.hid ⟨⟨elems_row (cs' := zwts) XA h8 hk hE.1.1, hE.1.2⟩, hE.2⟩, Lib.hid ⟨⟨elems_row (cs' := zwts) XA h8 hk hT.1.1, hT.1.2⟩, hT.2⟩, Lib.hid ⟨⟨elems_row (cs' := zwts) XA h8 hk hH.1.1, hH.1.2⟩, hH.2⟩, Lib.hid (below_setRow D hA D.size)⟩
abbrev WtCells (w : World) (g : Nat) (W : Wt7) : Prop := w.cell? ⟨g, 0, none⟩ = some (.int .i64 W.l) ∧ w.cell? ⟨g, 1, none⟩ = some (.int .i64 W.w) ∧ w.cell? ⟨g, 2, none⟩ = some (.int .i64 W.h) ∧ w.cell? ⟨g, 3, none⟩ = some (.int .i64 W.i) ∧ w.cell? ⟨g, 4, none⟩ = some (.int .i64 W.v) ∧ w.cell? ⟨g, 5, none⟩ = some (.int .i64 W.p) ∧ w.cell? ⟨g, 6, none⟩ = some (.int .i64 W.e.r) ∧ w.cell? ⟨g, 7, none⟩ = some (.int .i64 W.e.c) ∧ w.cell? ⟨g, 8, none⟩ = some (.slice W.e.a W.e.n W.e.cap) ∧ w.cell? ⟨g, 9, none⟩ = some (.slice W.ba W.bn W.bcap) ∧ w.cell? ⟨g, 10, none⟩ = some (.slice W.t.a W.t.n W.t.cap) ∧ w.cell? ⟨g, 11, none⟩ = some (.int .i64 W.hd.r) ∧ w.cell? ⟨g, 12, none⟩ = some (.int .i64 W.hd.c) ∧ w.cell? ⟨g, 13, none⟩ = some (.slice W.hd.a W.hd.n W.hd.cap)

theorem no8_bk (b : Bk7) : No8 b.cells := no8_of (by simp [Bk7.cells])
theorem small_of {s : Sz} (ok : s.Ok) {b : Bk7} (h : bkB s b = true) : b.Small := by
  have bd := ok.bd
  obtain ⟨h1, h2, ⟨_, _, h3⟩, ⟨_, _, h4⟩, ⟨_, _, h5⟩, ⟨_, _, h6⟩, ⟨_, _, h7⟩, ⟨_, _, h8⟩⟩ := bkB_yes h
  have w1 : s.w * s.w ≤ 65536 := Nat.le_trans (Nat.mul_le_mul bd.2.2.1.2 bd.2.2.1.2) (by decide)
  have w2 : s.i * s.w ≤ 65536 := Nat.le_trans (Nat.mul_le_mul bd.2.2.2.1.2 bd.2.2.1.2) (by decide)
  have w3 : s.w * s.i ≤ 65536 := Nat.le_trans (Nat.mul_le_mul bd.2.2.1.2 bd.2.2.2.1.2) (by decide)
  have w4 := bd.2.2.1.2
  exact ⟨by omega, by omega, by omega, by omega, by omega, by omega, by omega, by omega⟩
/-- a world in which all blocks but one stand ds they stood -/
def But (A : Nat) (w w' : World) : Prop := ∀ k, k < w.heap.size → k ≠ A → w'.heap[k]? = w.heap[k]?
theorem rw_but {w w' : World} {A : Nat} {T : TypeId} {cs : Array Value} (hB : Box w A T cs) (hc : No8 cs) (hk : But A w w') {q : Rw} (h : q.In .i8 w) : q.In .i8 w' := ⟨elems_row (cs' := cs) hB hc hk h.1, h.2⟩
theorem gr_but {w w' : World} {A : Nat} {T : TypeId} {cs : Array Value} (hB : Box w A T cs) (hc : No8 cs) (hk : But A w w') {g : Gr} (h : g.In8 w) : g.In8 w' := ⟨elems_row (cs' := cs) hB hc hk h.1, h.2⟩
theorem bk_but {w w' : World} {A : Nat} {T : TypeId} {cs : Array Value} (hB : Box w A T cs) (hc : No8 cs) (hk : But A w w') {b : Bk7} (h : b.In w) : b.In w' := by
  obtain ⟨h1, h2, h3, h4, h5, h6, h7, h8⟩ := h
  exact ⟨rw_but hB hc hk h1, rw_but hB hc hk h2, gr_but hB hc hk h3, gr_but hB hc hk h4, gr_but hB hc hk h5, gr_but hB hc hk h6, gr_but hB hc hk h7, gr_but hB hc hk h8⟩
/-- the first k blocks are copied -/
structure Cop (W : Wt7) (wr : World) (gM k : Nat) (cs : Array Value) (ds : List Bk7) : Prop where
  box : Box wr gM 66 cs
  size : cs.size = W.bn * 20
  no8 : No8 cs
  len : ds.length = k
  cells : ∀ i, i < k → ∀ j, j < 20 → cs[i * 20 + j]? = (ds.getD i default).cells[j]?
  inn : ∀ b ∈ ds, b.In wr
  same : ∀ i, i < k → (ds.getD i default).Same (W.bs.getD i default)
theorem Cop.bel {W : Wt7} {wr wb : World} {gM k : Nat} {cs : Array Value} {ds : List Bk7} (h : Cop W wr gM k cs ds) (hb : Below wr.heap.size wr wb) : Cop W wb gM k cs ds :=
  ⟨h.box.bel hb, h.size, h.no8, h.len, h.cells, fun b hbm => (h.inn b hbm).bel hb, h.same⟩
theorem cop_start {W : Wt7} {w : World} {gM : Nat} (h : Box w gM 66 (madeCells zblk (W.bn * 20))) : Cop W w gM 0 (madeCells zblk (W.bn * 20)) [] := by
  refine ⟨h, by simp [madeCells, zblk], ?_, rfl, fun i hi => absurd hi (by omega), fun b hb => by simp at hb, fun i hi => absurd hi (by omega)⟩
  intro o y e
  have h8 : No8 zblk := no8_of (by decide)
  unfold madeCells at e
  simp at e
  obtain ⟨q, _, h2⟩ := e
  have hlt : q % zblk.size < zblk.size := Nat.mod_lt _ (by decide)
  rw [getElem!_pos zblk _ hlt] at h2
  exact h8 _ y (by rw [Array.getElem?_eq_getElem hlt, h2])
theorem getD_snoc {ds : List Bk7} {a : Bk7} {k i : Nat} (hl : ds.length = k) (hi : i < k + 1) : (ds ++ [a]).getD i default = if i = k then a else ds.getD i default := by
  rw [List.getD_eq_getElem?_getD]
  by_cases e : i = k
  · rw [if_pos e, e, List.getElem?_append_right (by omega), hl]; simp
  · rw [if_neg e, List.getElem?_append_left (by omega), List.getD_eq_getElem?_getD]
theorem Cop.step {W : Wt7} {wb : World} {gM k : Nat} {cs : Array Value} {ds : List Bk7} {a : Bk7} (h : Cop W wb gM k cs ds) (hk : k < W.bn) (ha : a.In wb) (hs : a.Same (W.bs.getD k default)) : Cop W (wb.setRow gM (mid cs (k * 20) a.cells)) gM (k + 1) (mid cs (k * 20) a.cells) (ds ++ [a]) := by
  have hsz : a.cells.size = 20 := rfl
  have hfit : k * 20 + a.cells.size ≤ cs.size := by rw [h.size, hsz]; omega
  have hbut : But gM wb (wb.setRow gM (mid cs (k * 20) a.cells)) := fun i hi hne => (grownBy_setRow wb gM _).block i hi (by simpa using hne)
  refine ⟨h.box.setRow, by rw [mid_size _ _ _ hfit, h.size], fun o y e => ?_, by simp [h.len], fun i hi j hj => ?_, fun b hb => ?_, fun i hi => ?_⟩
  · by_cases e1 : o < k * 20 ∨ k * 20 + a.cells.size ≤ o
    · rw [mid_far _ _ _ hfit _ e1] at e; exact h.no8 _ _ e
    · obtain ⟨q, rfl⟩ : ∃ q, o = k * 20 + q := ⟨o - k * 20, by omega⟩
      rw [mid_at _ _ _ hfit _ (by omega)] at e; exact no8_bk a _ _ e
  · rw [getD_snoc h.len hi]
    by_cases e1 : i = k
    · rw [if_pos e1, e1, mid_at _ _ _ hfit _ (by rw [hsz]; exact hj)]
    · rw [if_neg e1, mid_far _ _ _ hfit _ (.inl (by omega))]
      exact h.cells i (by omega) j hj
  · rcases List.mem_append.1 hb with hb | hb
    · exact bk_but h.box h.no8 hbut (h.inn b hb)
    · obtain rfl := List.mem_singleton.1 hb
      exact bk_but h.box h.no8 hbut ha
  · rw [getD_snoc h.len hi]
    by_cases e1 : i = k
    · rw [if_pos e1, e1]; exact hs
    · rw [if_neg e1]; exact h.same i (by omega)
/-- the new weights -/
def newW (W : Wt7) (ge gh : Gr) (gt : Rw) (gM : Nat) (ds : List Bk7) : Wt7 := ⟨W.l, W.w, W.h, W.i, W.v, W.p, ge, some ⟨gM, 0, none⟩, W.bn, W.bn, ds, gt, gh⟩
theorem same_map {ds bs : List Bk7} (hl : ds.length = bs.length) (h : ∀ i, i < ds.length → (ds.getD i default).Same (bs.getD i default)) : ds.map Bk7.blk = bs.map Bk7.blk := by
  apply List.ext_getElem (by simp [hl])
  intro i h1 h2
  have hi : i < ds.length := by simpa using h1
  have := (h i hi).blk
  rw [List.getD_eq_getElem?_getD, List.getElem?_eq_getElem hi, List.getD_eq_getElem?_getD, List.getElem?_eq_getElem (by omega)] at this
  simpa using this
theorem newW_wt {s : Sz} {W : Wt7} {ge gh : Gr} {gt : Rw} {gM : Nat} {ds : List Bk7} {B : Nat} {wx : World} (hl : ds.length = W.bs.length) (h : ∀ i, i < ds.length → (ds.getD i default).Same (W.bs.getD i default)) (hw : wtB s W = true)
    (hE : CpG W.e wx ge B) (hT : CpR W.t wx gt B) (hH : CpG W.hd wx gh B) : wtB s (newW W ge gh gt gM ds) = true := by
  obtain ⟨_, e1, e2, e3, e4, _⟩ := hE
  obtain ⟨_, _, t2, _⟩ := hT
  obtain ⟨_, f1, f2, f3, f4, _⟩ := hH
  have hw2 := hw
  unfold wtB matB at hw2 ⊢
  simp only [List.all_cons, List.all_nil, Bool.and_eq_true, Bool.and_true, decide_eq_true_eq, List.all_eq_true] at hw2 ⊢
  obtain ⟨⟨⟨a1, a2, a3⟩, b1, b2, b3⟩, c1, c2, c3⟩ := hw2
  refine ⟨⟨⟨e3.trans a1, e4.trans a2, e2.trans a3⟩, f3.trans b1, f4.trans b2, f2.trans b3⟩, t2.trans c1, c2, fun b hb => ?_⟩
  obtain ⟨i, hi0, rfl⟩ := List.getElem_of_mem hb
  have hi : i < ds.length := hi0
  show bkB s ds[i] = true
  have hs := h i hi
  rw [List.getD_eq_getElem?_getD, List.getElem?_eq_getElem hi, List.getD_eq_getElem?_getD, List.getElem?_eq_getElem (by omega)] at hs
  have := Bk7.Same.bkB hs s
  simp only [Option.getD_some] at this
  rw [this]
  exact c3 _ (List.getElem_mem _)

end Go.Proofs.YtoeihigdndkjeaaGreatDoor
