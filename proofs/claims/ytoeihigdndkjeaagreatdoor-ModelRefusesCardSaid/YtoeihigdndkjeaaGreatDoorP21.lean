import Derived.Test.YtoeihigdndkjeaaGreatDoorP20
import Derived.Test.YtoeihigdndkjeaaGreatDoorJ18
/-
  What the document's Of keeps while it takes numbers into a block; an append of a block.
-/
namespace Go.Proofs.YtoeihigdndkjeaaGreatDoor
open Go.RowKit Go.Shelf
set_option linter.unusedVariables false

theorem no8_taker {la : Option Addr} {ln lcap q : Nat} : No8 #[.slice la ln lcap, .int .i64 q] := no8_of (by simp)
theorem but_grown {w w' : World} {g : Nat} (h : w.grownBy w' (some g)) : But g w w' := fun k hk hne => h.block k hk (by simpa using hne)
theorem Box.but {w w' : World} {g g' : Nat} {T : TypeId} {cs : Array Value} (h : Box w g T cs) (hk : But g' w w') (hne : g ≠ g') : Box w' g T cs := (hk g h.lt hne).trans h
theorem TakerAt.no8 {w : World} {T : Nat} {la : Option Addr} {ln lcap q : Nat} (h : TakerAt w T la ln lcap q) : No8 #[.slice la ln lcap, .int .i64 q] := no8_taker

/-- a round: numbers are taken into the block gB, which is new -/
structure RdS (wr : World) (gT gB : Nat) (la : Option Addr) (ln lcap q : Nat) (cb : Array Value) (rs : List Rw) (gs : List Gr) (w : World) : Prop where
  grow : wr.grownBy w (some gT)
  tk : TakerAt w gT la ln lcap q
  bk : Box w gB 66 cb
  n8 : No8 cb
  new : wr.heap.size ≤ gB
  lt : gT < wr.heap.size
  rows : ∀ r ∈ rs, r.In .i8 w
  mats : ∀ g ∈ gs, g.In8 w
  rnew : ∀ r ∈ rs, ∀ x, r.a = some x → wr.heap.size ≤ x.block
  gnew : ∀ g ∈ gs, ∀ x, g.a = some x → wr.heap.size ≤ x.block
section
variable {wr w w' : World} {gT gB : Nat} {la : Option Addr} {ln lcap q n : Nat} {cb : Array Value} {rs : List Rw} {gs : List Gr}
theorem RdS.took (h : RdS wr gT gB la ln lcap q cb rs gs w) {ys : List Int} {e : Ending} (t : Took w gT la ln lcap q n ys e w') :
    ∃ g : Rw, e = .returned (.slice g.a g.n g.cap) ∧ g.v = ys ∧ g.n = n ∧ RdS wr gT gB la ln lcap (q + n) cb (g :: rs) gs w' := by
  obtain ⟨⟨g, he, hi, hv, hn, hb⟩, ht, hw⟩ := t
  have hk := but_grown hw
  refine ⟨g, he, hv, hn, ⟨h.grow.trans hw, ht, h.bk.but hk (by have := h.new; have := h.lt; omega), h.n8, h.new, h.lt, ?_, fun g hg => gr_but h.tk no8_taker hk (h.mats g hg), ?_, h.gnew⟩⟩
  · intro r hr
    rcases List.mem_cons.1 hr with rfl | hr
    · exact hi
    · exact rw_but h.tk no8_taker hk (h.rows r hr)
  · intro r hr
    rcases List.mem_cons.1 hr with rfl | hr
    · exact fun x hx => Nat.le_trans h.grow.size (hb x hx)
    · exact h.rnew r hr
theorem RdS.tookG (h : RdS wr gT gB la ln lcap q cb rs gs w) {R C : Nat} {ys : List Int} {e : Ending} (t : TookG w gT la ln lcap q R C ys e w') :
    ∃ g : Gr, e = .returned (.agg #[.int .i64 g.r, .int .i64 g.c, .slice g.a g.n g.cap]) ∧ g.v = ys ∧ matB8 R C g ∧ RdS wr gT gB la ln lcap (q + R * C) cb rs (g :: gs) w' := by
  obtain ⟨⟨g, he, hi, hv, hn, hb⟩, ht, hw⟩ := t
  have hk := but_grown hw
  refine ⟨g, he, hv, hn, ⟨h.grow.trans hw, ht, h.bk.but hk (by have := h.new; have := h.lt; omega), h.n8, h.new, h.lt, fun r hr => rw_but h.tk no8_taker hk (h.rows r hr), ?_, h.rnew, ?_⟩⟩
  · intro r hr
    rcases List.mem_cons.1 hr with rfl | hr
    · exact hi
    · exact gr_but h.tk no8_taker hk (h.mats r hr)
  · intro r hr
    rcases List.mem_cons.1 hr with rfl | hr
    · exact fun x hx => Nat.le_trans h.grow.size (hb x hx)
    · exact h.gnew r hr
/-- a cell of the block -/
theorem RdS.put (h : RdS wr gT gB la ln lcap q cb rs gs w) (o : Nat) (v : Value) {cb' : Array Value} (hc : cb.setIfInBounds o v = cb') (h8 : No8 cb') : RdS wr gT gB la ln lcap q cb' rs gs (w.setCell ⟨gB, o, none⟩ v) := by
  subst hc
  have hk : But gB w (w.setCell ⟨gB, o, none⟩ v) := fun k hk hne => Below.heap_setCell w ⟨gB, o, none⟩ v k hne
  have hne : gT ≠ gB := by have := h.new; have := h.lt; omega
  refine ⟨⟨h.grow.os, h.grow.tape, h.grow.output, Nat.le_trans h.grow.size (by simp), fun k hk2 hne2 => (hk k (Nat.lt_of_lt_of_le hk2 h.grow.size) (by have := h.new; omega)).trans (h.grow.block k hk2 hne2)⟩, Box.but h.tk hk hne, h.bk.set o v, h8, h.new, h.lt, fun r hr => rw_but h.bk h.n8 hk (h.rows r hr), fun g hg => gr_but h.bk h.n8 hk (h.mats g hg), h.rnew, h.gnew⟩
end

/-- a block more, behind blocks of the call's own: the append as a run -/
theorem run_append_block (w : World) (base : Nat) (v : Value) (n : Nat) (bs : List Bk7) (b : Bk7) (hown : w.ownsRow base 66 20 v n (bs.flatMap fun b => b.cells.toList)) (hn : n ≤ 1000) (hbase : base ≤ w.heap.size) :
    ∃ v' w', Sem.run Tryz.prog (Builtin.append_ #[48, 48] 48 #[v, .slice (some ⟨w.heap.size, 0, none⟩) 1 1]) (w.alloc (.cells b.cells 66)) = .ok v' w' ∧
      w'.ownsRow base 66 20 v' (n + 1) ((bs ++ [b]).flatMap fun b => b.cells.toList) ∧ w.grownBy w' v.ownBlock ∧ (v'.ownBlock = v.ownBlock ∨ v'.ownBlock = some (w.heap.size + 1)) := by
  obtain ⟨i0, hi, hz0, hz1, hz2⟩ := infoBlk
  have hnews := World.news_of_block (cs := b.cells) (t := 66) (fr := (0, 0)) (heap_alloc_new w (.cells b.cells 66))
  obtain ⟨v', w', hr, h2, h3, _, h4⟩ := run_append_own_at (P := Tryz.prog) (w.alloc (.cells b.cells 66)) base 48 48 66 i0 _ 20 288 Tryz.underlying48 hi hz0 hz1 hz2 rfl (by omega) v n _ (hown.alloc _)
    ⟨w.heap.size, 0, none⟩ 1 1 b.cells.toList rfl hnews (by
      intro u hu
      simp only [Bk7.cells, List.mem_cons, List.not_mem_nil, or_false] at hu
      rcases hu with rfl | rfl | rfl | rfl | rfl | rfl | rfl | rfl | rfl | rfl | rfl | rfl | rfl | rfl | rfl | rfl | rfl | rfl | rfl | rfl <;> rfl) (by unfold maxLen; omega) (by omega) (by simp; omega)
  refine ⟨v', w', hr, ?_, (World.grownBy_alloc w _ _).trans h3, by simpa using h4⟩
  rw [List.flatMap_append]
  simpa using h2

theorem flat_cells_at (bs : List Bk7) : ∀ (i k : Nat), i < bs.length → k < 20 → (bs.flatMap fun b => b.cells.toList)[i * 20 + k]? = (bs.getD i default).cells[k]? := by
  induction bs with
  | nil => intro i k hi; exact absurd hi (by simp)
  | cons b bs ih =>
    intro i k hi hk
    rw [List.flatMap_cons]
    cases i with
    | zero =>
      rw [Nat.zero_mul, Nat.zero_add, List.getElem?_append_left (by simp [Bk7.cells]; omega), Array.getElem?_toList]
      rfl
    | succ i =>
      rw [List.getElem?_append_right (by simp [Bk7.cells]; omega)]
      have e : (i + 1) * 20 + k - b.cells.toList.length = i * 20 + k := by simp [Bk7.cells]; omega
      rw [e, ih i k (by simpa using hi) hk]
      rfl
/-- blocks of the call's own, as weights have them -/
theorem bksAt_of_own {w : World} {base n : Nat} {v : Value} {bs : List Bk7} (h : w.ownsRow base 66 20 v n (bs.flatMap fun b => b.cells.toList)) (hl : bs.length = n) (hn : n ≤ 1000) (hb : ∀ b ∈ bs, b.In w) :
    ∃ a cap, v = .slice a n cap ∧ BksAt w a n bs ∧ n ≤ cap ∧ cap ≤ 9223372036854775807 := by
  rcases h.2 with ⟨hv, h0⟩ | ⟨g, cap, cur, hv, hbg, hg, hnc, hcm, hcs, ht⟩
  · subst h0
    exact ⟨none, 0, hv, ⟨hl, by omega, hb, fun h => absurd h (by omega)⟩, by omega, by omega⟩
  · unfold maxLen at hcm
    refine ⟨_, cap, hv, ⟨hl, by omega, hb, fun hn0 => ⟨g, 0, rfl, (Array.getElem?_eq_some_iff.1 hg).1, fun i hi k hk => ?_⟩⟩, hnc, by omega⟩
    have e := flat_cells_at bs i k (by omega) hk
    rw [← ht, List.getElem?_take, if_pos (by omega), Array.getElem?_toList] at e
    rw [cell_of_row w g _ cur _ (0, 0) hg, Nat.zero_add]
    exact e

/-- a row that doesn't lie in the block of the slice v -/
def ApR (v : Value) (r : Rw) : Prop := ∀ x, r.a = some x → 0 < r.n → some x.block ≠ v.ownBlock
def ApB (v : Value) (b : Bk7) : Prop := ApR v b.x ∧ ApR v b.y ∧ ApR v b.q.row ∧ ApR v b.k.row ∧ ApR v b.v.row ∧ ApR v b.o.row ∧ ApR v b.u.row ∧ ApR v b.d.row
theorem elems_ap {w w' : World} {v : Value} {a : Option Addr} {n : Nat} {xs : List Int} (h : Elems .i8 w a n xs) (hap : ∀ x, a = some x → 0 < n → some x.block ≠ v.ownBlock) (hg : w.grownBy w' v.ownBlock) : Elems .i8 w' a n xs :=
  ⟨h.1, h.2.1, h.2.2.1, fun hn => let ⟨b, off, ha, hq⟩ := h.2.2.2 hn; ⟨b, off, ha, fun i hi => by
    have h0 := hq i hi
    rw [hg.cell_far ⟨b, off + i, none⟩ (World.block_lt_of_cell? _ _ h0) (by have := hap _ ha hn; simpa using this)]
    exact h0⟩⟩
theorem rw_ap {w w' : World} {v : Value} {r : Rw} (h : r.In .i8 w) (hap : ApR v r) (hg : w.grownBy w' v.ownBlock) : r.In .i8 w' := ⟨elems_ap h.1 hap hg, h.2⟩
theorem gr_ap {w w' : World} {v : Value} {g : Gr} (h : g.In8 w) (hap : ApR v g.row) (hg : w.grownBy w' v.ownBlock) : g.In8 w' := ⟨elems_ap h.1 hap hg, h.2⟩
theorem bk_ap {w w' : World} {v : Value} {b : Bk7} (h : b.In w) (hap : ApB v b) (hg : w.grownBy w' v.ownBlock) : b.In w' := by
  obtain ⟨h1, h2, h3, h4, h5, h6, h7, h8⟩ := h
  obtain ⟨a1, a2, a3, a4, a5, a6, a7, a8⟩ := hap
  exact ⟨rw_ap h1 a1 hg, rw_ap h2 a2 hg, gr_ap h3 a3 hg, gr_ap h4 a4 hg, gr_ap h5 a5 hg, gr_ap h6 a6 hg, gr_ap h7 a7 hg, gr_ap h8 a8 hg⟩
/-- behind an append: the slice lies where it lay, or in a new block -/
theorem apR_step {w : World} {v v' : Value} {r : Rw} {B : Nat} (h : r.In .i8 w) (hap : ApR v r) (hv : v'.ownBlock = v.ownBlock ∨ v'.ownBlock = some B) (hB : w.heap.size ≤ B) : ApR v' r := by
  intro x hx hn
  rcases hv with hv | hv
  · rw [hv]; exact hap x hx hn
  · rw [hv]
    obtain ⟨b, off, ha, hq⟩ := h.1.2.2.2 hn
    rw [hx] at ha
    obtain rfl := Option.some.inj ha
    have := World.block_lt_of_cell? _ _ (hq 0 hn)
    simp at this ⊢
    omega
theorem apB_step {w : World} {v v' : Value} {b : Bk7} {B : Nat} (h : b.In w) (hap : ApB v b) (hv : v'.ownBlock = v.ownBlock ∨ v'.ownBlock = some B) (hB : w.heap.size ≤ B) : ApB v' b := by
  obtain ⟨h1, h2, h3, h4, h5, h6, h7, h8⟩ := h
  obtain ⟨a1, a2, a3, a4, a5, a6, a7, a8⟩ := hap
  exact ⟨apR_step h1 a1 hv hB, apR_step h2 a2 hv hB, apR_step h3.row a3 hv hB, apR_step h4.row a4 hv hB, apR_step h5.row a5 hv hB, apR_step h6.row a6 hv hB, apR_step h7.row a7 hv hB, apR_step h8.row a8 hv hB⟩
theorem apR_new {w : World} {v : Value} {r : Rw} (hr : ∀ x, r.a = some x → w.heap.size ≤ x.block) (hv : ∀ k, v.ownBlock = some k → k < w.heap.size) : ApR v r := by
  intro x hx hn e
  have := hv _ e.symm
  have := hr x hx
  omega

/-- how many numbers a block has; how many were taken behind k blocks -/
def blkN (s : Sz) : Nat := 2 * s.w + 4 * (s.w * s.w) + 2 * (s.i * s.w)
theorem cnt_blk (s : Sz) : cnt s = s.v * s.w + s.l * blkN s + s.w + s.v * s.w := by unfold cnt blkN; omega
theorem blk_le (s : Sz) (k : Nat) (hk : k < s.l) : s.v * s.w + k * blkN s + blkN s + s.w + s.v * s.w ≤ cnt s := by
  have := Nat.mul_le_mul_right (blkN s) (show k + 1 ≤ s.l by omega)
  rw [Nat.add_mul, Nat.one_mul] at this
  rw [cnt_blk]
  omega

/-- n numbers of a row from q on; a block's numbers, weights' numbers, as they stand in a row -/
def cutL (xs : List Int) (q n : Nat) : List Int := (xs.drop q).take n
def blkOf (s : Sz) (xs : List Int) (q : Nat) : Blk8 := ⟨cutL xs q s.w, cutL xs (q + s.w) (s.w * s.w), cutL xs (q + s.w + s.w * s.w) (s.w * s.w), cutL xs (q + s.w + s.w * s.w + s.w * s.w) (s.w * s.w), cutL xs (q + s.w + s.w * s.w + s.w * s.w + s.w * s.w) (s.w * s.w), cutL xs (q + s.w + s.w * s.w + s.w * s.w + s.w * s.w + s.w * s.w) s.w, cutL xs (q + s.w + s.w * s.w + s.w * s.w + s.w * s.w + s.w * s.w + s.w) (s.i * s.w), cutL xs (q + s.w + s.w * s.w + s.w * s.w + s.w * s.w + s.w * s.w + s.w + s.i * s.w) (s.w * s.i)⟩
def wnOf (s : Sz) (xs : List Int) : Wn8 := ⟨s, cutL xs 0 (s.v * s.w), (List.range s.l).map fun k => blkOf s xs (s.v * s.w + k * blkN s), cutL xs (s.v * s.w + s.l * blkN s) s.w, cutL xs (s.v * s.w + s.l * blkN s + s.w) (s.v * s.w)⟩
/-- what Of answers: right weights of the shape, of these numbers -/
def OfW (s : Sz) (xs : List Int) (w : World) (e : Ending) : Prop :=
  ∃ W : Wt7, e = .returned (.agg W.cells) ∧ W.In w ∧ (W.l = s.l ∧ W.w = s.w ∧ W.h = s.h ∧ W.i = s.i ∧ W.v = s.v ∧ W.p = s.p) ∧ wtB s W = true ∧ W.nums s = wnOf s xs

/-- the cells of the weights while they are filled -/
abbrev ofCells (l w h i v p : Nat) (e : Gr) (V : Value) : Array Value := #[.int .i64 l, .int .i64 w, .int .i64 h, .int .i64 i, .int .i64 v, .int .i64 p, .int .i64 e.r, .int .i64 e.c, .slice e.a e.n e.cap, V, .slice none 0 0, .int .i64 0, .int .i64 0, .slice none 0 0]
/-- behind k blocks -/
structure LpS (s : Sz) (xs : List Int) (la : Option Addr) (ln lcap : Nat) (n0 : Nat) (W0 : World) (e : Gr) (k : Nat) (V : Value) (bs : List Bk7) (w : World) : Prop where
  sh : Box w n0 45 #[.int .i64 s.l, .int .i64 s.w, .int .i64 s.h, .int .i64 s.i, .int .i64 s.v, .int .i64 s.p]
  rz : Box w (n0 + 1) 50 zwts
  tk : TakerAt w (n0 + 2) la ln lcap (s.v * s.w + k * blkN s)
  ws : Box w (n0 + 3) 50 (ofCells s.l s.w s.h s.i s.v s.p e V)
  e8 : e.In8 w
  eap : ApR V e.row
  own : w.ownsRow (n0 + 4) 66 20 V k (bs.flatMap fun b => b.cells.toList)
  len : bs.length = k
  bin : ∀ b ∈ bs, b.In w ∧ ApB V b ∧ bkB s b = true
  bel : Below n0 W0 w
  ev : e.v = cutL xs 0 (s.v * s.w) ∧ matB8 s.v s.w e
  num : ∀ i, i < k → (bs.getD i default).blk = blkOf s xs (s.v * s.w + i * blkN s)
theorem no8_of9 {l w h i v p : Nat} {e : Gr} {a : Option Addr} {n cap : Nat} : No8 (ofCells l w h i v p e (.slice a n cap)) := no8_of (by simp)

end Go.Proofs.YtoeihigdndkjeaaGreatDoor
