/-
  A block of numbers that the call itself made, known whole; what a stretch leaves of it; copy into it; what a function that fills rows is asked.
-/
import Derived.Test.YtkinbngikmcpeaaGrids
import Derived.Laws.CopyOwn
import Derived.Maps.AppendAt
import Derived.Maps.RangeWalk
import Derived.Laws.OwnMore
import Derived.Laws.Tables
import Derived.Laws.AppendOwn
import Derived.Deep.AppendLies
namespace Go.Proofs.Ytkinbngikmcpeaa
open Go.RowKit
set_option linter.unusedVariables false

/-- block g holds the numbers cs, and none of its cells is frozen -/
def Mine (w : World) (g : Nat) (e : TypeId) (cs : List Int) : Prop := w.heap[g]? = some (.cells (cs.map (Value.int .i32)).toArray e (0, 0))

section
variable {w w' : World} {g : Nat} {e : TypeId} {cs : List Int}
theorem Mine.lt (h : Mine w g e cs) : g < w.heap.size := (Array.getElem?_eq_some_iff.1 h).1
theorem Mine.cell (h : Mine w g e cs) {k : Nat} (hk : k < cs.length) : w.cell? ⟨g, k, none⟩ = some (.int .i32 (cs.getD k 0)) := by
  rw [cell_of_row w g k _ e (0, 0) h]
  simp [List.getD, hk]
theorem Mine.frozen (h : Mine w g e cs) (k : Nat) : w.frozen? ⟨g, k, none⟩ = false := frozen_of_row w g k _ e h
theorem Mine.set (h : Mine w g e cs) (k : Nat) (v : Int) : Mine (w.setCell ⟨g, k, none⟩ (.int .i32 v)) g e (cs.set k v) := by
  have := heap_setCell_same w g k _ e (.int .i32 v) h
  unfold Mine
  rw [this]
  congr 2
  simp [List.map_set]
theorem Mine.kept (h : Mine w g e cs) {row : Option Nat} (hg : w.grownBy w' row) (hne : some g ≠ row) : Mine w' g e cs := (hg.block g h.lt hne).trans h
theorem Mine.drewN (h : Mine w g e cs) (d : Nat) : Mine (w.drewN d) g e cs := h
theorem Mine.alloc (h : Mine w g e cs) (o : Obj) : Mine (w.alloc o) g e cs := h.kept (World.grownBy_alloc w o none) (by simp)
theorem Mine.below {B : Nat} (h : Mine w g e cs) (hb : Below B w w') (hg : g < B) : Mine w' g e cs := (hb.block g hg).trans h
end

theorem Mine.elems {w : World} {g n : Nat} {e : TypeId} {cs : List Int} (h : Mine w g e cs) (hl : cs.length = n) (hn : n ≤ 9223372036854775807) (hw : ∀ x ∈ cs, (Lit.int .i32 x).wf = true) : Elems .i32 w (some ⟨g, 0, none⟩) n cs :=
  ⟨hl, hn, hw, fun _ => ⟨g, 0, rfl, fun i hi => by rw [Nat.zero_add]; exact h.cell (by omega)⟩⟩
theorem getD_wf {k : IntKind} {xs : List Int} (h : ∀ x ∈ xs, (Lit.int k x).wf = true) (h0 : (Lit.int k 0).wf = true) (i : Nat) : (Lit.int k (xs.getD i 0)).wf = true := by
  by_cases hi : i < xs.length
  · exact h _ (getD_mem hi)
  · rw [List.getD_eq_getElem?_getD, List.getElem?_eq_none (by omega)]; exact h0
theorem Elems.blk {k : IntKind} {w : World} {a : Option Addr} {n : Nat} {xs : List Int} (h : Elems k w a n xs) : ∀ x, a = some x → 0 < n → x.block < w.heap.size := by
  intro x hx hn
  obtain ⟨b, off, he, hc⟩ := h.2.2.2 hn
  rw [hx] at he
  cases he
  exact World.block_lt_of_cell? _ _ (hc 0 hn)
theorem Elems.spot {k : IntKind} {w : World} {a : Option Addr} {n : Nat} {xs : List Int} (h : Elems k w a n xs) : ∀ x, a = some x → 0 < n → x.spot = none := by
  intro x hx hn
  obtain ⟨b, off, he, _⟩ := h.2.2.2 hn
  rw [hx] at he
  cases he; rfl

theorem grownBy_refl (w : World) (row : Option Nat) : w.grownBy w row := ⟨rfl, rfl, rfl, Nat.le_refl _, fun _ _ _ => rfl⟩
theorem grownBy_setCell (w : World) (g k : Nat) (v : Value) : w.grownBy (w.setCell ⟨g, k, none⟩ v) (some g) :=
  ⟨rfl, rfl, rfl, by simp, fun i _ hi => heap_setCell_other w ⟨g, k, none⟩ i v (fun e => hi (by simp [e]))⟩
theorem grownBy_setRow (w : World) (g : Nat) (cs : Array Value) : w.grownBy (w.setRow g cs) (some g) :=
  ⟨rfl, rfl, rfl, by simp [World.setRow], fun i _ hi => setRow_other w g i cs (fun e => hi (by simp [e]))⟩
theorem grownBy_drewN (w : World) (n : Nat) (row : Option Nat) : w.grownBy (w.drewN n) row := ⟨rfl, rfl, rfl, Nat.le_refl _, fun _ _ _ => rfl⟩
theorem grownBy_drew (w : World) (row : Option Nat) : w.grownBy w.drew row := ⟨rfl, rfl, rfl, Nat.le_refl _, fun _ _ _ => rfl⟩
/-- numbers that lie in another block stay -/
theorem Elems.other {k : IntKind} {w w' : World} {b off n g : Nat} {xs : List Int} (h : Elems k w (some ⟨b, off, none⟩) n xs) (hg : w.grownBy w' (some g)) (hne : b ≠ g) : Elems k w' (some ⟨b, off, none⟩) n xs := h.grown hg (by simpa using hne)
theorem grownBy_below {w w' : World} (h : Below w.heap.size w w') (row : Option Nat) : w.grownBy w' row := ⟨h.os, h.tape, h.output, h.size, fun k hk _ => h.block k hk⟩
/-- what a stretch that wrote block g alone leaves of all that lay ahead of it -/
theorem below_grown {w0 w w' : World} {g : Nat} (hb : Below w0.heap.size w0 w) (hg : w.grownBy w' (some g)) (hle : w0.heap.size ≤ g) : Below w0.heap.size w0 w' :=
  hb.grown hg hb.size (fun k hk => by cases hk; exact hle)

theorem grownBy_res (w : World) (b : Nat) (p q r : Value) : w.grownBy (((w.setCell ⟨b, 0, none⟩ p).setCell ⟨b, 1, none⟩ q).setCell ⟨b, 2, none⟩ r) (some b) :=
  ((grownBy_setCell w b 0 p).trans (grownBy_setCell _ b 1 q)).trans (grownBy_setCell _ b 2 r)

/-- three cells of block b, none of them frozen -/
def Box3 (w : World) (b : Nat) (p q r : Value) : Prop :=
  b < w.heap.size ∧ w.cell? ⟨b, 0, none⟩ = some p ∧ w.cell? ⟨b, 1, none⟩ = some q ∧ w.cell? ⟨b, 2, none⟩ = some r ∧ w.frozen? ⟨b, 0, none⟩ = false ∧ w.frozen? ⟨b, 1, none⟩ = false ∧ w.frozen? ⟨b, 2, none⟩ = false
theorem Box3.kept {w w' : World} {b : Nat} {p q r : Value} (h : Box3 w b p q r) {row : Option Nat} (hg : w.grownBy w' row) (hne : some b ≠ row) : Box3 w' b p q r := by
  obtain ⟨h1, c0, c1, c2, f0, f1, f2⟩ := h
  have hbk := hg.block b h1 hne
  have hc : ∀ o, w'.cell? ⟨b, o, none⟩ = w.cell? ⟨b, o, none⟩ := fun o => World.cell?_of_block (a := ⟨b, o, none⟩) hbk
  have hf : ∀ o, w'.frozen? ⟨b, o, none⟩ = w.frozen? ⟨b, o, none⟩ := fun o => World.frozen?_of_block (a := ⟨b, o, none⟩) hbk
  exact ⟨Nat.lt_of_lt_of_le h1 hg.size, (hc 0).trans c0, (hc 1).trans c1, (hc 2).trans c2, (hf 0).trans f0, (hf 1).trans f1, (hf 2).trans f2⟩
theorem Box3.below {w w' : World} {b : Nat} {p q r : Value} (h : Box3 w b p q r) (hb : Below w.heap.size w w') : Box3 w' b p q r := h.kept (grownBy_below hb none) (by simp)
theorem Box3.alloc {w : World} {b : Nat} {p q r : Value} (h : Box3 w b p q r) (o : Obj) : Box3 (w.alloc o) b p q r := h.kept (World.grownBy_alloc w o none) (by simp)
theorem cell_keep {w w' : World} {a : Addr} {v : Value} (h : w.cell? a = some v) (hb : Below w.heap.size w w') : w'.cell? a = some v := (hb.cell (World.block_lt_of_cell? _ _ h)).trans h
theorem cell_alloc {w : World} {a : Addr} {v : Value} (h : w.cell? a = some v) (o : Obj) : (w.alloc o).cell? a = some v := cell_keep h ((Below.refl _ _).alloc (Nat.le_refl _) o)
theorem cell1_at {w : World} {b : Nat} (hb : b = w.heap.size) (v : Value) (T : TypeId) : (w.alloc (.cells #[v] T)).cell? ⟨b, 0, none⟩ = some v := by subst hb; simp
theorem Box3.set2 {w : World} {b : Nat} {p q r : Value} (h : Box3 w b p q r) (v : Value) : Box3 (w.setCell ⟨b, 2, none⟩ v) b p q v := by
  obtain ⟨h1, c0, c1, c2, f0, f1, f2⟩ := h
  refine ⟨by simpa using h1, ?_, ?_, World.cell?_setCell_same _ _ _ c2, ?_, ?_, ?_⟩
  · rw [World.cell?_setCell_other _ _ _ _ (by simp)]; exact c0
  · rw [World.cell?_setCell_other _ _ _ _ (by simp)]; exact c1
  · rw [World.frozen?_setCell]; exact f0
  · rw [World.frozen?_setCell]; exact f1
  · rw [World.frozen?_setCell]; exact f2
theorem box3_at {w : World} {b : Nat} (hb : b = w.heap.size) (p q r : Value) (T : TypeId) : Box3 (w.alloc (.cells #[p, q, r] T)) b p q r := by subst hb; exact three_cells (Below.refl _ _)
theorem box3_new (w : World) (p q r : Value) (T : TypeId) : Box3 (w.alloc (.cells #[p, q, r] T)) w.heap.size p q r := three_cells (Below.refl _ _)

/-- copy into a block that is known whole: of it, its row of cells behind, and what of the world stays -/
theorem wpList_copy_mine {P : Program} {w : World} {ops : Array Oper} {rest : List Oper} {o : Oper} {a : Act} {Q : Exit → Act → World → Prop} (hgd : o.guard = none) (d s : Operand) (dT sT : TypeId)
    (ho : o.op = .call { callee := .builtin .copy, args := #[d, s], argTypes := #[dT, sT] }) (elem : TypeId) (hu : P.underlying dT = some (.slice elem)) (hsz : (P.info? elem).map (·.size) = some 1)
    (dp sp : Option Addr) (dLen dCap sLen sCap : Nat) (hd : a.eval d = .slice dp dLen dCap) (hs : a.eval s = .slice sp sLen sCap)
    (g off : Nat) (cur : List Int) (t : TypeId) (hg : Mine w g t cur) (cs : List Int) (hn : cs.length = Nat.min sLen dLen)
    (hpos : 0 < cs.length → dp = some ⟨g, off, none⟩ ∧ Elems .i32 w sp cs.length cs)
    (hfit : off + cs.length ≤ cur.length)
    (h : ∀ w', Mine w' g t (splice cur off cs) → w.grownBy w' (some g) → wpList P ops Q rest (a.put o.dst (goInt cs.length)) w') :
    wpList P ops Q (o :: rest) a w := by
  by_cases h0 : cs.length = 0
  · obtain rfl : cs = [] := List.eq_nil_of_length_eq_zero h0
    refine wpList_copy_nothing hgd d s dT sT ho elem hu hsz dp sp dLen dCap sLen sCap hd hs (by simpa using hn.symm) ?_
    exact h w (by simpa [splice] using hg) (grownBy_refl _ _)
  · obtain ⟨rfl, hE⟩ := hpos (by omega)
    obtain ⟨b, so, rfl, hcell⟩ := hE.2.2.2 (by omega)
    have hN := hE.news
    refine wpList_copy_own hgd d s dT sT ho elem hu hsz g off dLen dCap ⟨b, so, none⟩ sLen sCap hd hs _ t hg (cs.map (.int .i32)) (by simpa using hn) hN (by simpa using hfit) (ints_one cs) ?_
    have := h (w.setRow g _) (by
      unfold Mine
      have := setRow_heap w g _ ((List.map (Value.int .i32) cur).toArray.toList.take off ++ (cs.map (Value.int .i32) ++ (List.map (Value.int .i32) cur).toArray.toList.drop (off + (cs.map (Value.int .i32)).length))).toArray t (0, 0) hg
      rw [this]
      simp [splice, List.map_append, List.map_take, List.map_drop]) (grownBy_setRow w g _)
    simpa using this

/-- copy, as a run -/
theorem run_copy_mine {P : Program} {w : World} (dT sT ty elem : TypeId) (hu : P.underlying dT = some (.slice elem)) (hsz : (P.info? elem).map (·.size) = some 1)
    (dp sp : Option Addr) (dLen dCap sLen sCap : Nat)
    (g off : Nat) (cur : List Int) (t : TypeId) (hg : Mine w g t cur) (cs : List Int) (hn : cs.length = Nat.min sLen dLen)
    (hpos : 0 < cs.length → dp = some ⟨g, off, none⟩ ∧ Elems .i32 w sp cs.length cs)
    (hfit : off + cs.length ≤ cur.length) :
    ∃ w', Sem.run P (Builtin.copy_ #[dT, sT] ty #[.slice dp dLen dCap, .slice sp sLen sCap]) w = .ok (.int .i64 (cs.length : Nat)) w' ∧ Mine w' g t (splice cur off cs) ∧ w.grownBy w' (some g) := by
  by_cases h0 : cs.length = 0
  · obtain rfl : cs = [] := List.eq_nil_of_length_eq_zero h0
    have hrun := run_copy_none (P := P) w dT sT ty elem dp sp dLen dCap sLen sCap hu hsz (by simpa using hn.symm)
    exact ⟨w, hrun, by simpa [splice] using hg, grownBy_refl _ _⟩
  · obtain ⟨rfl, hE⟩ := hpos (by omega)
    obtain ⟨b, so, rfl, hcell⟩ := hE.2.2.2 (by omega)
    have hN := hE.news
    have hrun := run_copy_row (P := P) w dT sT ty elem g off dLen dCap ⟨b, so, none⟩ sLen sCap _ t (cs.map (.int .i32)) hu hsz hg (by simpa using hn) hN (by simpa using hfit) (ints_one cs)
    rw [List.length_map] at hrun
    refine ⟨_, hrun, ?_, grownBy_setRow w g _⟩
    unfold Mine
    rw [setRow_heap w g _ _ t _ hg]
    simp [splice, List.map_append, List.map_take, List.map_drop]

theorem splice_at (L : List Int) (off : Nat) (cs : List Int) (h : off + cs.length ≤ L.length) (k : Nat) : (splice L off cs).getD k 0 = if off ≤ k ∧ k < off + cs.length then cs.getD (k - off) 0 else L.getD k 0 := by
  unfold splice
  rw [List.getD_eq_getElem?_getD, List.getElem?_append, List.length_take, Nat.min_eq_left (by omega)]
  split
  · rename_i h1
    rw [if_neg (by omega), List.getElem?_take_of_lt h1, List.getD_eq_getElem?_getD]
  · rename_i h1
    rw [List.getElem?_append]
    split
    · rename_i h2
      rw [if_pos (by omega), List.getD_eq_getElem?_getD]
    · rename_i h2
      rw [if_neg (by omega), List.getElem?_drop, List.getD_eq_getElem?_getD]
      congr 2; omega

/-- the row 'row' of cs has turned to the numbers f row 0, f row 1 ..; the others stay -/
def RowSet (f : Nat → Nat → Int) (R C row : Nat) (cs cs' : List Int) : Prop :=
  cs'.length = R * C ∧ ∀ i j, i < R → j < C → cs'.getD (i * C + j) 0 = if i = row then f row j else cs.getD (i * C + j) 0

/-- the rows ahead of 'row' are filled, the others are of noughts -/
def RowsSet (f : Nat → Nat → Int) (R C row : Nat) (cs : List Int) : Prop :=
  cs.length = R * C ∧ ∀ i j, i < R → j < C → cs.getD (i * C + j) 0 = if i < row then f i j else 0

theorem rowsSet_start (f : Nat → Nat → Int) (R C : Nat) : RowsSet f R C 0 (List.replicate (R * C) 0) := by
  refine ⟨by simp, fun i j hi hj => ?_⟩
  have := row_lt hi hj
  rw [if_neg (by omega), List.getD_eq_getElem?_getD, List.getElem?_replicate, if_pos this]; rfl
theorem rowsSet_step {f : Nat → Nat → Int} {R C row : Nat} {cs cs' : List Int} (h : RowsSet f R C row cs) (h' : RowSet f R C row cs cs') : RowsSet f R C (row + 1) cs' := by
  refine ⟨h'.1, fun i j hi hj => ?_⟩
  rw [h'.2 i j hi hj]
  split
  · rename_i e; subst e; rw [if_pos (by omega)]
  · rw [h.2 i j hi hj]
    by_cases h2 : i < row
    · rw [if_pos h2, if_pos (by omega)]
    · rw [if_neg h2, if_neg (by omega)]
theorem rowsSet_end {f : Nat → Nat → Int} {R C : Nat} {cs : List Int} (h : RowsSet f R C R cs) : cs = tab R C f := by
  rw [← tab_of R C cs h.1]
  exact tab_congr _ _ _ _ fun i j hi hj => by rw [h.2 i j hi hj, if_pos hi]
/-- a row is laid by copy -/
theorem rowSet_splice {f : Nat → Nat → Int} {R C row : Nat} {cs : List Int} (h : cs.length = R * C) (hr : row < R) (ys : List Int) (hl : ys.length = C) (hy : ∀ j, j < C → ys.getD j 0 = f row j) : RowSet f R C row cs (splice cs (row * C) ys) := by
  have hle := row_le (C := C) hr
  refine ⟨by rw [length_splice _ _ _ (by omega), h], fun i j hi hj => ?_⟩
  rw [splice_at _ _ _ (by omega)]
  by_cases e : i = row
  · subst e
    rw [if_pos ⟨by omega, by omega⟩, if_pos rfl, show i * C + j - i * C = j by omega, hy j hj]
  · rw [if_neg e, if_neg]
    intro ⟨h1, h2⟩
    rcases Nat.lt_or_ge i row with h3 | h3
    · have := row_le (C := C) h3; omega
    · have : row < i := by omega
      have := row_le (C := C) this; omega

/-- the row 'row' of cs has turned to h 0, h 1 ..; the others stay -/
def RowIs (h : Nat → Int) (R C row : Nat) (cs cs' : List Int) : Prop :=
  cs'.length = R * C ∧ ∀ i j, i < R → j < C → cs'.getD (i * C + j) 0 = if i = row then h j else cs.getD (i * C + j) 0

theorem rowIs_start {R C row : Nat} {cs : List Int} (hl : cs.length = R * C) (hz : ∀ j, j < C → cs.getD (row * C + j) 0 = 0) : RowIs (fun _ => 0) R C row cs cs := by
  refine ⟨hl, fun i j hi hj => ?_⟩
  split
  · rename_i e; subst e; exact hz j hj
  · rfl
theorem RowIs.at_ {h : Nat → Int} {R C row : Nat} {cs cs' : List Int} (H : RowIs h R C row cs cs') (hr : row < R) {j : Nat} (hj : j < C) : cs'.getD (row * C + j) 0 = h j := by rw [H.2 row j hr hj, if_pos rfl]
theorem RowIs.congr {h h' : Nat → Int} {R C row : Nat} {cs cs' : List Int} (H : RowIs h R C row cs cs') (e : ∀ j, j < C → h j = h' j) : RowIs h' R C row cs cs' := by
  refine ⟨H.1, fun i j hi hj => ?_⟩
  rw [H.2 i j hi hj, e j hj]
theorem RowIs.set {h h' : Nat → Int} {R C row k : Nat} {v : Int} {cs cs' : List Int} (H : RowIs h R C row cs cs') (hr : row < R) (hk : k < C) (hv : h' k = v) (ho : ∀ j, j < C → j ≠ k → h' j = h j) : RowIs h' R C row cs (cs'.set (row * C + k) v) := by
  refine ⟨by simpa using H.1, fun i j hi hj => ?_⟩
  have hrk := row_lt hr hk
  rw [List.getD_eq_getElem?_getD, List.getElem?_set]
  by_cases e : i = row
  · subst e
    rw [if_pos rfl]
    by_cases e2 : k = j
    · subst e2
      rw [if_pos rfl, if_pos (by rw [H.1]; exact hrk), hv]; rfl
    · rw [if_neg (by omega), ← List.getD_eq_getElem?_getD, H.at_ hr hj, ho j hj (Ne.symm e2)]
  · rw [if_neg e, if_neg, ← List.getD_eq_getElem?_getD, H.2 i j hi hj, if_neg e]
    intro h1
    rcases Nat.lt_or_ge i row with h3 | h3
    · have := row_le (C := C) h3; omega
    · have h4 : row < i := by omega
      have := row_le (C := C) h4; omega
theorem RowIs.rowSet {h : Nat → Int} {f : Nat → Nat → Int} {R C row : Nat} {cs cs' : List Int} (H : RowIs h R C row cs cs') (e : ∀ j, j < C → h j = f row j) : RowSet f R C row cs cs' := H.congr e

/-- WHAT A FUNCTION THAT FILLS ROWS IS ASKED: in whatever world in which all that lay in w0 lies unturned, handed a row of noughts of a block that was made since, it lays f's numbers there, and turns nothing else. -/
def Fills (P : Program) (fn : Nat) (lb : Array Value) (w0 : World) (e : TypeId) (R C : Nat) (f : Nat → Nat → Int) : Prop :=
  ∀ (W : World) (row : Nat) (a : Option Addr) (cap g : Nat) (cs : List Int), row < R → Below w0.heap.size w0 W → w0.heap.size ≤ g → Mine W g e cs → cs.length = R * C → (0 < C → a = some ⟨g, row * C, none⟩) → C ≤ cap → cap ≤ 9223372036854775807 →
    (∀ j, j < C → cs.getD (row * C + j) 0 = 0) →
    Calls P fn (#[.int .i64 row, .slice a C cap] ++ lb) W fun x W' => x = .returned (.tuple #[]) ∧ ∃ cs', W.grownBy W' (some g) ∧ Mine W' g e cs' ∧ RowSet f R C row cs cs'

/-- an append whose run is known, at a step of a region that draws its order -/
theorem step_append_run {P : Program} {w w' : World} {ops : Array Oper} {o : Oper} {a : Act} {K : Act → World → Prop} {Q : Exit → Act → World → Prop} {E : Prop} (hgd : o.guard = none) (s x : Operand) (t : TypeId)
    (ho : o.op = .call { callee := .builtin .append, args := #[s, x], argTypes := #[t, t] }) (v1 v2 : Value) (hs : a.eval s = v1) (hx : a.eval x = v2) {v : Value}
    (hrun : Sem.run P (Builtin.append_ #[t, t] o.type #[v1, v2]) w = .ok v w') (h : K (a.put o.dst v) w') :
    if Region.wanted o (yielded ops a.tmps) = true then Oper.wp P o a w K Q else E := by
  have hw : Region.wanted o (yielded ops a.tmps) = true := by simp [Region.wanted, hgd]
  rw [if_pos hw]
  unfold Oper.wp execOp
  simp only [ho, resolve, invoke, builtin, Sem.run_bind, Sem.run_pure, Result.andThen_ok, List.map_toArray, List.map_cons, List.map_nil, hs, hx, hrun]
  exact h

/-- a row that the call owns is in a block of its own type -/
theorem own_grown {w w' : World} {base : Nat} {e : TypeId} {size n : Nat} {v : Value} {xs : List Value} (h : w.ownsRow base e size v n xs) {g : Nat} (hg : w.grownBy w' (some g)) (hlt : g < base) : w'.ownsRow base e size v n xs :=
  h.kept hg (by cases hv : v.ownBlock with
    | none => exact .inl rfl
    | some k => exact .inr (by have := (h.lt k hv).1; simp; omega))



end Go.Proofs.Ytkinbngikmcpeaa
