/-
  Grids as they stand in memory: one by value, a slice of them; tables of numbers by row and column; which grids are right.
-/
import Derived.Test.YtkinbngikmcpeaaKit
namespace Go.Proofs.Ytkinbngikmcpeaa
open Go.RowKit
set_option linter.unusedVariables false

theorem bcell {W W1 : World} (hb : Below W.heap.size W W1) : (∀ b o, b < W.heap.size → W1.cell? ⟨b, o, none⟩ = W.cell? ⟨b, o, none⟩) ∧ (∀ b o, b < W.heap.size → W1.frozen? ⟨b, o, none⟩ = W.frozen? ⟨b, o, none⟩) :=
  ⟨fun b o h => hb.cell (p := ⟨b, o, none⟩) h, fun b o h => hb.frozen (p := ⟨b, o, none⟩) h⟩

/-- a result of three cells is stored in a new block -/
theorem below_res {w w1 : World} (hb : Below w.heap.size w w1) {b : Nat} (h : w.heap.size ≤ b) (p q r : Value) : Below w.heap.size w (((w1.setCell ⟨b, 0, none⟩ p).setCell ⟨b, 1, none⟩ q).setCell ⟨b, 2, none⟩ r) :=
  ((hb.setCell (p := ⟨b, 0, none⟩) h _).setCell (p := ⟨b, 1, none⟩) h _).setCell (p := ⟨b, 2, none⟩) h _
/-- a block of three cells, as it was laid, behind a stretch -/
theorem three_cells {w wb : World} {p q r : Value} {T : TypeId} (hb : Below (w.alloc (.cells #[p, q, r] T)).heap.size (w.alloc (.cells #[p, q, r] T)) wb) :
    w.heap.size < wb.heap.size ∧ wb.cell? ⟨w.heap.size, 0, none⟩ = some p ∧ wb.cell? ⟨w.heap.size, 1, none⟩ = some q ∧ wb.cell? ⟨w.heap.size, 2, none⟩ = some r ∧ wb.frozen? ⟨w.heap.size, 0, none⟩ = false ∧ wb.frozen? ⟨w.heap.size, 1, none⟩ = false ∧ wb.frozen? ⟨w.heap.size, 2, none⟩ = false := by
  obtain ⟨hcl, hfr⟩ := bcell hb
  have hsz := hb.size
  simp at hsz
  refine ⟨hsz, ?_, ?_, ?_, ?_, ?_, ?_⟩
  · rw [hcl _ _ (by simp)]; simp
  · rw [hcl _ _ (by simp)]; simp
  · rw [hcl _ _ (by simp)]; simp
  · rw [hfr _ _ (by simp)]; simp
  · rw [hfr _ _ (by simp)]; simp
  · rw [hfr _ _ (by simp)]; simp

theorem add_plain' (b off i : Nat) : (⟨b, off, none⟩ : Addr).add i = ⟨b, off + i, none⟩ := by
  unfold Addr.add
  split
  · rename_i e; subst e; rfl
  · rfl

/-- a side of a right grid -/
def sideB (x : Int) : Bool := decide (0 ≤ x ∧ x ≤ 4096)
theorem sideB_yes {x : Int} (h : sideB x = true) : 0 ≤ x ∧ x ≤ 4096 := by unfold sideB at h; exact of_decide_eq_true h
theorem sideB_no {x : Int} (h : sideB x = false) : x < 0 ∨ 4096 < x := by unfold sideB at h; have := of_decide_eq_false h; omega

/-- a grid as it stands: its sides, where its numbers lie, and what they are -/
structure Gr where
  r : Int
  c : Int
  a : Option Addr
  n : Nat
  cap : Nat
  v : List Int
deriving Inhabited

/-- what is known of where a slice lies, whatever its length -/
def Sl (a : Option Addr) (cap : Nat) : Prop := (a = none → cap = 0) ∧ ∀ x, a = some x → 0 < cap → x.spot = none

/-- the grid g may stand so in w -/
def Gr.In (w : World) (g : Gr) : Prop :=
  Elems .i32 w g.a g.n g.v ∧ g.n ≤ g.cap ∧ g.cap ≤ 9223372036854775807 ∧ Sl g.a g.cap ∧ -9223372036854775808 ≤ g.r ∧ g.r ≤ 9223372036854775807 ∧ -9223372036854775808 ≤ g.c ∧ g.c ≤ 9223372036854775807

theorem Gr.In.below {w w' : World} {g : Gr} (h : g.In w) (hb : Below w.heap.size w w') : g.In w' := ⟨h.1.below hb, h.2⟩

/-- is it right? -/
def rightB (r c : Int) (n : Nat) : Bool := sideB r && (sideB c && decide ((n : Int) = r * c))
/-- is it right, and not too large? -/
def fitB (r c : Int) (n : Nat) : Bool := rightB r c n && decide (n ≤ 1048576)

theorem rightB_yes {r c : Int} {n : Nat} (h : rightB r c n = true) : ∃ R C : Nat, r = R ∧ c = C ∧ R ≤ 4096 ∧ C ≤ 4096 ∧ n = R * C := by
  unfold rightB at h
  simp only [Bool.and_eq_true, decide_eq_true_eq] at h
  obtain ⟨h1, h2, h3⟩ := h
  have h1 := sideB_yes h1
  have h2 := sideB_yes h2
  refine ⟨r.toNat, c.toNat, by omega, by omega, by omega, by omega, ?_⟩
  have e1 : r = (r.toNat : Int) := by omega
  have e2 : c = (c.toNat : Int) := by omega
  rw [e1, e2] at h3
  exact_mod_cast h3
theorem rightB_nat (R C : Nat) (hR : R ≤ 4096) (hC : C ≤ 4096) : rightB R C (R * C) = true := by
  unfold rightB sideB
  simp only [Bool.and_eq_true, decide_eq_true_eq]
  exact ⟨by omega, by omega, by push_cast; rfl⟩
theorem fitB_yes {r c : Int} {n : Nat} (h : fitB r c n = true) : ∃ R C : Nat, r = R ∧ c = C ∧ R ≤ 4096 ∧ C ≤ 4096 ∧ n = R * C ∧ R * C ≤ 1048576 := by
  unfold fitB at h
  simp only [Bool.and_eq_true, decide_eq_true_eq] at h
  obtain ⟨R, C, h1, h2, h3, h4, h5⟩ := rightB_yes h.1
  exact ⟨R, C, h1, h2, h3, h4, h5, by omega⟩
theorem fitB_nat (R C : Nat) (hR : R ≤ 4096) (hC : C ≤ 4096) (h : R * C ≤ 1048576) : fitB R C (R * C) = true := by
  unfold fitB; rw [rightB_nat R C hR hC]; simpa using h

/-- A slice of grids at a (a matters only where n is above 0). -/
def Grids (w : World) (a : Option Addr) (n : Nat) (gs : List Gr) : Prop :=
  gs.length = n ∧ n ≤ 9223372036854775807 ∧ (∀ g ∈ gs, g.In w) ∧
    (0 < n → ∃ b off, a = some ⟨b, off, none⟩ ∧ ∀ i, i < n → w.cell? ⟨b, off + i * 3, none⟩ = some (.int .i64 (gs.getD i default).r) ∧ w.cell? ⟨b, off + i * 3 + 1, none⟩ = some (.int .i64 (gs.getD i default).c) ∧
      w.cell? ⟨b, off + i * 3 + 2, none⟩ = some (.slice (gs.getD i default).a (gs.getD i default).n (gs.getD i default).cap))

theorem Grids.below {w w' : World} {a : Option Addr} {n : Nat} {gs : List Gr} (h : Grids w a n gs) (hb : Below w.heap.size w w') : Grids w' a n gs := by
  refine ⟨h.1, h.2.1, fun g hg => (h.2.2.1 g hg).below hb, fun hn => ?_⟩
  obtain ⟨b, off, rfl, hc⟩ := h.2.2.2 hn
  refine ⟨b, off, rfl, fun i hi => ?_⟩
  obtain ⟨h0, h1, h2⟩ := hc i hi
  exact ⟨(hb.cell (p := ⟨b, _, none⟩) (World.block_lt_of_cell? _ _ h0)).trans h0, (hb.cell (p := ⟨b, _, none⟩) (World.block_lt_of_cell? _ _ h1)).trans h1, (hb.cell (p := ⟨b, _, none⟩) (World.block_lt_of_cell? _ _ h2)).trans h2⟩

/-- one of them, as a round of a loop wants it -/
theorem Grids.at_ {w : World} {a : Option Addr} {n : Nat} {gs : List Gr} (h : Grids w a n gs) {i : Nat} (hi : i < n) :
    ∃ b off g, a = some ⟨b, off, none⟩ ∧ b < w.heap.size ∧ w.cell? ⟨b, off + i * 3, none⟩ = some (.int .i64 g.r) ∧ w.cell? ⟨b, off + i * 3 + 1, none⟩ = some (.int .i64 g.c) ∧ w.cell? ⟨b, off + i * 3 + 2, none⟩ = some (.slice g.a g.n g.cap) ∧
      Hid (gs.getD i default = g) ∧ g.In w := by
  obtain ⟨b, off, rfl, hc⟩ := h.2.2.2 (by omega)
  obtain ⟨h0, h1, h2⟩ := hc i hi
  refine ⟨b, off, _, rfl, World.block_lt_of_cell? _ _ h0, h0, h1, h2, Lib.hid rfl, h.2.2.1 _ ?_⟩
  rw [List.getD_eq_getElem?_getD, List.getElem?_eq_getElem (by rw [h.1]; exact hi)]
  exact List.getElem_mem _

theorem Grids.nil_ (w : World) (a : Option Addr) : Grids w a 0 [] := ⟨rfl, by omega, by simp, fun h => absurd h (by omega)⟩

/-- one grid, laid in a block of its own -/
theorem grids_one {w : World} {T : TypeId} {b : Nat} (g : Gr) (h : g.In w) (hb : b = w.heap.size) : Grids (w.alloc (.cells #[.int .i64 g.r, .int .i64 g.c, .slice g.a g.n g.cap] T)) (some ⟨b, 0, none⟩) 1 [g] := by
  subst hb
  refine ⟨rfl, by omega, ?_, fun _ => ⟨w.heap.size, 0, rfl, fun i hi => ?_⟩⟩
  · intro x hx
    simp only [List.mem_singleton] at hx
    subst hx
    exact h.below ((Below.refl _ _).alloc (Nat.le_refl _) _)
  · obtain rfl : i = 0 := by omega
    simp only [World.cell?_alloc_new]
    exact ⟨rfl, rfl, rfl⟩
/-- two grids, laid in a block of their own -/
theorem grids_two {w : World} {T : TypeId} {b : Nat} (g k : Gr) (h : g.In w) (h2 : k.In w) (hb : b = w.heap.size) : Grids (w.alloc (.cells #[.int .i64 g.r, .int .i64 g.c, .slice g.a g.n g.cap, .int .i64 k.r, .int .i64 k.c, .slice k.a k.n k.cap] T)) (some ⟨b, 0, none⟩) 2 [g, k] := by
  subst hb
  refine ⟨rfl, by omega, ?_, fun _ => ⟨w.heap.size, 0, rfl, fun i hi => ?_⟩⟩
  · intro x hx
    simp only [List.mem_cons, List.not_mem_nil, or_false] at hx
    rcases hx with rfl | rfl
    · exact h.below ((Below.refl _ _).alloc (Nat.le_refl _) _)
    · exact h2.below ((Below.refl _ _).alloc (Nat.le_refl _) _)
  · match i, hi with
    | 0, _ => simp only [World.cell?_alloc_new]; exact ⟨rfl, rfl, rfl⟩
    | 1, _ => simp only [World.cell?_alloc_new]; exact ⟨rfl, rfl, rfl⟩

/-! ### tables -/

/-- the numbers f i j of r rows and c columns, row by row -/
def tab (r c : Nat) (f : Nat → Nat → Int) : List Int := (List.range r).flatMap fun i => (List.range c).map (f i)

theorem tab_zero (c : Nat) (f : Nat → Nat → Int) : tab 0 c f = [] := rfl
theorem tab_succ (r c : Nat) (f : Nat → Nat → Int) : tab (r + 1) c f = tab r c f ++ (List.range c).map (f r) := by
  unfold tab; rw [List.range_succ, List.flatMap_append]; simp
theorem tab_length (r c : Nat) (f : Nat → Nat → Int) : (tab r c f).length = r * c := by
  induction r with
  | zero => simp [tab_zero]
  | succ r ih => rw [tab_succ, List.length_append, ih, List.length_map, List.length_range, Nat.succ_mul]
theorem row_lt {R C i j : Nat} (hi : i < R) (hj : j < C) : i * C + j < R * C := by
  have : (i + 1) * C ≤ R * C := Nat.mul_le_mul_right C hi
  rw [Nat.succ_mul] at this; omega
theorem row_le {R C i : Nat} (hi : i < R) : i * C + C ≤ R * C := by
  have : (i + 1) * C ≤ R * C := Nat.mul_le_mul_right C hi
  rw [Nat.succ_mul] at this; omega
theorem tab_at (r c : Nat) (f : Nat → Nat → Int) (i j : Nat) (hi : i < r) (hj : j < c) : (tab r c f).getD (i * c + j) 0 = f i j := by
  induction r with
  | zero => omega
  | succ r ih =>
    rw [tab_succ]
    by_cases h : i < r
    · have hl := row_lt h hj
      rw [List.getD_eq_getElem?_getD, List.getElem?_append_left (by rw [tab_length]; exact hl), ← List.getD_eq_getElem?_getD]
      exact ih h
    · obtain rfl : i = r := by omega
      rw [List.getD_eq_getElem?_getD, List.getElem?_append_right (by rw [tab_length]; omega), tab_length, show i * c + j - i * c = j by omega]
      simp [hj]
theorem tab_congr (r c : Nat) (f g : Nat → Nat → Int) (h : ∀ i j, i < r → j < c → f i j = g i j) : tab r c f = tab r c g := by
  induction r with
  | zero => rfl
  | succ r ih =>
    rw [tab_succ, tab_succ, ih (fun i j hi hj => h i j (by omega) hj)]
    congr 1
    apply List.map_congr_left
    intro j hj
    exact h r j (by omega) (List.mem_range.1 hj)
/-- every list of r times c numbers is a table -/
theorem tab_of (r c : Nat) (xs : List Int) (h : xs.length = r * c) : tab r c (fun i j => xs.getD (i * c + j) 0) = xs := by
  apply List.ext_getElem (by rw [tab_length, h])
  intro k h1 h2
  have hc : 0 < c := by
    rcases Nat.eq_zero_or_pos c with e | e
    · subst e; rw [h] at h2; omega
    · exact e
  have hk : k / c * c + k % c = k := by rw [Nat.mul_comm]; exact Nat.div_add_mod k c
  have hj : k % c < c := Nat.mod_lt k hc
  have hi : k / c < r := by
    rw [Nat.div_lt_iff_lt_mul hc]; omega
  have := tab_at r c (fun i j => xs.getD (i * c + j) 0) (k / c) (k % c) hi hj
  simp only [hk] at this
  rw [List.getD_eq_getElem?_getD, List.getElem?_eq_getElem h1, List.getD_eq_getElem?_getD, List.getElem?_eq_getElem h2] at this
  simpa using this
theorem tab_wf {r c : Nat} {f : Nat → Nat → Int} (h : ∀ i j, i < r → j < c → (Lit.int .i32 (f i j)).wf = true) : ∀ x ∈ tab r c f, (Lit.int .i32 x).wf = true := by
  intro x hx
  unfold tab at hx
  rw [List.mem_flatMap] at hx
  obtain ⟨i, hi, hx⟩ := hx
  obtain ⟨j, hj, rfl⟩ := List.mem_map.1 hx
  exact h i j (List.mem_range.1 hi) (List.mem_range.1 hj)

/-- the first i rows, and j numbers of row i -/
def pre (c : Nat) (f : Nat → Nat → Int) (i j : Nat) : List Int := tab i c f ++ (List.range j).map (f i)
theorem pre_zero (c : Nat) (f : Nat → Nat → Int) : pre c f 0 0 = [] := rfl
theorem pre_next (c : Nat) (f : Nat → Nat → Int) (i j : Nat) : pre c f i (j + 1) = pre c f i j ++ [f i j] := by
  unfold pre; rw [List.range_succ, List.map_append, ← List.append_assoc]; rfl
theorem pre_row (c : Nat) (f : Nat → Nat → Int) (i : Nat) : pre c f i c = pre c f (i + 1) 0 := by
  unfold pre; rw [tab_succ]; simp
theorem pre_tab (c : Nat) (f : Nat → Nat → Int) (i : Nat) : pre c f i 0 = tab i c f := by unfold pre; simp
theorem pre_length (c : Nat) (f : Nat → Nat → Int) (i j : Nat) : (pre c f i j).length = i * c + j := by unfold pre; simp [tab_length]

/-- row i of a table, as a list -/
def rowOf (xs : List Int) (c i : Nat) : List Int := (xs.drop (i * c)).take c
theorem rowOf_at (xs : List Int) (c i j : Nat) (hj : j < c) : (rowOf xs c i).getD j 0 = xs.getD (i * c + j) 0 := by
  unfold rowOf
  rw [List.getD_eq_getElem?_getD, List.getElem?_take_of_lt hj, List.getElem?_drop, ← List.getD_eq_getElem?_getD]
theorem rowOf_map (xs : List Int) (r c i : Nat) (h : xs.length = r * c) (hi : i < r) : rowOf xs c i = (List.range c).map fun j => xs.getD (i * c + j) 0 := by
  have hl := row_le (C := c) hi
  apply List.ext_getElem (by unfold rowOf; simp; omega)
  intro j h1 h2
  have hj : j < c := by simpa using h2
  have := rowOf_at xs c i j hj
  rw [List.getD_eq_getElem?_getD, List.getElem?_eq_getElem h1] at this
  simpa using this

end Go.Proofs.Ytkinbngikmcpeaa
