import Derived.Test.YtoeihigdndkjeaaGreatDoorJ02
import Derived.Test.YtoeihigdndkjeaaGreatDoorJ01
import Derived.Test.YtoeihigdndkjeaaGreatDoorJ03
import Derived.Laws.OwnMore
import Derived.Laws.Tables
import Derived.Lib.SmallJoins
import Derived.Laws.Rows
import Derived.Laws.CopyRow
import Derived.Laws.ResultCell
import Derived.Deep.QuietTactic
import Derived.BigQuiet
import Derived.Laws.Cells
import Derived.Maps.AppendAt
import Derived.RangeFuncNested
import Derived.RangeFuncCalls
import Derived.Deep.RegionHeld3
import Derived.OrdersIn
import Derived.Shelf.RegionOpen
import Derived.Orders
import Derived.Test.YtoeihigdndkjeaaGreatDoorRows
import Derived.Lib.LaidTab
import Derived.LaidMore
import Derived.MakeChecks
import Derived.ProofKit
import Derived.OpenShut
import Derived.Stop.Joined
/-
  Plain mathematics of layer 2: E never falls as x rises; the whole roots of a square and of the number below it.
-/
namespace Go.Proofs.YtoeihigdndkjeaaGreatDoor
open Go.RowKit
set_option linter.unusedVariables false

theorem btw_falls (f g : Int) (h0 : 0 ≤ f) (h : f ≤ g) (h1 : g < 65536) : btw g ≤ btw f := by
  have bf := btw_bd f h0 (by omega)
  have bg := btw_bd g (by omega) h1
  rcases Int.lt_or_eq_of_le (show f / 2048 ≤ g / 2048 by omega) with hlt | heq
  · have := tab_mono (g / 2048).toNat (by omega) ((f / 2048).toNat + 1) (by omega)
    omega
  · have hD := tab_falls (f / 2048).toNat (by omega)
    have hr : f % 2048 ≤ g % 2048 := by omega
    have hm : (ptab.getD (f / 2048).toNat 0 - ptab.getD ((f / 2048).toNat + 1) 0) * (f % 2048) ≤ (ptab.getD (f / 2048).toNat 0 - ptab.getD ((f / 2048).toNat + 1) 0) * (g % 2048) :=
      Int.mul_le_mul_of_nonneg_left hr (by omega)
    have := half_mono _ _ 2048 (by decide) hm
    unfold btw
    rw [← heq]
    omega

theorem shr_steps : ∀ q, q < 32 → shr 65536 (((q + 1 : Nat)) : Int) = shr 32768 ((q : Nat) : Int) := by decide +kernel
theorem shr_falls : ∀ b, b < 33 → ∀ a, a ≤ b → shr 65536 ((b : Nat) : Int) ≤ shr 65536 ((a : Nat) : Int) := by decide +kernel

theorem E_mono (x y : Int) (h : x ≤ y) : E x ≤ E y := by
  have bx := E_bd x
  have by_ := E_bd y
  by_cases c0 : 0 < y
  · have : E y = 65536 := by unfold E; rw [if_pos c0]
    omega
  · by_cases c1 : x ≤ -1453643
    · have : E x = 0 := by unfold E; rw [if_neg (by omega), if_pos c1]
      omega
    · have ex : E x = shr (btw (-x * 94548 / 65536 % 65536)) (-x * 94548 / 65536 / 65536) := by unfold E; rw [if_neg (by omega), if_neg c1]
      have ey : E y = shr (btw (-y * 94548 / 65536 % 65536)) (-y * 94548 / 65536 / 65536) := by unfold E; rw [if_neg c0, if_neg (by omega)]
      rw [ex, ey]
      clear ex ey bx by_
      have hst : -y * 94548 / 65536 ≤ -x * 94548 / 65536 := by omega
      have hs0 : 0 ≤ -y * 94548 / 65536 := by omega
      have ht1 : -x * 94548 / 65536 < 2097152 := by omega
      generalize -x * 94548 / 65536 = t at *
      generalize -y * 94548 / 65536 = s at *
      have bt := btw_bd (t % 65536) (by omega) (by omega)
      have bs := btw_bd (s % 65536) (by omega) (by omega)
      rcases Int.lt_or_eq_of_le (show s / 65536 ≤ t / 65536 by omega) with hlt | heq
      · obtain ⟨a, ha⟩ : ∃ a : Nat, s / 65536 = (a : Int) := ⟨(s / 65536).toNat, by omega⟩
        obtain ⟨b, hb⟩ : ∃ b : Nat, t / 65536 = (b : Int) := ⟨(t / 65536).toNat, by omega⟩
        rw [ha, hb]
        rw [ha, hb] at hlt
        have h1 : shr (btw (t % 65536)) b ≤ shr 65536 b := shr_mono _ _ _ (by omega)
        have h2 : shr 65536 (b : Int) ≤ shr 65536 ((a + 1 : Nat) : Int) := shr_falls b (by omega) (a + 1) (by omega)
        have h3 := shr_steps a (by omega)
        have h4 : shr 32768 (a : Int) ≤ shr (btw (s % 65536)) a := shr_mono _ _ _ (by omega)
        omega
      · rw [heq]
        exact shr_mono _ _ _ (btw_falls _ _ (by omega) (by omega) (by omega))

theorem root_square (m : Int) (h : 0 ≤ m) : IsRoot (m * m) m := ⟨h, Int.le_refl _, by rw [Int.add_mul, Int.mul_add]; omega⟩
theorem root_below (m : Int) (h : 1 ≤ m) : IsRoot (m * m - 1) (m - 1) := by
  refine ⟨by omega, ?_, ?_⟩
  · rw [Int.sub_mul, Int.mul_sub]; omega
  · rw [Int.sub_add_cancel]; omega

end Go.Proofs.YtoeihigdndkjeaaGreatDoor

/-
  Plain mathematics of softmax weights: they keep the numbers' order, and together they come to the whole, less by fewer than how many they are; they depend on differences alone.
-/
namespace Go.Proofs.YtoeihigdndkjeaaGreatDoor
open Go.RowKit
set_option linter.unusedVariables false

theorem softmax_any (b s m : Int) (a : Option Addr) (n cap : Nat) (xs : List Int) (w : World) (h : Elems .i32 w a n xs) (hn : n ≤ 1000) (b1 : -2147483648 ≤ b) (b2 : b ≤ 2147483647) (hm : 0 < n → IsTop xs m) (hT : Tab w) :
    Calls Tryz.prog 113 #[.int .i32 b, .int .i64 s, .slice a n cap] w fun e w' => (∃ b' c, e = .returned (.slice b' n c) ∧ Elems .i32 w' b' n (soft b s m xs)) ∧ Below w.heap.size w w' := by
  by_cases h0 : n = 0
  · subst h0
    obtain rfl : xs = [] := List.length_eq_zero_iff.1 h.1
    exact (softmax_none b s a cap w).mono (by rintro e w' ⟨rfl, rfl⟩; exact ⟨⟨none, 0, rfl, Elems.nil_ _ _ _⟩, Below.refl _ _⟩)
  · exact (softmax_some b s m a n cap xs w h (by omega) hn b1 b2 (hm (by omega)) hT).mono (by rintro e w' ⟨⟨g, rfl, hE⟩, hb⟩; exact ⟨⟨_, _, rfl, hE⟩, hb⟩)

theorem pos_mono {x y : Int} (h : x ≤ y) : pos x ≤ pos y := by unfold pos; split <;> split <;> omega
theorem share_mono {t S x y : Int} (hS : 0 ≤ S) (h : x ≤ y) : share t S x ≤ share t S y := by
  unfold share
  split
  · exact Int.le_refl _
  · rename_i hn
    exact Int.ediv_le_ediv (by omega) (Int.mul_le_mul_of_nonneg_right (pos_mono h) (by omega))
theorem dif_mono {b n m x y : Int} (hb : 0 ≤ b) (h : x ≤ y) : dif b n m x ≤ dif b n m y := shr_mono _ _ _ (Int.mul_le_mul_of_nonneg_right (by omega) hb)

theorem soft_at (b s m : Int) (xs : List Int) {i : Nat} (hi : i < xs.length) : (soft b s m xs).getD i 0 = share 65536 (stot (pows b s m xs)) (E (dif b s m (xs.getD i 0))) := by
  simp [soft, pows, List.getD, List.getElem?_map, List.getElem?_eq_getElem hi]
theorem soft_length (b s m : Int) (xs : List Int) : (soft b s m xs).length = xs.length := by simp [soft, pows]
theorem soft_mono {b s m : Int} {xs : List Int} (hb : 0 ≤ b) {i k : Nat} (hi : i < xs.length) (hk : k < xs.length) (h : xs.getD k 0 ≤ xs.getD i 0) : (soft b s m xs).getD k 0 ≤ (soft b s m xs).getD i 0 := by
  rw [soft_at _ _ _ _ hi, soft_at _ _ _ _ hk]
  exact share_mono (tot_bd _ (pows_le b s m xs)).1 (E_mono _ _ (dif_mono hb h))
theorem soft_bd (b s m : Int) (xs : List Int) : ∀ p ∈ soft b s m xs, 0 ≤ p ∧ p ≤ 2147483647 := by
  intro p hp
  obtain ⟨x, hx, rfl⟩ := List.mem_map.1 hp
  exact share_bd2 (pows_le b s m xs) hx (by decide)
theorem cnt_pos {xs : List Int} {x : Int} (hx : x ∈ xs) (h : 0 < x) : 0 < scnt xs := by
  induction xs with
  | nil => cases hx
  | cons y ys ih =>
    have hb := cnt_bd ys
    rw [cnt_cons]
    rcases List.mem_cons.1 hx with rfl | hm
    · rw [if_pos h]; omega
    · have := ih hm; split <;> omega
theorem dif_top (b s m : Int) : dif b s m m = 0 := by
  unfold dif
  rw [Int.sub_self, Int.zero_mul]
  have h := shr_any 0 s 0 (by decide) (by decide) (by decide)
  omega
theorem soft_sum {b s m : Int} {xs : List Int} (hm : IsTop xs m) : (soft b s m xs).sum ≤ 65536 ∧ 65536 - (xs.length : Int) < (soft b s m xs).sum := by
  have hc : 0 < scnt (pows b s m xs) := cnt_pos (x := E (dif b s m m)) (List.mem_map.2 ⟨m, hm.1, rfl⟩) (by rw [dif_top]; decide +kernel)
  have h := whole (t := 65536) (pows_le b s m xs) (by decide) hc
  have h2 := cnt_bd (pows b s m xs)
  have h3 : (pows b s m xs).length = xs.length := by simp [pows]
  rw [h3] at h2
  have e : ssum 65536 (stot (pows b s m xs)) (pows b s m xs) = (soft b s m xs).sum := rfl
  rw [e] at h
  omega

/-- all numbers raised by one and the same -/
theorem soft_up (b s m up : Int) (xs : List Int) : soft b s (m + up) (xs.map (· + up)) = soft b s m xs := by
  have e : pows b s (m + up) (xs.map (· + up)) = pows b s m xs := by
    unfold pows
    rw [List.map_map]
    apply List.map_congr_left
    intro x _
    show E (dif b s (m + up) (x + up)) = _
    unfold dif
    rw [show x + up - (m + up) = x - m by omega]
  unfold soft
  rw [e]
theorem top_up {xs : List Int} {m : Int} (h : IsTop xs m) (up : Int) : IsTop (xs.map (· + up)) (m + up) := by
  refine ⟨List.mem_map.2 ⟨m, h.1, rfl⟩, fun y hy => ?_⟩
  obtain ⟨x, hx, rfl⟩ := List.mem_map.1 hy
  have := h.2 x hx
  show x + up ≤ m + up
  omega
theorem sum_le_len (xs : List Int) (h : ∀ x ∈ xs, 0 ≤ x ∧ x ≤ 2147483647) (k : Nat) : 0 ≤ (xs.take k).sum ∧ (xs.take k).sum ≤ k * 2147483647 := by
  induction xs generalizing k with
  | nil => simp; omega
  | cons x xs ih =>
    cases k with
    | zero => simp
    | succ k =>
      have h1 := ih (fun y hy => h y (List.mem_cons_of_mem _ hy)) k
      have h2 := h x List.mem_cons_self
      rw [List.take_succ_cons, List.sum_cons]; push_cast; omega

end Go.Proofs.YtoeihigdndkjeaaGreatDoor

/-
  A block that was just made, known whole, behind whatever left it alone.
-/
namespace Go.Proofs.YtoeihigdndkjeaaGreatDoor
open Go.RowKit
set_option linter.unusedVariables false

/-- block g holds the cells cs, none of them frozen -/
def Box (w : World) (g : Nat) (T : TypeId) (cs : Array Value) : Prop := w.heap[g]? = some (.cells cs T (0, 0))
section
variable {w w' : World} {g : Nat} {T : TypeId} {cs : Array Value}
theorem Box.lt (h : Box w g T cs) : g < w.heap.size := (Array.getElem?_eq_some_iff.1 h).1
theorem Box.cell (h : Box w g T cs) (o : Nat) : w.cell? ⟨g, o, none⟩ = cs[o]? := cell_of_row w g o cs T (0, 0) h
theorem Box.frozen (h : Box w g T cs) (o : Nat) : w.frozen? ⟨g, o, none⟩ = false := frozen_of_row w g o cs T h
theorem Box.kept (h : Box w g T cs) {row : Option Nat} (hg : w.grownBy w' row) (hne : some g ≠ row) : Box w' g T cs := (hg.block g h.lt hne).trans h
theorem Box.below {B : Nat} (h : Box w g T cs) (hb : Below B w w') (hg : g < B) : Box w' g T cs := (hb.block g hg).trans h
theorem Box.bel (h : Box w g T cs) (hb : Below w.heap.size w w') : Box w' g T cs := h.below hb h.lt
theorem Box.drewN (h : Box w g T cs) (d : Nat) : Box (w.drewN d) g T cs := h
theorem Box.alloc (h : Box w g T cs) (o : Obj) : Box (w.alloc o) g T cs := h.kept (World.grownBy_alloc w o none) (by simp)
theorem Box.set (h : Box w g T cs) (o : Nat) (v : Value) : Box (w.setCell ⟨g, o, none⟩ v) g T (cs.setIfInBounds o v) := heap_setCell_same w g o cs T v h
theorem Box.other (h : Box w g T cs) {g' o : Nat} (v : Value) (hne : g ≠ g') : Box (w.setCell ⟨g', o, none⟩ v) g T cs := (heap_setCell_other w ⟨g', o, none⟩ g v hne).trans h
end
theorem box_new (w : World) (T : TypeId) (cs : Array Value) : Box (w.alloc (.cells cs T)) w.heap.size T cs := heap_alloc_new w _
theorem box_at {w : World} {g : Nat} (hg : g = w.heap.size) (T : TypeId) (cs : Array Value) : Box (w.alloc (.cells cs T)) g T cs := by subst hg; exact box_new w T cs

/-- numbers that a literal laid, whatever marks its block has -/
theorem elems_mark {kd : IntKind} {w : World} {T : TypeId} {fr : Nat × Nat} (xs : List Int) {cs : Array Value} (hcs : cs = (xs.map (Value.int kd)).toArray) {b : Nat} (hb : b = w.heap.size) (hw : ∀ x ∈ xs, (Lit.int kd x).wf = true) (hl : xs.length ≤ 100) {n : Nat} (hn : xs.length = n) : Elems kd (w.alloc (.cells cs T fr)) (some ⟨b, 0, none⟩) n xs := by
  subst hcs hb hn
  refine ⟨rfl, by omega, hw, fun _ => ⟨w.heap.size, 0, rfl, fun i hi => ?_⟩⟩
  rw [Nat.zero_add, World.cell?_alloc_mark]
  simp [List.getD, hi]

/-- six cells stored anew -/
theorem Box.six {w : World} {g : Nat} {T : TypeId} {a0 a1 a2 a3 a4 a5 : Value} (h : Box w g T #[a0, a1, a2, a3, a4, a5]) (v0 v1 v2 v3 v4 v5 : Value) :
    Box ((((((w.setCell ⟨g, 0, none⟩ v0).setCell ⟨g, 1, none⟩ v1).setCell ⟨g, 2, none⟩ v2).setCell ⟨g, 3, none⟩ v3).setCell ⟨g, 4, none⟩ v4).setCell ⟨g, 5, none⟩ v5) g T #[v0, v1, v2, v3, v4, v5] := by
  have := (((((h.set 0 v0).set 1 v1).set 2 v2).set 3 v3).set 4 v4).set 5 v5
  simpa using this
theorem Box.drew {w : World} {g : Nat} {T : TypeId} {cs : Array Value} (h : Box w g T cs) : Box w.drew g T cs := h
/-- the cells of a block of six -/
theorem Box.cells6 {w : World} {g : Nat} {T : TypeId} {v0 v1 v2 v3 v4 v5 : Value} (h : Box w g T #[v0, v1, v2, v3, v4, v5]) :
    w.cell? ⟨g, 0, none⟩ = some v0 ∧ w.cell? ⟨g, 1, none⟩ = some v1 ∧ w.cell? ⟨g, 2, none⟩ = some v2 ∧ w.cell? ⟨g, 3, none⟩ = some v3 ∧ w.cell? ⟨g, 4, none⟩ = some v4 ∧ w.cell? ⟨g, 5, none⟩ = some v5 :=
  ⟨h.cell 0, h.cell 1, h.cell 2, h.cell 3, h.cell 4, h.cell 5⟩

end Go.Proofs.YtoeihigdndkjeaaGreatDoor

/-
  Cells of one block stored one behind the other: what of the block and of the world is so.
-/
namespace Go.Proofs.YtoeihigdndkjeaaGreatDoor
open Go.RowKit
set_option linter.unusedVariables false

/-- vs, stored from off on -/
def setN (w : World) (g : Nat) : Nat → List Value → World
  | _, [] => w
  | off, v :: vs => setN (w.setCell ⟨g, off, none⟩ v) g (off + 1) vs
def setL (cs : Array Value) : Nat → List Value → Array Value
  | _, [] => cs
  | off, v :: vs => setL (cs.setIfInBounds off v) (off + 1) vs

theorem box_setN {g : Nat} {T : TypeId} (vs : List Value) : ∀ (off : Nat) {w : World} {cs : Array Value}, Box w g T cs → Box (setN w g off vs) g T (setL cs off vs) := by
  induction vs with
  | nil => intro off w cs h; exact h
  | cons v vs ih => intro off w cs h; exact ih (off + 1) (h.set off v)
theorem setL_size (vs : List Value) : ∀ (off : Nat) (cs : Array Value), (setL cs off vs).size = cs.size := by
  induction vs with
  | nil => intro off cs; rfl
  | cons v vs ih => intro off cs; rw [setL, ih]; simp
theorem setL_before (vs : List Value) : ∀ (off : Nat) (cs : Array Value) (k : Nat), k < off → (setL cs off vs)[k]? = cs[k]? := by
  induction vs with
  | nil => intro off cs k _; rfl
  | cons v vs ih =>
    intro off cs k hk
    rw [setL, ih _ _ _ (by omega), Array.getElem?_setIfInBounds, if_neg (by omega)]
theorem setL_behind (vs : List Value) : ∀ (off : Nat) (cs : Array Value) (k : Nat), off + vs.length ≤ k → (setL cs off vs)[k]? = cs[k]? := by
  induction vs with
  | nil => intro off cs k _; rfl
  | cons v vs ih =>
    intro off cs k hk
    simp only [List.length_cons] at hk
    rw [setL, ih _ _ _ (by omega), Array.getElem?_setIfInBounds, if_neg (by omega)]
theorem setL_at (vs : List Value) : ∀ (off : Nat) (cs : Array Value) (k : Nat), k < vs.length → off + vs.length ≤ cs.size → (setL cs off vs)[off + k]? = vs[k]? := by
  induction vs with
  | nil => intro off cs k hk; simp at hk
  | cons v vs ih =>
    intro off cs k hk hs
    simp only [List.length_cons] at hk hs
    rw [setL]
    cases k with
    | zero =>
      rw [setL_before _ _ _ _ (by omega), Nat.add_zero, Array.getElem?_setIfInBounds, if_pos rfl, if_pos (by omega)]; rfl
    | succ k =>
      rw [show off + (k + 1) = off + 1 + k by omega, ih _ _ _ (by omega) (by simp; omega)]
      rfl
/-- a block stored anew, whole -/
theorem setL_all (cs : Array Value) (vs : List Value) (h : cs.size = vs.length) : setL cs 0 vs = vs.toArray := by
  apply Array.ext_getElem?
  intro k
  by_cases hk : k < vs.length
  · have := setL_at vs 0 cs k hk (by omega)
    rw [Nat.zero_add] at this
    rw [this]; simp
  · rw [Array.getElem?_eq_none (by rw [setL_size]; omega), Array.getElem?_eq_none (by simp; omega)]
theorem Box.whole {w : World} {g : Nat} {T : TypeId} {cs : Array Value} (h : Box w g T cs) (vs : List Value) (hl : cs.size = vs.length) : Box (setN w g 0 vs) g T vs.toArray := by
  rw [← setL_all cs vs hl]; exact box_setN vs 0 h
theorem setN_below (vs : List Value) : ∀ (off : Nat) {B : Nat} {w0 w : World} {g : Nat}, Below B w0 w → B ≤ g → Below B w0 (setN w g off vs) := by
  induction vs with
  | nil => intro off B w0 w g h _; exact h
  | cons v vs ih => intro off B w0 w g h hg; exact ih _ (h.setCell (p := ⟨g, off, none⟩) hg v) hg
theorem setN_grown (vs : List Value) : ∀ (off : Nat) (w : World) (g : Nat), w.grownBy (setN w g off vs) (some g) := by
  induction vs with
  | nil => intro off w g; exact grownBy_refl _ _
  | cons v vs ih => intro off w g; exact (grownBy_setCell w g off v).trans (ih _ _ _)
theorem setN_size (vs : List Value) : ∀ (off : Nat) (w : World) (g : Nat), (setN w g off vs).heap.size = w.heap.size := by
  induction vs with
  | nil => intro off w g; rfl
  | cons v vs ih => intro off w g; rw [setN, ih]; simp

theorem Box.setRow {w : World} {g : Nat} {T : TypeId} {cs cs' : Array Value} (h : Box w g T cs) : Box (w.setRow g cs') g T cs' := setRow_heap w g cs cs' T (0, 0) h
theorem Box.setRow_other {w : World} {g g' : Nat} {T : TypeId} {cs cs' : Array Value} (h : Box w g T cs) (hne : g ≠ g') : Box (w.setRow g' cs') g T cs := h.kept (grownBy_setRow w g' cs') (by simpa using hne)
theorem below_setRow {B : Nat} {w0 w : World} {g : Nat} {cs : Array Value} (h : Below B w0 w) (hg : B ≤ g) (hs : B ≤ w.heap.size) : Below B w0 (w.setRow g cs) :=
  h.grown (grownBy_setRow w g cs) hs (fun k hk => by cases hk; exact hg)

/-- a result that lies in a block, whole -/
theorem results_row {P : Program} {fn : Func} {p : Tmp} {ty : TypeId} (h : fn.results = #[.cell p ty]) {tmps : Array Value} {w : World} {g : Nat} {T : TypeId} {cs : Array Value} {d : TypeDesc} (hp : tmps.getD p undef = .pointer (some ⟨g, 0, none⟩)) (hg : Box w g T cs) (hu : P.underlying ty = some d) (hd : (match d with | .struct _ | .array _ _ => true | _ => false) = true) (hi : (P.info? ty).map (·.size) = some cs.size) :
    (results fn tmps).run P w = .ok (.agg cs) w := by
  have hl := run_loadVar_row (P := P) w g T ty cs (0, 0) d hg hu hd hi
  simp only [Array.getD_eq_getD_getElem?] at hp
  simp only [results, h]
  simp [hp, hl, asAddr]

end Go.Proofs.YtoeihigdndkjeaaGreatDoor

/-
  Contracts of the document's Ints and Bytes: two rows that hold the same numbers: each returns true; nothing is written.
-/
namespace Go.Proofs.YtoeihigdndkjeaaGreatDoor
open Go.RowKit
set_option linter.unusedVariables false

/-- an append whose run is known, in a region of one order -/
theorem wpList_append_at {P : Program} {w w' : World} {ops : Array Oper} {rest : List Oper} {o : Oper} {a : Act} {Q : Exit → Act → World → Prop} (hgd : o.guard = none) (s x : Operand) (t : TypeId)
    (ho : o.op = .call { callee := .builtin .append, args := #[s, x], argTypes := #[t, t] }) (v1 v2 : Value) (hs : a.eval s = v1) (hx : a.eval x = v2) {v : Value}
    (hrun : Sem.run P (Builtin.append_ #[t, t] o.type #[v1, v2]) w = .ok v w') (h : wpList P ops Q rest (a.put o.dst v) w') : wpList P ops Q (o :: rest) a w := by
  refine wpList_plain hgd fun K hK => ?_
  unfold Oper.wp execOp
  simp only [ho, resolve, invoke, builtin, Sem.run_bind, Sem.run_pure, Result.andThen_ok, List.map_toArray, List.map_cons, List.map_nil, hs, hx, hrun]
  exact hK _ _ h

theorem ints_yes (a a2 : Option Addr) (n cap cap2 : Nat) (xs : List Int) (w : World) (h : Elems .i32 w a n xs) (h2 : Elems .i32 w a2 n xs) :
    Calls Tryz.prog 13 #[.slice a n cap, .slice a2 n cap2] w fun e w' => e = .returned (.bool true) ∧ ∃ d, w' = w.drewN d := by
  have hn := h.2.1
  go_enter Tryz.func13, Tryz.ntmps13
  go_wp2_with fail
  go_loopw [5] (fun i wr => ∃ (k d : Nat), k ≤ n ∧ i = .int .i64 k ∧ wr = w.drewN d) (fun i _ => n - (intOf i).toNat)
  case atStart => exact ⟨0, 0, by omega, rfl, rfl⟩
  case round =>
    obtain ⟨k, d, hk, rfl, rfl⟩ := hrel
    by_cases hlt : k < n
    · obtain ⟨b, off, v, rfl, hc, hv, _⟩ := h.at_ hlt
      obtain ⟨b2, off2, v2, rfl, hc2, hv2, _⟩ := h2.at_ hlt
      obtain rfl : v = v2 := by rw [← hv.out, hv2.out]
      clear hv hv2 h h2
      go_wp2_with fail
      go_quiet (fail)
      go_wp2
      go_roundw
      case rel => exact ⟨k + 1, _, by omega, by go_num, rfl⟩
      case measure => simp [intOf]; omega
    · clear h h2
      go_wp2
      go_ret
      exact ⟨rfl, _, rfl⟩

theorem bytes_yes (a a2 : Option Addr) (n cap cap2 : Nat) (xs : List Int) (w : World) (h : Elems .i8 w a n xs) (h2 : Elems .i8 w a2 n xs) :
    Calls Tryz.prog 16 #[.slice a n cap, .slice a2 n cap2] w fun e w' => e = .returned (.bool true) ∧ ∃ d, w' = w.drewN d := by
  have hn := h.2.1
  go_enter Tryz.func16, Tryz.ntmps16
  go_wp2_with fail
  go_loopw [5] (fun i wr => ∃ (k d : Nat), k ≤ n ∧ i = .int .i64 k ∧ wr = w.drewN d) (fun i _ => n - (intOf i).toNat)
  case atStart => exact ⟨0, 0, by omega, rfl, rfl⟩
  case round =>
    obtain ⟨k, d, hk, rfl, rfl⟩ := hrel
    by_cases hlt : k < n
    · obtain ⟨b, off, v, rfl, hc, hv, _⟩ := h.at_ hlt
      obtain ⟨b2, off2, v2, rfl, hc2, hv2, _⟩ := h2.at_ hlt
      obtain rfl : v = v2 := by rw [← hv.out, hv2.out]
      clear hv hv2 h h2
      go_wp2_with fail
      go_quiet (fail)
      go_wp2
      go_roundw
      case rel => exact ⟨k + 1, _, by omega, by go_num, rfl⟩
      case measure => simp [intOf]; omega
    · clear h h2
      go_wp2
      go_ret
      exact ⟨rfl, _, rfl⟩

end Go.Proofs.YtoeihigdndkjeaaGreatDoor

/-
  A struct stored into the middle of a block that is known whole, and loaded out of it.
-/
namespace Go.Proofs.YtoeihigdndkjeaaGreatDoor
open Go.RowKit
set_option linter.unusedVariables false

/-- cells with vs in their midst -/
def mid (cs : Array Value) (off : Nat) (vs : Array Value) : Array Value := (cs.toList.take off ++ vs.toList ++ cs.toList.drop (off + vs.toList.length)).toArray
theorem mid_size (cs : Array Value) (off : Nat) (vs : Array Value) (h : off + vs.size ≤ cs.size) : (mid cs off vs).size = cs.size := by
  simp [mid]; omega
theorem mid_at (cs : Array Value) (off : Nat) (vs : Array Value) (h : off + vs.size ≤ cs.size) (q : Nat) (hq : q < vs.size) : (mid cs off vs)[off + q]? = vs[q]? := by
  unfold mid
  rw [List.getElem?_toArray, List.append_assoc, List.getElem?_append_right (by simp; omega), List.getElem?_append_left (by simp; omega)]
  simp only [List.length_take, Array.length_toList]
  rw [show off + q - min off cs.size = q by omega, Array.getElem?_toList]
theorem mid_far (cs : Array Value) (off : Nat) (vs : Array Value) (h : off + vs.size ≤ cs.size) (q : Nat) (hq : q < off ∨ off + vs.size ≤ q) : (mid cs off vs)[q]? = cs[q]? := by
  unfold mid
  rw [List.getElem?_toArray, List.append_assoc]
  rcases hq with hq | hq
  · rw [List.getElem?_append_left (by simp; omega), List.getElem?_take_of_lt hq, Array.getElem?_toList]
  · rw [List.getElem?_append_right (by simp; omega), List.getElem?_append_right (by simp; omega), List.getElem?_drop, ← Array.getElem?_toList]
    congr 1
    simp; omega

theorem run_storeVar_part {P : Program} (w : World) (g off : Nat) (t ty : TypeId) (cur cells : Array Value) (hg : w.heap[g]? = some (.cells cur t (0, 0))) (hi : (P.info? ty).map (·.size) = some cells.size)
    (hf : off + cells.size ≤ cur.size) (h1 : cells.all (·.oneCell') = true) :
    (storeVar ty ⟨g, off, none⟩ (.agg cells)).run P w = .ok () (w.setRow g (mid cur off cells)) := by
  have := run_storeCells_at (P := P) g off t cells.toList 0 cur w hg (by simp; omega) (fun v hv => (Array.all_eq_true_iff_forall_mem.1 h1) v (by simpa using hv))
  cases hq : P.info? ty with
  | none => simp [hq] at hi
  | some i =>
    have hs : cells.size = i.size := by simp [hq] at hi; omega
    simp only [Nat.add_zero] at this
    simp [storeVar, sizeOf, typeInfo, hq, Value.cells, hs, this, mid]

theorem wp_store_part {P : Program} {o : Oper} {a : Act} {w : World} {K : Act → World → Prop} {Q : Exit → Act → World → Prop} (ty : TypeId) (x y : Operand) (ho : o.op = .store ty x y)
    (g off : Nat) (cells : Array Value) (hx : a.eval x = .pointer (some ⟨g, off, none⟩)) (hy : a.eval y = .agg cells)
    (t : TypeId) (cur : Array Value) (hg : Box w g t cur) (hi : (P.info? ty).map (·.size) = some cells.size)
    (hf : off + cells.size ≤ cur.size) (h1 : cells.all (·.oneCell') = true)
    (h : K (a.put o.dst undef) (w.setRow g (mid cur off cells))) : o.wp P a w K Q := by
  unfold Oper.wp execOp
  simp only [ho, hx, hy, Instr.storeAt, Instr.sureAddr, Sem.run_bind, Sem.run_pure, Result.andThen_ok, run_storeVar_part w g off t ty cur cells hg hi hf h1]
  exact h

end Go.Proofs.YtoeihigdndkjeaaGreatDoor

/-
  A struct loaded out of the midst of a block, as one step.
-/
namespace Go.Proofs.YtoeihigdndkjeaaGreatDoor
open Go.RowKit
set_option linter.unusedVariables false

theorem run_loadVar_part {P : Program} (w : World) (g off : Nat) (ty : TypeId) (cs : Array Value) (d : TypeDesc) (h : ∀ k, k < cs.size → w.cell? ⟨g, off + k, none⟩ = cs[k]?)
    (hu : P.underlying ty = some d) (hd : (match d with | .struct _ | .array _ _ => true | _ => false) = true) (hi : (P.info? ty).map (·.size) = some cs.size) :
    (loadVar ty ⟨g, off, none⟩).run P w = .ok (.agg cs) w := by
  have hl : (loadCells ⟨g, off, none⟩ cs.toList.length).run P w = .ok cs.toList.toArray w :=
    run_loadCells_list (P := P) w ⟨g, off, none⟩ cs.toList (fun j v hv => by
      have hj : j < cs.size := by have := (List.getElem?_eq_some_iff.1 hv).1; simpa using this
      rw [add_plain', h j hj]
      simpa using hv)
  cases hq : P.info? ty with
  | none => simp [hq] at hi
  | some i =>
    have hs : i.size = cs.size := by simpa [hq] using hi
    have hagg : (isAgg ty).run P w = .ok true w := by
      unfold isAgg
      rw [Sem.run_bind, run_underlying hu w]
      cases d <;> simp_all
    simp only [Array.length_toList, Array.toArray_toList] at hl
    simp [loadVar, Sem.run_bind, hagg, sizeOf, typeInfo, hq, hs, hl]
theorem wp_load_part {P : Program} {o : Oper} {a : Act} {w : World} {K : Act → World → Prop} {Q : Exit → Act → World → Prop} (ty : TypeId) (x : Operand) (ho : o.op = .load ty x)
    (g off : Nat) (hx : a.eval x = .pointer (some ⟨g, off, none⟩)) (cs : Array Value) (d : TypeDesc) (hc : ∀ k, k < cs.size → w.cell? ⟨g, off + k, none⟩ = cs[k]?)
    (hu : P.underlying ty = some d) (hd : (match d with | .struct _ | .array _ _ => true | _ => false) = true) (hi : (P.info? ty).map (·.size) = some cs.size)
    (h : K (a.put o.dst (.agg cs)) w) : o.wp P a w K Q := by
  unfold Oper.wp execOp
  simp only [ho, hx, Instr.loadAt, Instr.sureAddr, Sem.run_bind, Sem.run_pure, Result.andThen_ok, run_loadVar_part w g off ty cs d hc hu hd hi]
  exact h
theorem wpList_load_part {P : Program} {ops : Array Oper} {rest : List Oper} {o : Oper} {a : Act} {w : World} {Q : Exit → Act → World → Prop} (hgd : o.guard = none) (ty : TypeId) (x : Operand) (ho : o.op = .load ty x)
    (g off : Nat) (hx : a.eval x = .pointer (some ⟨g, off, none⟩)) (cs : Array Value) (d : TypeDesc) (hc : ∀ k, k < cs.size → w.cell? ⟨g, off + k, none⟩ = cs[k]?)
    (hu : P.underlying ty = some d) (hd : (match d with | .struct _ | .array _ _ => true | _ => false) = true) (hi : (P.info? ty).map (·.size) = some cs.size)
    (h : wpList P ops Q rest (a.put o.dst (.agg cs)) w) : wpList P ops Q (o :: rest) a w :=
  wpList_plain hgd fun _ hK => wp_load_part ty x ho g off hx cs d hc hu hd hi (hK _ _ h)

end Go.Proofs.YtoeihigdndkjeaaGreatDoor

/-
  An append of a row (nil and empty ones too) of whatever kind of numbers, behind a row of the call's own, as a run; of one number, likewise.
-/
namespace Go.Proofs.YtoeihigdndkjeaaGreatDoor
open Go.RowKit
set_option linter.unusedVariables false

theorem info_u8 : ∃ i, Tryz.prog.info? 5 = some i ∧ i.zero = some (.int .u8 0) ∧ i.size = 1 ∧ i.bytes = 1 := by
  have h : (Tryz.prog.info? 5).map (fun i => (i.zero, i.size, i.bytes)) = some (some (.int .u8 0), 1, 1) := by kernel_rfl
  cases hh : Tryz.prog.info? 5 with
  | none => rw [hh] at h; cases h
  | some i => rw [hh] at h; simp only [Option.map_some, Option.some.injEq, Prod.mk.injEq] at h; exact ⟨i, rfl, h.1, h.2.1, h.2.2⟩
theorem info_i8 : ∃ i, Tryz.prog.info? 64 = some i ∧ i.zero = some (.int .i8 0) ∧ i.size = 1 ∧ i.bytes = 1 := by
  have h : (Tryz.prog.info? 64).map (fun i => (i.zero, i.size, i.bytes)) = some (some (.int .i8 0), 1, 1) := by kernel_rfl
  cases hh : Tryz.prog.info? 64 with
  | none => rw [hh] at h; cases h
  | some i => rw [hh] at h; simp only [Option.map_some, Option.some.injEq, Prod.mk.injEq] at h; exact ⟨i, rfl, h.1, h.2.1, h.2.2⟩
theorem info_int : ∃ i, Tryz.prog.info? 3 = some i ∧ i.zero = some (.int .i64 0) ∧ i.size = 1 ∧ i.bytes = 8 := by
  have h : (Tryz.prog.info? 3).map (fun i => (i.zero, i.size, i.bytes)) = some (some (.int .i64 0), 1, 8) := by kernel_rfl
  cases hh : Tryz.prog.info? 3 with
  | none => rw [hh] at h; cases h
  | some i => rw [hh] at h; simp only [Option.map_some, Option.some.injEq, Prod.mk.injEq] at h; exact ⟨i, rfl, h.1, h.2.1, h.2.2⟩

/-- a row behind a row of the call's own -/
theorem run_append_elems {P : Program} (kd : IntKind) (w : World) (base : Nat) (t e : TypeId) (bytes : Nat) (hb8 : bytes ≤ 8) (ht : P.underlying t = some (.slice e)) (hi : ∃ i, P.info? e = some i ∧ i.zero = some (.int kd 0) ∧ i.size = 1 ∧ i.bytes = bytes)
    (v : Value) (n : Nat) (xs : List Int) (hown : w.ownsRow base e 1 v n (xs.map (.int kd))) (a : Option Addr) (m cap : Nat) (ys : List Int) (h : Elems kd w a m ys) (ha : a = none → cap = 0) (hn : n ≤ 16777216) (hm : m ≤ 16777216) (hbase : base ≤ w.heap.size) :
    ∃ v' w', Sem.run P (Builtin.append_ #[t, t] t #[v, .slice a m cap]) w = .ok v' w' ∧ w'.ownsRow base e 1 v' (n + m) ((xs ++ ys).map (.int kd)) ∧ w.grownBy w' v.ownBlock ∧ (v'.ownBlock = v.ownBlock ∨ v'.ownBlock = some w.heap.size) := by
  obtain ⟨i0, hi, hz0, hz1, hz2⟩ := hi
  cases a with
  | none =>
    obtain rfl := ha rfl
    have hm0 : m = 0 := by
      apply Classical.byContradiction
      intro h0
      obtain ⟨b, off, he, _⟩ := h.2.2.2 (by omega)
      cases he
    subst hm0
    have hy : ys = [] := List.eq_nil_of_length_eq_zero h.1
    subst hy
    exact ⟨v, w, run_append_owned_none w base t t e i0 1 ht hi v n _ hown, by simpa using hown, grownBy_refl _ _, .inl rfl⟩
  | some ad =>
    have hnews : ∀ j u, (ys.map (Value.int kd))[j]? = some u → w.cell? (ad.add j) = some u := by
      intro j u hu
      have hl := h.1
      have hj : j < ys.length := by have := (List.getElem?_eq_some_iff.1 hu).1; simpa using this
      obtain ⟨b, off, he, _⟩ := h.2.2.2 (by omega)
      cases he
      exact h.news j u hu
    obtain ⟨v', w', hr, h2, h3, _, h4⟩ := run_append_own_at (P := P) w base t t e i0 _ 1 bytes ht hi hz0 hz1 hz2 rfl (by omega) v n _ hown
      ad m cap (ys.map (.int kd)) (by rw [List.length_map, h.1, Nat.mul_one]) hnews (ints_one ys) (by unfold maxLen; omega) (by have := Nat.mul_le_mul (show n + m ≤ 33554432 by omega) hb8; omega) hbase
    exact ⟨v', w', hr, by rw [List.map_append]; exact h2, h3, h4⟩

/-- numbers that a literal just laid, behind a row of the call's own -/
theorem run_append_lits {P : Program} (kd : IntKind) (w : World) (base : Nat) (t e : TypeId) (bytes : Nat) (hb8 : bytes ≤ 8) (ht : P.underlying t = some (.slice e)) (hi : ∃ i, P.info? e = some i ∧ i.zero = some (.int kd 0) ∧ i.size = 1 ∧ i.bytes = bytes)
    (v : Value) (n m : Nat) (xs ys : List Int) (cs : Array Value) (hcs : cs = (ys.map (Value.int kd)).toArray) (hm : ys.length = m) (hown : w.ownsRow base e 1 v n (xs.map (.int kd))) (hn : n ≤ 16777216) (hm2 : m ≤ 100) (hbase : base ≤ w.heap.size) :
    ∃ v' w', Sem.run P (Builtin.append_ #[t, t] t #[v, .slice (some ⟨w.heap.size, 0, none⟩) m m]) (w.alloc (.cells cs e)) = .ok v' w' ∧ w'.ownsRow base e 1 v' (n + m) ((xs ++ ys).map (.int kd)) ∧ w.grownBy w' v.ownBlock ∧ (v'.ownBlock = v.ownBlock ∨ v'.ownBlock = some (w.heap.size + 1)) := by
  subst hcs
  obtain ⟨i0, hi, hz0, hz1, hz2⟩ := hi
  have hnews := World.news_of_block (cs := (ys.map (Value.int kd)).toArray) (t := e) (fr := (0, 0)) (heap_alloc_new w (.cells (ys.map (Value.int kd)).toArray e))
  obtain ⟨v', w', hr, h2, h3, _, h4⟩ := run_append_own_at (P := P) (w.alloc (.cells (ys.map (Value.int kd)).toArray e)) base t t e i0 _ 1 bytes ht hi hz0 hz1 hz2 rfl (by omega) v n _ (hown.alloc _)
    ⟨w.heap.size, 0, none⟩ m m (ys.map (.int kd)) (by rw [List.length_map, hm, Nat.mul_one]) hnews (ints_one ys) (by unfold maxLen; omega) (by have := Nat.mul_le_mul (show n + m ≤ 33554432 by omega) hb8; omega) (by simp; omega)
  exact ⟨v', w', hr, by rw [List.map_append]; exact h2, (World.grownBy_alloc w _ _).trans h3, by rw [World.size_alloc] at h4; exact h4⟩

/-- how such a row reads, wherever it lies (nil too) -/
theorem own_reads {kd : IntKind} {w : World} {base : Nat} {e : TypeId} {v : Value} {n : Nat} {xs : List Int} (h : w.ownsRow base e 1 v n (xs.map (.int kd))) (hw : ∀ x ∈ xs, (Lit.int kd x).wf = true) (hn : n ≤ 9223372036854775807) :
    ∃ a cap, v = .slice a n cap ∧ Elems kd w a n xs ∧ n ≤ cap ∧ cap ≤ 9223372036854775807 ∧ (a = none → cap = 0) := by
  obtain ⟨a, cap, hv, hE⟩ := own_form h hn hw
  refine ⟨a, cap, hv, hE, ?_⟩
  rcases h.2 with ⟨h1, h2⟩ | ⟨g, c2, cur, h1, _, _, h3, h4, _⟩
  · rw [hv] at h1
    simp only [Value.slice.injEq] at h1
    refine ⟨by omega, by omega, fun _ => h1.2.2⟩
  · rw [hv] at h1
    simp only [Value.slice.injEq] at h1
    unfold maxLen at h4
    refine ⟨by omega, by omega, fun e => by rw [h1.1] at e; cases e⟩

end Go.Proofs.YtoeihigdndkjeaaGreatDoor

/-
  A region that draws its order, in a round of a loop over a function: walked as anywhere.
-/
namespace Go.Proofs.YtoeihigdndkjeaaGreatDoor
open Go.RowKit
set_option linter.unusedVariables false

theorem opIn_of_op {P : Program} {n l : Nat} {o : Oper} {a : Act} {w : World} {K : Act → World → Prop} {Q : Exit → Act → World → Prop} (hd : ∀ c, o.op ≠ .defer c) (h : o.wp P a w K Q) : o.wpIn (Fence.wide.inRound l) n P a w K Q := by
  unfold Oper.wpIn
  unfold Oper.wp at h
  refine ⟨fun _ _ => trivial, ?_⟩
  rw [Oper.semAt_eq _ _ _ hd]
  generalize (execOp a.eval o).run P w = r at *
  have hn : ((Fence.wide.inRound l).depth.isSome = true → 1 ≤ n) := fun h => by cases h
  cases r with
  | ok x w' =>
    cases x <;> simp only [Oper.upon, Oper.uponIn] at h ⊢
    all_goals first
      | exact h
      | exact ⟨hn, CallsIn.inRound l (callsIn_wide.2 h)⟩
      | (refine ⟨hn, ?_⟩
         intro c cs hr
         obtain ⟨v, w', h1, h2⟩ := h c cs
         exact ⟨v, w', h1, stepsIn_wide.2 h2⟩)
      | exact h.elim
  | halt x w' => cases x <;> simp only [Oper.upon, Oper.uponIn] at h ⊢ <;> exact h

def noDefer (ops : Array Oper) : Bool := ops.all fun o => match o.op with | .defer _ => false | _ => true
theorem anyIn_of_any {P : Program} {md : Region.Mode} {ops : Array Oper} {n l : Nat} {Q : Exit → Act → World → Prop} (hnd : noDefer ops = true) (hnl : ∀ a w, ¬ Q .outgrown a w) :
    ∀ (fuel : Nat) (listed : Array Bool) (a : Act) (w : World), wpAny P md ops Q fuel listed a w → wpAnyIn (Fence.wide.inRound l) n P md ops Q fuel listed a w
  | 0, _, _, _, h => h
  | fuel + 1, listed, a, w, h => by
    refine ⟨h.1, fun i hi => ?_⟩
    have h2 := h.2 i hi
    unfold wpOp at h2
    unfold wpOpIn
    cases ho : ops[i]? with
    | none => simp only [ho] at h2 ⊢; exact anyIn_of_any hnd hnl fuel _ _ _ h2
    | some o =>
      simp only [ho] at h2 ⊢
      have hd : ∀ c, o.op ≠ .defer c := by
        intro c e
        have hm := (Array.all_eq_true_iff_forall_mem.1 hnd) o (Array.mem_of_getElem? ho)
        rw [e] at hm
        cases hm
      split
      · rename_i hw
        rw [if_pos hw] at h2
        rcases h2 with h2 | ⟨_, a', w', h2⟩
        · exact Oper.wpIn_mono (fun a w h => anyIn_of_any hnd hnl fuel _ a w h) (opIn_of_op hd h2)
        · exact absurd h2 (hnl a' w')
      · rename_i hw
        rw [if_neg hw] at h2
        exact ⟨fun _ _ => trivial, anyIn_of_any hnd hnl fuel _ _ _ h2⟩

/-- the beginning of such a region's walk: from here on 'wpAnyH' as anywhere -/
theorem wpIn_region_round {P : Program} {ops : Array Oper} {n l id : Nat} {Q : Exit → Act → World → Prop} {S : World → Prop} {a : Act} {w : World} (hm : P.follows .mixedOrders = true) (hnd : noDefer ops = true) (hnl : ∀ a w, ¬ Q .outgrown a w) (hS : S w.drew)
    (h : S w.drew → wpAnyH P .any ops Q S ops.size (Array.replicate ops.size false) a w.drew) : (Code.region id ops true).wpIn (Fence.wide.inRound l) n P Q a w :=
  wpIn_region_any hm (anyIn_of_any hnd hnl _ _ _ _ (wpAny_of_held _ _ _ _ (h hS)))

end Go.Proofs.YtoeihigdndkjeaaGreatDoor

/-
  A region that draws its order, whose operations each lay a value that hangs on blocks that the region makes, and whose last operation waits for all others: shown operation by operation, whatever the order.
-/
namespace Go.Proofs.YtoeihigdndkjeaaGreatDoor
open Go.RowKit
set_option linter.unusedVariables false

/-- one operation: its slot; its value, by the blocks' numbers; the operations on whose blocks it hangs; the block that it lays -/
structure Mk where
  dst : Nat
  f : List Nat → Value
  dep : List Nat
  obj : Option Obj
def Mk.val (m : Mk) (g : Nat → Nat) : Value := m.f (m.dep.map g)
/-- an operation that hangs on no block -/
abbrev Mk.pure (dst : Nat) (v : Value) : Mk := ⟨dst, fun _ => v, [], none⟩

theorem Mk.hangs (m : Mk) (g g' : Nat → Nat) (h : ∀ k ∈ m.dep, g k = g' k) : m.val g = m.val g' := by
  unfold Mk.val
  rw [List.map_congr_left h]

def upd (g : Nat → Nat) (j x : Nat) : Nat → Nat := fun k => if k = j then x else g k

/-- what an operation waits for -/
def waitsOn (o : Oper) : List Nat := (o.after.toList.filter (Region.binds .any)).map (·.on)

/-- what the table must keep -/
structure MkOk (tab : List Mk) (ops : Array Oper) : Prop where
  size : ops.size = tab.length + 1
  apart : ((List.range tab.length).all fun i => (List.range tab.length).all fun j => i == j || (tab[i]?.map (·.dst)) != (tab[j]?.map (·.dst))) = true
  waits : ((List.range tab.length).all fun j => ((tab[j]?.map (·.dep)).getD []).all fun k => k == j || ((ops[j]?.map waitsOn).getD []).contains k) = true
  back : ((List.range ops.size).all fun i => ((ops[i]?.map waitsOn).getD []).all fun k => decide (k < i)) = true
  last : ((List.range tab.length).all fun j => ((ops[tab.length]?.map waitsOn).getD []).contains j) = true

section
variable {P : Program} {ops : Array Oper} {Q : Exit → Act → World → Prop} {tab : List Mk} {a0 : Act} {w0 : World}

/-- what holds while the region runs -/
structure RegI (tab : List Mk) (a0 : Act) (w0 : World) (listed : Array Bool) (g : Nat → Nat) (a : Act) (w : World) : Prop where
  val : ∀ j m, tab[j]? = some m → listed.getD j false = true → a.tmps.getD m.dst undef = m.val g
  obj : ∀ j m o, tab[j]? = some m → m.obj = some o → listed.getD j false = true → w0.heap.size ≤ g j ∧ w.heap[g j]? = some o
  dis : ∀ i j m m', tab[i]? = some m → tab[j]? = some m' → m.obj.isSome = true → m'.obj.isSome = true → listed.getD i false = true → listed.getD j false = true → i ≠ j → g i ≠ g j
  dep : ∀ j m, tab[j]? = some m → listed.getD j false = true → ∀ k ∈ m.dep, listed.getD k false = true
  fix : ∀ d, (∀ m ∈ tab, m.dst ≠ d) → a.tmps.getD d undef = a0.tmps.getD d undef
  size : a.tmps.size = a0.tmps.size
  defers : a.defers = a0.defers
  bel : Below w0.heap.size w0 w

theorem getD_set_true (l : Array Bool) (i j : Nat) (h : j < l.size) : (l.setIfInBounds j true).getD i false = if i = j then true else l.getD i false := by
  simp only [Array.getD_eq_getD_getElem?, Array.getElem?_setIfInBounds]
  by_cases e : j = i
  · subst e; simp [h]
  · rw [if_neg e, if_neg (fun e' => e e'.symm)]

theorem tmps_put (a : Act) (d t : Nat) (v : Value) (hd : d < a.tmps.size) : (a.put (some d) v).tmps.getD t undef = if t = d then v else a.tmps.getD t undef := by
  simp only [Act.put, Array.getD_eq_getD_getElem?, Array.getElem?_setIfInBounds]
  by_cases e : d = t
  · subst e; simp [hd]
  · rw [if_neg e, if_neg (fun e' => e e'.symm)]

theorem MkOk.ne (h : MkOk tab ops) {i j : Nat} {m m' : Mk} (hi : tab[i]? = some m) (hj : tab[j]? = some m') (hne : i ≠ j) : m.dst ≠ m'.dst := by
  have hil := (List.getElem?_eq_some_iff.1 hi).1
  have hjl := (List.getElem?_eq_some_iff.1 hj).1
  have h1 := List.all_eq_true.1 h.apart i (List.mem_range.2 hil)
  have h2 := List.all_eq_true.1 h1 j (List.mem_range.2 hjl)
  rw [hi, hj] at h2
  simpa [hne] using h2

/-- one operation more, whatever it is -/
theorem RegI.step (ok : MkOk tab ops) {listed : Array Bool} {g : Nat → Nat} {a : Act} {w w' : World} (h : RegI tab a0 w0 listed g a w) {j : Nat} {m : Mk} (hj : tab[j]? = some m) (hjs : j < listed.size) (hun : listed.getD j false = false)
    (hd : m.dst < a0.tmps.size) (hdep : ∀ k ∈ m.dep, k = j ∨ listed.getD k false = true) {g' : Nat → Nat} (hg : ∀ k, k ≠ j → g' k = g k)
    (hobj : ∀ o, m.obj = some o → w.heap.size ≤ g' j ∧ w'.heap[g' j]? = some o) (hb : Below w.heap.size w w') :
    RegI tab a0 w0 (listed.setIfInBounds j true) g' (a.put (some m.dst) (m.val g')) w' := by
  have hsz : m.dst < a.tmps.size := by rw [h.size]; exact hd
  have hold : ∀ i m', tab[i]? = some m' → i ≠ j → listed.getD i false = true → m'.val g' = m'.val g := fun i m' hi hij hl =>
    m'.hangs g' g fun k hk => hg k fun e => by
      have := h.dep i m' hi hl k hk
      rw [e, hun] at this; cases this
  have hlt : ∀ i m' o, tab[i]? = some m' → m'.obj = some o → listed.getD i false = true → g i < w.heap.size := fun i m' o hi ho hl => (Array.getElem?_eq_some_iff.1 (h.obj i m' o hi ho hl).2).1
  refine ⟨?_, ?_, ?_, ?_, ?_, ?_, ?_, ?_⟩
  · intro i m' hi hl
    rw [getD_set_true _ _ _ hjs] at hl
    rw [tmps_put _ _ _ _ hsz]
    by_cases e : i = j
    · subst e
      rw [hi] at hj; cases hj
      rw [if_pos rfl]
    · rw [if_neg e] at hl
      rw [if_neg (ok.ne hi hj e), h.val i m' hi hl, hold i m' hi e hl]
  · intro i m' o hi ho hl
    rw [getD_set_true _ _ _ hjs] at hl
    by_cases e : i = j
    · subst e
      rw [hi] at hj; cases hj
      obtain ⟨h1, h2⟩ := hobj o ho
      exact ⟨Nat.le_trans h.bel.size h1, h2⟩
    · rw [if_neg e] at hl
      obtain ⟨h1, h2⟩ := h.obj i m' o hi ho hl
      rw [hg i e]
      exact ⟨h1, (hb.block _ (hlt i m' o hi ho hl)).trans h2⟩
  · intro i k m' m'' hi hk h1 h2 hl hl2 hne
    rw [getD_set_true _ _ _ hjs] at hl hl2
    obtain ⟨o1, ho1⟩ := Option.isSome_iff_exists.1 h1
    obtain ⟨o2, ho2⟩ := Option.isSome_iff_exists.1 h2
    by_cases e : i = j
    · subst e
      rw [if_neg (fun e => hne e.symm)] at hl2
      rw [hi] at hj; cases hj
      have a1 := (hobj o1 ho1).1
      have a2 := hlt k m'' o2 hk ho2 hl2
      rw [hg k (fun e => hne e.symm)]
      omega
    · rw [if_neg e] at hl
      by_cases e2 : k = j
      · subst e2
        rw [hk] at hj; cases hj
        have a1 := (hobj o2 ho2).1
        have a2 := hlt i m' o1 hi ho1 hl
        rw [hg i e]
        omega
      · rw [if_neg e2] at hl2
        rw [hg i e, hg k e2]
        exact h.dis i k m' m'' hi hk h1 h2 hl hl2 hne
  · intro i m' hi hl k hk
    rw [getD_set_true _ _ _ hjs] at hl ⊢
    by_cases e2 : k = j
    · rw [if_pos e2]
    · rw [if_neg e2]
      by_cases e : i = j
      · subst e
        rw [hi] at hj; cases hj
        rcases hdep k hk with h1 | h1
        · exact absurd h1 e2
        · exact h1
      · rw [if_neg e] at hl
        exact h.dep i m' hi hl k hk
  · intro d hdd
    rw [tmps_put _ _ _ _ hsz, if_neg (fun e => hdd m (List.mem_of_getElem? hj) e.symm)]
    exact h.fix d hdd
  · simpa [Act.put] using h.size
  · exact h.defers
  · exact h.bel.trans (hb.mono h.bel.size)

/-- the frame behind the region -/
def fillT (tab : List Mk) (g : Nat → Nat) (t : Array Value) : Array Value := tab.foldl (fun t m => t.setIfInBounds m.dst (m.val g)) t
theorem fillT_size (tab : List Mk) (g : Nat → Nat) (t : Array Value) : (fillT tab g t).size = t.size := by
  unfold fillT
  induction tab generalizing t with
  | nil => rfl
  | cons m l ih => rw [List.foldl_cons, ih]; simp
theorem fillT_other (tab : List Mk) (g : Nat → Nat) (t : Array Value) (d : Nat) (h : ∀ m ∈ tab, m.dst ≠ d) : (fillT tab g t)[d]? = t[d]? := by
  unfold fillT
  induction tab generalizing t with
  | nil => rfl
  | cons m l ih =>
    rw [List.foldl_cons, ih _ (fun m' hm => h m' (by simp [hm])), Array.getElem?_setIfInBounds, if_neg (h m (by simp))]
theorem fillT_same (tab : List Mk) (g : Nat → Nat) (t : Array Value) (d : Nat) (hd : d < t.size) (v : Value) (h : ∀ m ∈ tab, m.dst = d → m.val g = v) (hx : t[d]? = some v ∨ ∃ m ∈ tab, m.dst = d) : (fillT tab g t)[d]? = some v := by
  unfold fillT
  induction tab generalizing t with
  | nil =>
    rcases hx with hx | ⟨m, hm, _⟩
    · exact hx
    · cases hm
  | cons m l ih =>
    rw [List.foldl_cons]
    refine ih _ (by simpa using hd) (fun m' hm => h m' (by simp [hm])) ?_
    by_cases e : m.dst = d
    · left; rw [Array.getElem?_setIfInBounds, if_pos e, if_pos (by rw [e]; exact hd), h m (by simp) e]
    · rcases hx with hx | ⟨m', hm, hd'⟩
      · left; rw [Array.getElem?_setIfInBounds, if_neg e]; exact hx
      · rcases List.mem_cons.1 hm with rfl | hm
        · exact absurd hd' e
        · right; exact ⟨m', hm, hd'⟩
theorem RegI.frame (ok : MkOk tab ops) {listed : Array Bool} {g : Nat → Nat} {a : Act} {w : World} (h : RegI tab a0 w0 listed g a w) (hl : ∀ j, j < tab.length → listed.getD j false = true) (hds : (tab.all fun m => decide (m.dst < a0.tmps.size)) = true) : a = ⟨fillT tab g a0.tmps, a0.defers⟩ := by
  obtain ⟨t, ds⟩ := a
  have h1 := h.size
  have h2 := h.defers
  simp only at h1 h2
  subst h2
  congr 1
  apply Array.ext_getElem?
  intro d
  by_cases hd : d < t.size
  · by_cases hx : ∃ m ∈ tab, m.dst = d
    · obtain ⟨m, hm, rfl⟩ := hx
      obtain ⟨j, hj⟩ := List.getElem?_of_mem hm
      have hv := h.val j m hj (hl j (List.getElem?_eq_some_iff.1 hj).1)
      rw [fillT_same tab g a0.tmps m.dst (by omega) (m.val g) ?_ (.inr ⟨m, hm, rfl⟩)]
      · simp only [Array.getD_eq_getD_getElem?] at hv
        rw [Array.getElem?_eq_getElem hd] at hv ⊢
        simpa using hv
      · intro m' hm' he
        obtain ⟨i, hi⟩ := List.getElem?_of_mem hm'
        by_cases e : i = j
        · subst e; rw [hi] at hj; cases hj; rfl
        · exact absurd he (ok.ne hi hj e)
    · have hx2 : ∀ m ∈ tab, m.dst ≠ d := fun m hm e => hx ⟨m, hm, e⟩
      rw [fillT_other _ _ _ _ hx2]
      have hv := h.fix d hx2
      simp only [Array.getD_eq_getD_getElem?] at hv
      rw [Array.getElem?_eq_getElem hd, Array.getElem?_eq_getElem (by omega)] at hv ⊢
      simpa using hv
  · rw [Array.getElem?_eq_none (by omega), Array.getElem?_eq_none (by rw [fillT_size]; omega)]

/-- an operation that only reckons -/
theorem wpOp_yields {i : Nat} {o : Oper} {v : Value} {a : Act} {w : World} {K : Act → World → Prop} (hi : ops[i]? = some o) (hg : o.guard = none) (hv : (execOp a.eval o).run P w = .ok (.value v) w) (h : K (a.put o.dst v) w) : wpOp P ops Q i K a w := by
  unfold wpOp
  have hw : Region.wanted o (yielded ops a.tmps) = true := by simp [Region.wanted, hg]
  simp only [hi, hw, if_true, Oper.wp, hv, Oper.upon]
  exact .inl h
/-- one that is run -/
theorem wpOp_run {i : Nat} {o : Oper} {a : Act} {w : World} {K : Act → World → Prop} (hi : ops[i]? = some o) (hg : o.guard = none) (h : o.wp P a w K Q) : wpOp P ops Q i K a w := by
  unfold wpOp
  have hw : Region.wanted o (yielded ops a.tmps) = true := by simp [Region.wanted, hg]
  simp only [hi, hw, if_true]
  exact .inl h

/-- **The region.** -/
theorem region_made {id : Nat} (hm : P.follows .mixedOrders = true) (ok : MkOk tab ops)
    (hds : (tab.all fun m => decide (m.dst < a0.tmps.size)) = true)
    (hstep : ∀ (j : Nat) (o : Oper) (m : Mk) (listed : Array Bool) (g : Nat → Nat) (a : Act) (w : World) (K : Act → World → Prop), ops[j]? = some o → tab[j]? = some m → RegI tab a0 w0 listed g a w → (∀ k ∈ waitsOn o, listed.getD k false = true) →
      (∀ g' w', (∀ k, k ≠ j → g' k = g k) → (∀ ob, m.obj = some ob → w.heap.size ≤ g' j ∧ w'.heap[g' j]? = some ob) → Below w.heap.size w w' → K (a.put (some m.dst) (m.val g')) w') → wpOp P ops Q j K a w)
    (hend : ∀ o g w listed, ops[tab.length]? = some o → (∀ j, j < tab.length → listed.getD j false = true) → RegI tab a0 w0 listed g ⟨fillT tab g a0.tmps, a0.defers⟩ w → wpOp P ops Q tab.length (fun a' w' => Q .normal a' w') ⟨fillT tab g a0.tmps, a0.defers⟩ w) :
    (Code.region id ops true).wp P Q a0 w0 := by
  refine wp_region_any hm ?_
  have main : ∀ (fuel : Nat) (listed : Array Bool) (g : Nat → Nat) (a : Act) (w : World), listed.size = tab.length + 1 → listed.getD tab.length false = false → listed.toList.countP (fun b => !b) = fuel → RegI tab a0 w0 listed g a w → wpAny P .any ops Q fuel listed a w := by
    intro fuel
    induction fuel with
    | zero =>
      intro listed g a w hs hl hc _
      exfalso
      rw [List.countP_eq_zero] at hc
      have hin : listed[tab.length]'(by omega) ∈ listed.toList := Array.getElem_mem_toList _
      have := hc _ hin
      simp [Array.getD, hs] at hl this
      rw [hl] at this; cases this
    | succ fuel ih =>
      intro listed g a w hs hl hc h
      have hready : ∀ i, i ∈ Region.ready .any ops listed → listed.getD i false = false ∧ i < listed.size ∧ ∃ o, ops[i]? = some o ∧ ∀ k ∈ waitsOn o, listed.getD k false = true := by
        intro i hi
        obtain ⟨hun, o, ho, hall⟩ := mem_ready.1 hi
        have hil := (Array.getElem?_eq_some_iff.1 ho).1
        have hsz : i < listed.size := by rw [hs, ← ok.size]; exact hil
        refine ⟨?_, hsz, o, ho, fun k hk => ?_⟩
        · simp [Array.getD, hsz] at hun ⊢; exact hun
        · obtain ⟨e, he, rfl⟩ := List.mem_map.1 hk
          obtain ⟨h1, h2⟩ := List.mem_filter.1 he
          exact hall e (by simpa using h1) h2
      refine ⟨fun h0 => ?_, fun i hi => ?_⟩
      · exfalso
        -- the least one that has not come up may come up
        have hex : ∃ i, i < tab.length + 1 ∧ listed.getD i false = false := ⟨tab.length, by omega, hl⟩
        have hleast : ∃ i, i < tab.length + 1 ∧ listed.getD i false = false ∧ ∀ k, k < i → listed.getD k false = true := by
          obtain ⟨i, hi1, hi2⟩ := hex
          induction i using Nat.strongRecOn with
          | _ i ihi =>
            by_cases hall : ∀ k, k < i → listed.getD k false = true
            · exact ⟨i, hi1, hi2, hall⟩
            · obtain ⟨k, hk⟩ := Classical.not_forall.1 hall
              obtain ⟨hk1, hk2⟩ := Classical.not_imp.1 hk
              exact ihi k hk1 (by omega) (by simpa using hk2)
        obtain ⟨i, hi1, hi2, hi3⟩ := hleast
        have hio : ops[i]? = some (ops[i]'(by rw [ok.size]; exact hi1)) := Array.getElem?_eq_getElem _
        have hmem : i ∈ Region.ready .any ops listed := by
          refine mem_ready.2 ⟨?_, _, hio, fun e he hb => ?_⟩
          · simp [Array.getD, show i < listed.size by omega] at hi2 ⊢; exact hi2
          · have h1 := List.all_eq_true.1 ok.back i (List.mem_range.2 (by rw [ok.size]; exact hi1))
            rw [hio] at h1
            simp only [Option.map_some, Option.getD_some] at h1
            have h2 := List.all_eq_true.1 h1 e.on (List.mem_map.2 ⟨e, List.mem_filter.2 ⟨by simpa using he, hb⟩, rfl⟩)
            exact hi3 _ (of_decide_eq_true h2)
        rw [h0] at hmem; cases hmem
      · obtain ⟨hun, hsz, o, ho, hall⟩ := hready i hi
        have hcount : (listed.setIfInBounds i true).toList.countP (fun b => !b) = fuel := by
          have hget : listed.toList[i]'(by simpa using hsz) = false := by simp [Array.getD, hsz] at hun; simpa using hun
          rw [Array.toList_setIfInBounds, List.countP_set (h := by simpa using hsz), hc, hget]
          simp
        by_cases hin : i < tab.length
        · have him : tab[i]? = some (tab[i]'hin) := List.getElem?_eq_getElem hin
          have hdm : (tab[i]'hin).dst < a0.tmps.size := of_decide_eq_true (List.all_eq_true.1 hds _ (List.getElem_mem hin))
          have hdep : ∀ k ∈ (tab[i]'hin).dep, k = i ∨ listed.getD k false = true := by
            intro k hk
            have h1 := List.all_eq_true.1 ok.waits i (List.mem_range.2 hin)
            rw [him, ho] at h1
            have h2 := List.all_eq_true.1 h1 k hk
            simp only [Bool.or_eq_true, beq_iff_eq, Option.map_some, Option.getD_some, List.contains_iff_mem] at h2
            exact h2.imp (fun e => e) (hall k)
          refine wpOp_mono (fun a' w' ⟨g', h'⟩ => ih _ g' a' w' (by simpa using hs) ?_ hcount h') (hstep i o _ listed g a w (fun a' w' => ∃ g', RegI tab a0 w0 (listed.setIfInBounds i true) g' a' w') ho him h hall (fun g' w' h1 h2 h3 => ⟨g', h.step ok him hsz hun hdm hdep h1 h2 h3⟩))
          rw [getD_set_true _ _ _ hsz, if_neg (by omega)]; exact hl
        · obtain rfl : i = tab.length := by omega
          have hl2 : ∀ j, j < tab.length → listed.getD j false = true := by
            intro j hj
            have h1 := List.all_eq_true.1 ok.last j (List.mem_range.2 hj)
            rw [ho] at h1
            exact hall j (by simpa using h1)
          obtain rfl := h.frame ok hl2 hds
          refine wpOp_mono (fun a' w' h' => ?_) (hend o g w listed ho hl2 h)
          have hr : Region.ready .any ops (listed.setIfInBounds tab.length true) = [] := by
            apply List.eq_nil_iff_forall_not_mem.2
            intro k hk
            obtain ⟨hun2, o2, ho2, _⟩ := mem_ready.1 hk
            have hkl := (Array.getElem?_eq_some_iff.1 ho2).1
            have h3 : (listed.setIfInBounds tab.length true).getD k false = true := by
              rw [getD_set_true _ _ _ hsz]
              split
              · rfl
              · exact hl2 k (by rw [ok.size] at hkl; omega)
            have hks : k < (listed.setIfInBounds tab.length true).size := by rw [Array.size_setIfInBounds, hs, ← ok.size]; exact hkl
            simp only [Array.getD, hks, dif_pos] at hun2 h3
            rw [h3] at hun2; cases hun2
          cases fuel with
          | zero => exact ⟨hr, h'⟩
          | succ f => exact ⟨fun _ => h', by rw [hr]; simp⟩
  refine main ops.size _ (fun _ => 0) a0 _ (by simp [ok.size]) (by simp [Array.getD, ok.size]) (by rw [Array.toList_replicate, List.countP_replicate]; simp) ?_
  have hno : ∀ j, (Array.replicate ops.size false).getD j false = false := fun j => by simp [Array.getD]
  refine ⟨?_, ?_, ?_, ?_, fun _ _ => rfl, rfl, rfl, (Below.refl _ _).drew⟩
  · intro j m _ h; rw [hno] at h; cases h
  · intro j m o _ _ h; rw [hno] at h; cases h
  · intro i j m m' _ _ _ _ h; rw [hno] at h; cases h
  · intro j m _ h; rw [hno] at h; cases h

end

end Go.Proofs.YtoeihigdndkjeaaGreatDoor

/-
  The row's condition on two tables, the powers and the sines, gives the walks what they ask; the heap that the initialisers leave meets it.
-/
namespace Go.Proofs.YtoeihigdndkjeaaGreatDoor
open Go.ChangeShapes Go.WideShapes Go.ChangeAt Go.RowKit
set_option linter.unusedVariables false

/-- both tables -/
def Tabs9 (w : World) : Prop := Tab w ∧ STab w ∧ 1 < w.heap.size ∧ 0 < w.heap.size
abbrev laidList9 : List (String × DataW Unit) := [("peloton/curve.powers", Rows.laid_peloton_curve_powers), ("peloton/rope.sines", Rows.laid_peloton_rope_sines)]

theorem gPowers9 : Tryz.prog.globalNamed "peloton/curve.powers" = some 1 := by kernel_rfl
theorem tPowers9 : (Tryz.prog.globals[1]?).map (·.type) = some 212 := by kernel_rfl
theorem gSines9 : Tryz.prog.globalNamed "peloton/rope.sines" = some 0 := by kernel_rfl
theorem tSines9 : (Tryz.prog.globals[0]?).map (·.type) = some 211 := by kernel_rfl

theorem door_met9 (os : Os) (args : Array Value) : laidMetH Tryz.prog laidList9 ((World.doorLaid Tryz.prog 400 os).forCall (fun _ _ => 0) ⟨#[], args, []⟩).memory :=
  laidMetH_of_parts3 (fuel := 8) (laidMet_of_run' 8 (by kernel_rfl) (by kernel_rfl)) (by kernel_rfl) (by kernel_rfl)

theorem laidMet_tail {P : Program} {x : String × DataW Unit} {rest : List (String × DataW Unit)} {W : World} (h : laidMet P (x :: rest) W) : laidMet P rest W := by
  obtain ⟨ps, hv, hn, hc⟩ := h
  obtain ⟨n, d⟩ := x
  obtain ⟨g, t, cs, fuel, p, q, _, _, _, _, hq, rfl⟩ := hv
  exact ⟨q, hq, (List.nodup_append.1 hn).2.1, fun b off hm => hc b off (List.mem_append.2 (.inr hm))⟩

theorem tabs_of_laid {W : World} (h : laidMetH Tryz.prog laidList9 W) : Tabs9 W := by
  rw [MakeChecks.laidMetH_plain _ _ _ (by kernel_rfl)] at h
  have h2 : laidMet Tryz.prog [("peloton/curve.powers", Lib.tabData .i64 ptab), ("peloton/rope.sines", Lib.tabData .i32 stab)] W := h
  have hT := Lib.tabIs_of_head gPowers9 tPowers9 Tryz.underlying212 Tryz.underlying2 (by kernel_rfl) (by kernel_rfl) h2
  have hS := Lib.tabIs_of_head gSines9 tSines9 Tryz.underlying211 Tryz.underlying21 (by kernel_rfl) (by kernel_rfl) (laidMet_tail h2)
  have a : Tab W := fun i hi => hT.cell gPowers9 i hi
  have b : STab W := fun i hi => hS.cell gSines9 i hi
  exact ⟨a, b, World.block_lt_of_cell? _ _ (a 0 (by decide)), World.block_lt_of_cell? _ _ (b 0 (by decide))⟩

end Go.Proofs.YtoeihigdndkjeaaGreatDoor

/-
  Contracts of the document's rest, S, Sin, Cos and Angle of layer 6: for every argument of its type each returns what the plain mathematics says; what was in memory stays.
-/
namespace Go.Proofs.YtoeihigdndkjeaaGreatDoor
open Go.RowKit
set_option linter.unusedVariables false

theorem ref_rest6 (a : Int) (h1 : -9223372036854775808 ≤ a) (h2 : a ≤ 9223372036854775807) (w : World) :
    Calls Tryz.prog 121 #[.int .i64 a] w fun e w' => e = .returned (.int .i64 (a % 65536)) ∧ w = w' := by
  by_cases c : 0 ≤ a
  · have hr : ¬ a % 65536 < 0 := by omega
    go_enter Tryz.func121, Tryz.ntmps121
    go_wp2
    go_ret
    exact ⟨rfl, rfl⟩
  · have hr := rest_by a 65536 (by decide)
    have hv : a.tmod 65536 = a % 65536 ∨ a.tmod 65536 = a % 65536 - 65536 := by
      have h := Int.tmod_add_mul_tdiv a 65536
      omega
    have hz : 0 ≤ a % 65536 ∧ a % 65536 < 65536 := by omega
    generalize a % 65536 = z at hv hz ⊢
    by_cases c0 : a.tmod 65536 < 0
    · have hv2 : a.tmod 65536 + 65536 = z := by omega
      have hr2 : -65536 < a.tmod 65536 := hr.1
      have HV := Lib.hid hv2
      clear hv hv2 hr
      go_enter Tryz.func121, Tryz.ntmps121
      go_wp2
      go_ret
      exact ⟨ret_int HV.out, rfl⟩
    · have hv2 : a.tmod 65536 = z := by omega
      rw [← hv2]
      clear hv hv2 hz
      go_enter Tryz.func121, Tryz.ntmps121
      go_wp2
      go_ret
      exact ⟨rfl, rfl⟩

theorem ref_s6 (x : Int) (h0 : 0 ≤ x) (h1 : x ≤ 32) (w : World) :
    Calls Tryz.prog 122 #[.int .i64 x] w fun e w' => e = .returned (.int .i64 (stab.getD x.toNat 0)) ∧ Below w.heap.size w w' := by
  obtain ⟨i, hi⟩ : ∃ i : Nat, x = (i : Int) := ⟨x.toNat, by omega⟩
  subst hi
  have hE : ∀ T, Elems .i64 (w.alloc (.cells #[.int .i64 0, .int .i64 804, .int .i64 1606, .int .i64 2404, .int .i64 3196, .int .i64 3981, .int .i64 4756, .int .i64 5520, .int .i64 6270, .int .i64 7005, .int .i64 7723, .int .i64 8423, .int .i64 9102, .int .i64 9760, .int .i64 10394, .int .i64 11003, .int .i64 11585, .int .i64 12140, .int .i64 12665, .int .i64 13160, .int .i64 13623, .int .i64 14053, .int .i64 14449, .int .i64 14811, .int .i64 15137, .int .i64 15426, .int .i64 15679, .int .i64 15893, .int .i64 16069, .int .i64 16207, .int .i64 16305, .int .i64 16364, .int .i64 16384] T)) (some ⟨w.heap.size, 0, none⟩) 33 stab := fun T => elems_litK stab rfl rfl (by decide) (by decide) rfl
  have hc : ∀ T, (w.alloc (.cells #[.int .i64 0, .int .i64 804, .int .i64 1606, .int .i64 2404, .int .i64 3196, .int .i64 3981, .int .i64 4756, .int .i64 5520, .int .i64 6270, .int .i64 7005, .int .i64 7723, .int .i64 8423, .int .i64 9102, .int .i64 9760, .int .i64 10394, .int .i64 11003, .int .i64 11585, .int .i64 12140, .int .i64 12665, .int .i64 13160, .int .i64 13623, .int .i64 14053, .int .i64 14449, .int .i64 14811, .int .i64 15137, .int .i64 15426, .int .i64 15679, .int .i64 15893, .int .i64 16069, .int .i64 16207, .int .i64 16305, .int .i64 16364, .int .i64 16384] T)).cell? ⟨w.heap.size, i, none⟩ = some (.int .i64 (stab.getD i 0)) := fun T => by
    obtain ⟨b, off, v, he, hc, hv, _⟩ := (hE T).at_ (i := i) (by omega)
    cases he
    rw [Nat.zero_add] at hc
    rw [hc, hv.out]
  have hi : (i : Int) < 33 := by omega
  have e : stab.getD (i : Int).toNat 0 = stab.getD i 0 := rfl
  rw [e]
  generalize stab.getD i 0 = v at hc ⊢
  clear hE e
  have hc1 := hc 2
  clear hc
  go_enter Tryz.func122, Tryz.ntmps122
  go_wp2
  go_ret
  exact ⟨rfl, (Below.refl _ _).alloc (Nat.le_refl _) _⟩

theorem ref_sin0 (a n f : Int) (i : Nat) (hn : a % 65536 = n) (hq : n / 16384 = 0) (hf : n % 16384 = f) (hi : f / 512 = (i : Int)) (hi2 : i < 32) (h1 : -9223372036854775808 ≤ a) (h2 : a ≤ 9223372036854775807) (w : World) :
    Calls Tryz.prog 103 #[.int .i64 a] w fun e w' => e = .returned (.int .i32 (sine a)) ∧ Below w.heap.size w w' := by
  have hfo : fold4 a = f := by unfold fold4; rw [if_neg (by omega)]; omega
  have hsn : sine a = rise (fold4 a) := by unfold sine; rw [if_neg (by omega)]
  rw [hsn, hfo]
  have n0 : 0 ≤ n ∧ n < 65536 := by omega
  have hrest := ref_rest6 a h1 h2 w
  rw [hn] at hrest
  have f0 : 0 ≤ f ∧ f < 16384 := by omega
  have a2 := stab_rises i hi2
  have a1 := stab_bd i (by omega)
  have a3 := stab_bd (i + 1) (by omega)
  have hS : ∀ w, Calls Tryz.prog 122 #[.int .i64 (i : Int)] w fun e w' => e = .returned (.int .i64 (stab.getD i 0)) ∧ Below w.heap.size w w' := fun w => ref_s6 (i : Int) (by omega) (by omega) w
  have hS1 : ∀ w, Calls Tryz.prog 122 #[.int .i64 ((i : Int) + 1)] w fun e w' => e = .returned (.int .i64 (stab.getD (i + 1) 0)) ∧ Below w.heap.size w w' := fun w => ref_s6 ((i : Int) + 1) (by omega) (by omega) w
  have hr : rise f = stab.getD i 0 + half ((stab.getD (i + 1) 0 - stab.getD i 0) * (f % 512)) 512 := by unfold rise; rw [hi]; rfl
  rw [hr]
  generalize stab.getD i 0 = p at a1 a2 hS ⊢
  generalize stab.getD (i + 1) 0 = q at a2 a3 hS1 ⊢
  obtain ⟨r, hr2⟩ : ∃ r, f % 512 = r := ⟨_, rfl⟩
  have r0 : 0 ≤ r ∧ r < 512 := by omega
  rw [hr2]
  obtain ⟨m0, m1, m2, m3⟩ := add_bd (q - p) r a2.1 r0.1 r0.2
  have hs : ∀ w, Calls Tryz.prog 72 #[.int .i64 ((q - p) * r), .int .i64 9] w fun e w' => e = .returned (.int .i64 (half ((q - p) * r) 512)) ∧ w = w' := fun w => (by
    rw [← shr_nine]; exact ref_shift _ _ (by omega) (by omega) w)
  generalize hu : (q - p) * r = u at hs m0 m1 m2 m3
  generalize hv : half u 512 = v at hs m2 m3
  have i33 : (i : Int) < 32 := by omega
  clear hr hv hfo hsn hn
  go_enter Tryz.func103, Tryz.ntmps103
  go_wp2_with fail
  refine hrest.mono ?_
  rintro e w' ⟨rfl, rfl⟩
  clear hrest
  go_wp2_with fail
  refine (hS _).mono ?_
  rintro e wa ⟨rfl, hb1⟩
  go_wp2_with fail
  refine (hS1 _).mono ?_
  rintro e wb ⟨rfl, hb2⟩
  have hb3 := below_two hb1 hb2
  clear hb1 hb2
  go_wp2_with fail
  refine (hS _).mono ?_
  rintro e wc ⟨rfl, hb4⟩
  have hb5 := below_two hb3 hb4
  clear hb3 hb4
  go_wp2_with fail
  refine (hs _).mono ?_
  rintro e w' ⟨rfl, rfl⟩
  go_wp2
  go_ret
  exact ⟨rfl, hb5⟩

theorem ref_sin1 (a n f : Int) (i : Nat) (hn : a % 65536 = n) (hq : n / 16384 = 1) (hf : n % 16384 = f) (hi : (16384 - f) / 512 = (i : Int)) (hi2 : i < 32) (h1 : -9223372036854775808 ≤ a) (h2 : a ≤ 9223372036854775807) (w : World) :
    Calls Tryz.prog 103 #[.int .i64 a] w fun e w' => e = .returned (.int .i32 (sine a)) ∧ Below w.heap.size w w' := by
  have hfo : fold4 a = (16384 - f) := by unfold fold4; rw [if_pos (by omega)]; omega
  have hsn : sine a = rise (fold4 a) := by unfold sine; rw [if_neg (by omega)]
  rw [hsn, hfo]
  have n0 : 0 ≤ n ∧ n < 65536 := by omega
  have hrest := ref_rest6 a h1 h2 w
  rw [hn] at hrest
  have f0 : 0 ≤ f ∧ f < 16384 := by omega
  have a2 := stab_rises i hi2
  have a1 := stab_bd i (by omega)
  have a3 := stab_bd (i + 1) (by omega)
  have hS : ∀ w, Calls Tryz.prog 122 #[.int .i64 (i : Int)] w fun e w' => e = .returned (.int .i64 (stab.getD i 0)) ∧ Below w.heap.size w w' := fun w => ref_s6 (i : Int) (by omega) (by omega) w
  have hS1 : ∀ w, Calls Tryz.prog 122 #[.int .i64 ((i : Int) + 1)] w fun e w' => e = .returned (.int .i64 (stab.getD (i + 1) 0)) ∧ Below w.heap.size w w' := fun w => ref_s6 ((i : Int) + 1) (by omega) (by omega) w
  have hr : rise (16384 - f) = stab.getD i 0 + half ((stab.getD (i + 1) 0 - stab.getD i 0) * ((16384 - f) % 512)) 512 := by unfold rise; rw [hi]; rfl
  rw [hr]
  generalize stab.getD i 0 = p at a1 a2 hS ⊢
  generalize stab.getD (i + 1) 0 = q at a2 a3 hS1 ⊢
  obtain ⟨r, hr2⟩ : ∃ r, (16384 - f) % 512 = r := ⟨_, rfl⟩
  have r0 : 0 ≤ r ∧ r < 512 := by omega
  rw [hr2]
  obtain ⟨m0, m1, m2, m3⟩ := add_bd (q - p) r a2.1 r0.1 r0.2
  have hs : ∀ w, Calls Tryz.prog 72 #[.int .i64 ((q - p) * r), .int .i64 9] w fun e w' => e = .returned (.int .i64 (half ((q - p) * r) 512)) ∧ w = w' := fun w => (by
    rw [← shr_nine]; exact ref_shift _ _ (by omega) (by omega) w)
  generalize hu : (q - p) * r = u at hs m0 m1 m2 m3
  generalize hv : half u 512 = v at hs m2 m3
  have i33 : (i : Int) < 32 := by omega
  clear hr hv hfo hsn hn
  go_enter Tryz.func103, Tryz.ntmps103
  go_wp2_with fail
  refine hrest.mono ?_
  rintro e w' ⟨rfl, rfl⟩
  clear hrest
  go_wp2_with fail
  refine (hS _).mono ?_
  rintro e wa ⟨rfl, hb1⟩
  go_wp2_with fail
  refine (hS1 _).mono ?_
  rintro e wb ⟨rfl, hb2⟩
  have hb3 := below_two hb1 hb2
  clear hb1 hb2
  go_wp2_with fail
  refine (hS _).mono ?_
  rintro e wc ⟨rfl, hb4⟩
  have hb5 := below_two hb3 hb4
  clear hb3 hb4
  go_wp2_with fail
  refine (hs _).mono ?_
  rintro e w' ⟨rfl, rfl⟩
  go_wp2
  go_ret
  exact ⟨rfl, hb5⟩

theorem ref_sin1e (a n : Int) (hn : a % 65536 = n) (hq : n / 16384 = 1) (hf : n % 16384 = 0) (h1 : -9223372036854775808 ≤ a) (h2 : a ≤ 9223372036854775807) (w : World) :
    Calls Tryz.prog 103 #[.int .i64 a] w fun e w' => e = .returned (.int .i32 (sine a)) ∧ Below w.heap.size w w' := by
  have hfo : fold4 a = 16384 := by unfold fold4; rw [if_pos (by omega)]; omega
  have hsn : sine a = rise (fold4 a) := by unfold sine; rw [if_neg (by omega)]
  rw [hsn, hfo]
  have n0 : 0 ≤ n ∧ n < 65536 := by omega
  have hrest := ref_rest6 a h1 h2 w
  rw [hn] at hrest
  rw [show rise 16384 = 16384 from rise_at 32 16384 rfl]
  have hS : ∀ w, Calls Tryz.prog 122 #[.int .i64 32] w fun e w' => e = .returned (.int .i64 16384) ∧ Below w.heap.size w w' := fun w => ref_s6 32 (by decide) (by decide) w
  clear hfo hsn hn
  go_enter Tryz.func103, Tryz.ntmps103
  go_wp2_with fail
  refine hrest.mono ?_
  rintro e w' ⟨rfl, rfl⟩
  clear hrest
  go_wp2_with fail
  refine (hS _).mono ?_
  rintro e wa ⟨rfl, hb1⟩
  go_wp2
  go_ret
  exact ⟨rfl, hb1⟩

theorem ref_sin2 (a n f : Int) (i : Nat) (hn : a % 65536 = n) (hq : n / 16384 = 2) (hf : n % 16384 = f) (hi : f / 512 = (i : Int)) (hi2 : i < 32) (h1 : -9223372036854775808 ≤ a) (h2 : a ≤ 9223372036854775807) (w : World) :
    Calls Tryz.prog 103 #[.int .i64 a] w fun e w' => e = .returned (.int .i32 (sine a)) ∧ Below w.heap.size w w' := by
  have hfo : fold4 a = f := by unfold fold4; rw [if_neg (by omega)]; omega
  have hsn : sine a = -rise (fold4 a) := by unfold sine; rw [if_pos (by omega)]
  rw [hsn, hfo]
  have n0 : 0 ≤ n ∧ n < 65536 := by omega
  have hrest := ref_rest6 a h1 h2 w
  rw [hn] at hrest
  have f0 : 0 ≤ f ∧ f < 16384 := by omega
  have a2 := stab_rises i hi2
  have a1 := stab_bd i (by omega)
  have a3 := stab_bd (i + 1) (by omega)
  have hS : ∀ w, Calls Tryz.prog 122 #[.int .i64 (i : Int)] w fun e w' => e = .returned (.int .i64 (stab.getD i 0)) ∧ Below w.heap.size w w' := fun w => ref_s6 (i : Int) (by omega) (by omega) w
  have hS1 : ∀ w, Calls Tryz.prog 122 #[.int .i64 ((i : Int) + 1)] w fun e w' => e = .returned (.int .i64 (stab.getD (i + 1) 0)) ∧ Below w.heap.size w w' := fun w => ref_s6 ((i : Int) + 1) (by omega) (by omega) w
  have hr : rise f = stab.getD i 0 + half ((stab.getD (i + 1) 0 - stab.getD i 0) * (f % 512)) 512 := by unfold rise; rw [hi]; rfl
  rw [hr]
  generalize stab.getD i 0 = p at a1 a2 hS ⊢
  generalize stab.getD (i + 1) 0 = q at a2 a3 hS1 ⊢
  obtain ⟨r, hr2⟩ : ∃ r, f % 512 = r := ⟨_, rfl⟩
  have r0 : 0 ≤ r ∧ r < 512 := by omega
  rw [hr2]
  obtain ⟨m0, m1, m2, m3⟩ := add_bd (q - p) r a2.1 r0.1 r0.2
  have hs : ∀ w, Calls Tryz.prog 72 #[.int .i64 ((q - p) * r), .int .i64 9] w fun e w' => e = .returned (.int .i64 (half ((q - p) * r) 512)) ∧ w = w' := fun w => (by
    rw [← shr_nine]; exact ref_shift _ _ (by omega) (by omega) w)
  generalize hu : (q - p) * r = u at hs m0 m1 m2 m3
  generalize hv : half u 512 = v at hs m2 m3
  have i33 : (i : Int) < 32 := by omega
  clear hr hv hfo hsn hn
  go_enter Tryz.func103, Tryz.ntmps103
  go_wp2_with fail
  refine hrest.mono ?_
  rintro e w' ⟨rfl, rfl⟩
  clear hrest
  go_wp2_with fail
  refine (hS _).mono ?_
  rintro e wa ⟨rfl, hb1⟩
  go_wp2_with fail
  refine (hS1 _).mono ?_
  rintro e wb ⟨rfl, hb2⟩
  have hb3 := below_two hb1 hb2
  clear hb1 hb2
  go_wp2_with fail
  refine (hS _).mono ?_
  rintro e wc ⟨rfl, hb4⟩
  have hb5 := below_two hb3 hb4
  clear hb3 hb4
  go_wp2_with fail
  refine (hs _).mono ?_
  rintro e w' ⟨rfl, rfl⟩
  go_wp2
  go_ret
  exact ⟨rfl, hb5⟩

theorem ref_sin3 (a n f : Int) (i : Nat) (hn : a % 65536 = n) (hq : n / 16384 = 3) (hf : n % 16384 = f) (hi : (16384 - f) / 512 = (i : Int)) (hi2 : i < 32) (h1 : -9223372036854775808 ≤ a) (h2 : a ≤ 9223372036854775807) (w : World) :
    Calls Tryz.prog 103 #[.int .i64 a] w fun e w' => e = .returned (.int .i32 (sine a)) ∧ Below w.heap.size w w' := by
  have hfo : fold4 a = (16384 - f) := by unfold fold4; rw [if_pos (by omega)]; omega
  have hsn : sine a = -rise (fold4 a) := by unfold sine; rw [if_pos (by omega)]
  rw [hsn, hfo]
  have n0 : 0 ≤ n ∧ n < 65536 := by omega
  have hrest := ref_rest6 a h1 h2 w
  rw [hn] at hrest
  have f0 : 0 ≤ f ∧ f < 16384 := by omega
  have a2 := stab_rises i hi2
  have a1 := stab_bd i (by omega)
  have a3 := stab_bd (i + 1) (by omega)
  have hS : ∀ w, Calls Tryz.prog 122 #[.int .i64 (i : Int)] w fun e w' => e = .returned (.int .i64 (stab.getD i 0)) ∧ Below w.heap.size w w' := fun w => ref_s6 (i : Int) (by omega) (by omega) w
  have hS1 : ∀ w, Calls Tryz.prog 122 #[.int .i64 ((i : Int) + 1)] w fun e w' => e = .returned (.int .i64 (stab.getD (i + 1) 0)) ∧ Below w.heap.size w w' := fun w => ref_s6 ((i : Int) + 1) (by omega) (by omega) w
  have hr : rise (16384 - f) = stab.getD i 0 + half ((stab.getD (i + 1) 0 - stab.getD i 0) * ((16384 - f) % 512)) 512 := by unfold rise; rw [hi]; rfl
  rw [hr]
  generalize stab.getD i 0 = p at a1 a2 hS ⊢
  generalize stab.getD (i + 1) 0 = q at a2 a3 hS1 ⊢
  obtain ⟨r, hr2⟩ : ∃ r, (16384 - f) % 512 = r := ⟨_, rfl⟩
  have r0 : 0 ≤ r ∧ r < 512 := by omega
  rw [hr2]
  obtain ⟨m0, m1, m2, m3⟩ := add_bd (q - p) r a2.1 r0.1 r0.2
  have hs : ∀ w, Calls Tryz.prog 72 #[.int .i64 ((q - p) * r), .int .i64 9] w fun e w' => e = .returned (.int .i64 (half ((q - p) * r) 512)) ∧ w = w' := fun w => (by
    rw [← shr_nine]; exact ref_shift _ _ (by omega) (by omega) w)
  generalize hu : (q - p) * r = u at hs m0 m1 m2 m3
  generalize hv : half u 512 = v at hs m2 m3
  have i33 : (i : Int) < 32 := by omega
  clear hr hv hfo hsn hn
  go_enter Tryz.func103, Tryz.ntmps103
  go_wp2_with fail
  refine hrest.mono ?_
  rintro e w' ⟨rfl, rfl⟩
  clear hrest
  go_wp2_with fail
  refine (hS _).mono ?_
  rintro e wa ⟨rfl, hb1⟩
  go_wp2_with fail
  refine (hS1 _).mono ?_
  rintro e wb ⟨rfl, hb2⟩
  have hb3 := below_two hb1 hb2
  clear hb1 hb2
  go_wp2_with fail
  refine (hS _).mono ?_
  rintro e wc ⟨rfl, hb4⟩
  have hb5 := below_two hb3 hb4
  clear hb3 hb4
  go_wp2_with fail
  refine (hs _).mono ?_
  rintro e w' ⟨rfl, rfl⟩
  go_wp2
  go_ret
  exact ⟨rfl, hb5⟩

theorem ref_sin3e (a n : Int) (hn : a % 65536 = n) (hq : n / 16384 = 3) (hf : n % 16384 = 0) (h1 : -9223372036854775808 ≤ a) (h2 : a ≤ 9223372036854775807) (w : World) :
    Calls Tryz.prog 103 #[.int .i64 a] w fun e w' => e = .returned (.int .i32 (sine a)) ∧ Below w.heap.size w w' := by
  have hfo : fold4 a = 16384 := by unfold fold4; rw [if_pos (by omega)]; omega
  have hsn : sine a = -rise (fold4 a) := by unfold sine; rw [if_pos (by omega)]
  rw [hsn, hfo]
  have n0 : 0 ≤ n ∧ n < 65536 := by omega
  have hrest := ref_rest6 a h1 h2 w
  rw [hn] at hrest
  rw [show rise 16384 = 16384 from rise_at 32 16384 rfl]
  have hS : ∀ w, Calls Tryz.prog 122 #[.int .i64 32] w fun e w' => e = .returned (.int .i64 16384) ∧ Below w.heap.size w w' := fun w => ref_s6 32 (by decide) (by decide) w
  clear hfo hsn hn
  go_enter Tryz.func103, Tryz.ntmps103
  go_wp2_with fail
  refine hrest.mono ?_
  rintro e w' ⟨rfl, rfl⟩
  clear hrest
  go_wp2_with fail
  refine (hS _).mono ?_
  rintro e wa ⟨rfl, hb1⟩
  go_wp2
  go_ret
  exact ⟨rfl, hb1⟩

theorem ref_sin6 (a : Int) (h1 : -9223372036854775808 ≤ a) (h2 : a ≤ 9223372036854775807) (w : World) :
    Calls Tryz.prog 103 #[.int .i64 a] w fun e w' => e = .returned (.int .i32 (sine a)) ∧ Below w.heap.size w w' := by
  obtain ⟨n, hn⟩ : ∃ n, a % 65536 = n := ⟨_, rfl⟩
  obtain ⟨f, hf⟩ : ∃ f, n % 16384 = f := ⟨_, rfl⟩
  have hq : n / 16384 = 0 ∨ n / 16384 = 1 ∨ n / 16384 = 2 ∨ n / 16384 = 3 := by omega
  rcases hq with hq | hq | hq | hq
  · exact ref_sin0 a n f (f / 512).toNat hn hq hf (by omega) (by omega) h1 h2 w
  · by_cases e : f = 0
    · exact ref_sin1e a n hn hq (hf.trans e) h1 h2 w
    · exact ref_sin1 a n f ((16384 - f) / 512).toNat hn hq hf (by omega) (by omega) h1 h2 w
  · exact ref_sin2 a n f (f / 512).toNat hn hq hf (by omega) (by omega) h1 h2 w
  · by_cases e : f = 0
    · exact ref_sin3e a n hn hq (hf.trans e) h1 h2 w
    · exact ref_sin3 a n f ((16384 - f) / 512).toNat hn hq hf (by omega) (by omega) h1 h2 w

theorem ref_cos6 (a : Int) (h1 : -9223372036854775808 ≤ a) (h2 : a ≤ 9223372036854775807) (w : World) :
    Calls Tryz.prog 102 #[.int .i64 a] w fun e w' => e = .returned (.int .i32 (cosi a)) ∧ Below w.heap.size w w' := by
  have hrest := ref_rest6 a h1 h2 w
  have hc : sine (a % 65536 + 16384) = cosi a := sine_congr (by omega)
  have n0 : 0 ≤ a % 65536 ∧ a % 65536 < 65536 := by omega
  generalize a % 65536 = n at hrest hc n0
  have hs := ref_sin6 (n + 16384) (by omega) (by omega)
  rw [hc] at hs
  generalize cosi a = c at hs ⊢
  clear hc
  go_enter Tryz.func102, Tryz.ntmps102
  go_wp2_with fail
  refine hrest.mono ?_
  rintro e w' ⟨rfl, rfl⟩
  go_wp2_with fail
  refine (hs _).mono ?_
  rintro e wa ⟨rfl, hb⟩
  go_wp2
  go_ret
  exact ⟨rfl, hb⟩

set_option maxHeartbeats 400000 in
theorem ref_angle6 (place pair : Int) (h2 : pair ≤ 9223372036854775807) (w : World) :
    Calls Tryz.prog 101 #[.int .i64 place, .int .i64 pair] w fun e w' => e = .returned (.int .i64 (ang place pair)) ∧ w = w' := by
  by_cases c0 : place < 0
  · rw [ang_no (.inl c0)]
    go_enter Tryz.func101, Tryz.ntmps101
    go_wp2
    go_ret
    exact ⟨rfl, rfl⟩
  · by_cases c1 : 1048576 < place
    · rw [ang_no (.inr (.inl c1))]
      go_enter Tryz.func101, Tryz.ntmps101
      go_wp2
      go_ret
      exact ⟨rfl, rfl⟩
    · by_cases c2 : pair < 0
      · rw [ang_no (.inr (.inr c2))]
        go_enter Tryz.func101, Tryz.ntmps101
        go_wp2
        go_ret
        exact ⟨rfl, rfl⟩
      · rw [ang_at (by omega) (by omega) (by omega)]
        obtain ⟨p, rfl⟩ : ∃ p : Nat, pair = p := ⟨pair.toNat, by omega⟩
        obtain ⟨place, rfl⟩ : ∃ p : Nat, place = p := ⟨place.toNat, by omega⟩
        rw [Int.toNat_natCast]
        have p0 : place ≤ 1048576 := by omega
        have hlast := step_bd p
        have HG : Hid (∀ k, k ≤ p → (8192 : Int) / 2 ^ k = 0 → (8192 : Int) / 2 ^ p = 0) := Lib.hid (fun k hk h => step_gone h hk)
        obtain ⟨h, hh⟩ : ∃ h, (8192 : Int) / 2 ^ p = h := ⟨_, rfl⟩
        rw [hh] at hlast ⊢
        have HH := Lib.hid hh
        clear hh
        have hm : 0 ≤ (place : Int) * h ∧ (place : Int) * h ≤ 1048576 * 8192 := ⟨Int.mul_nonneg (by omega) hlast.1, Int.mul_le_mul (by omega) hlast.2 hlast.1 (by decide)⟩
        have hrest := ref_rest6 ((place : Int) * h) (by omega) (by omega)
        go_enter Tryz.func101, Tryz.ntmps101
        go_wp2
        go_loop [5, 6] (fun n i => ∃ (k : Nat) (m : Int), k ≤ p ∧ i = .int .i64 k ∧ n = .int .i64 m ∧ 0 ≤ m ∧ m ≤ 8192 ∧ Hid ((8192 : Int) / 2 ^ k = m)) (fun _ i => p - (intOf i).toNat)
        case atStart => exact ⟨0, 8192, by omega, rfl, rfl, by omega, by omega, Lib.hid (by decide)⟩
        case round =>
          obtain ⟨k, m, hk, rfl, rfl, m0, m1, HK⟩ := hrel
          by_cases hlt : k < p
          · by_cases hm0 : 0 < m
            · have HN : Hid ((8192 : Int) / 2 ^ (k + 1) = m / 2) := Lib.hid (by rw [step_next, HK.out])
              have m2 : 0 ≤ m / 2 ∧ m / 2 ≤ 8192 := by omega
              clear HK
              go_wp2
              go_round
              case rel => exact ⟨k + 1, m / 2, by omega, by go_num, rfl, m2.1, m2.2, HN⟩
              case measure => simp [intOf]; omega
            · obtain rfl : m = 0 := by omega
              obtain rfl : h = 0 := by rw [← HH.out]; exact HG.out k hk HK.out
              clear HK HH HG
              go_wp2_with fail
              refine (hrest _).mono ?_
              rintro e w' ⟨rfl, rfl⟩
              go_wp2
              go_ret
              exact ⟨rfl, rfl⟩
          · obtain rfl : k = p := by omega
            obtain rfl : h = m := by rw [← HH.out]; exact HK.out
            clear HK HH HG
            go_wp2_with fail
            refine (hrest _).mono ?_
            rintro e w' ⟨rfl, rfl⟩
            go_wp2
            go_ret
            exact ⟨rfl, rfl⟩

end Go.Proofs.YtoeihigdndkjeaaGreatDoor

/-
  A row of the call's own: cut short, one cell stored anew, as an argument of Parse.
-/
namespace Go.Proofs.YtoeihigdndkjeaaGreatDoor
open Go.RowKit
set_option linter.unusedVariables false

theorem own_cut {w : World} {base : Nat} {e : TypeId} {a : Option Addr} {n m cap : Nat} {xs : List Value} (h : w.ownsRow base e 1 (.slice a n cap) n xs) (hm : m ≤ n) : w.ownsRow base e 1 (.slice a m cap) m (xs.take m) := by
  refine ⟨by rw [List.length_take, h.1]; omega, ?_⟩
  rcases h.2 with ⟨h1, h2⟩ | ⟨g, c, cur, h1, h2, h3, h4, h5, h6, h7⟩
  · simp only [Value.slice.injEq] at h1
    obtain ⟨rfl, _, rfl⟩ := h1
    obtain rfl : m = 0 := by omega
    exact .inl ⟨rfl, rfl⟩
  · simp only [Value.slice.injEq, true_and] at h1
    obtain ⟨rfl, rfl⟩ := h1
    refine .inr ⟨g, cap, cur, rfl, h2, h3, by omega, h5, h6, ?_⟩
    rw [← h7, List.take_take]
    congr 1
    omega

/-- where such a row lies, and how it reads -/
theorem own_lies {kd : IntKind} {w : World} {base : Nat} {e : TypeId} {v : Value} {n : Nat} {xs : List Int} (h : w.ownsRow base e 1 v n (xs.map (.int kd))) (hw : ∀ x ∈ xs, (Lit.int kd x).wf = true) (hn : n ≤ 9223372036854775807) :
    ∃ a cap, v = .slice a n cap ∧ Elems kd w a n xs ∧ n ≤ cap ∧ cap ≤ 9223372036854775807 ∧ (a = none → cap = 0) ∧ (0 < n → ∃ b, a = some ⟨b, 0, none⟩) := by
  obtain ⟨a, cap, rfl, hE, h1, h2, h3⟩ := own_reads h hw hn
  refine ⟨a, cap, rfl, hE, h1, h2, h3, fun h0 => ?_⟩
  rcases h.2 with ⟨_, h4⟩ | ⟨g, c, cur, h4, _⟩
  · omega
  · simp only [Value.slice.injEq] at h4
    exact ⟨g, h4.1⟩

/-- one cell stored anew -/
theorem own_store {kd : IntKind} {w : World} {base : Nat} {e : TypeId} {g n cap : Nat} {xs : List Int} (h : w.ownsRow base e 1 (.slice (some ⟨g, 0, none⟩) n cap) n (xs.map (.int kd))) (j : Nat) (x : Int) :
    (w.setCell ⟨g, j, none⟩ (.int kd x)).ownsRow base e 1 (.slice (some ⟨g, 0, none⟩) n cap) n ((xs.set j x).map (.int kd)) := by
  have := (h.stored j (.int kd x)).1
  rw [List.map_set]
  exact this

/-- bytes stay bytes -/
theorem set_wf {kd : IntKind} {xs : List Int} (h : ∀ x ∈ xs, (Lit.int kd x).wf = true) (j : Nat) {y : Int} (hy : (Lit.int kd y).wf = true) : ∀ x ∈ xs.set j y, (Lit.int kd x).wf = true := by
  intro x hx
  rcases List.mem_or_eq_of_mem_set hx with h1 | h1
  · exact h x h1
  · rw [h1]; exact hy

/-- the first numbers of one row, the others of another -/
theorem take_drop_set (xs ys : List Int) (k : Nat) (x : Int) (hx : xs.getD k 0 = x) (h1 : k < xs.length) (h2 : k < ys.length) : (xs.take k ++ ys.drop k).set k x = xs.take (k + 1) ++ ys.drop (k + 1) := by
  rw [List.set_append_right _ _ (by simp; omega)]
  have e : k - (xs.take k).length = 0 := by simp; omega
  rw [e, List.drop_eq_getElem_cons h2, List.set_cons_zero, List.take_add_one, List.getElem?_eq_getElem h1]
  have : xs[k] = x := by rw [← hx, List.getD_eq_getElem?_getD, List.getElem?_eq_getElem h1]; rfl
  simp [this]
theorem take_drop_wf {kd : IntKind} {xs ys : List Int} (h1 : ∀ x ∈ xs, (Lit.int kd x).wf = true) (h2 : ∀ x ∈ ys, (Lit.int kd x).wf = true) (k : Nat) : ∀ x ∈ xs.take k ++ ys.drop k, (Lit.int kd x).wf = true := by
  intro x hx
  rcases List.mem_append.1 hx with h | h
  · exact h1 x (List.mem_of_mem_take h)
  · exact h2 x (List.mem_of_mem_drop h)

end Go.Proofs.YtoeihigdndkjeaaGreatDoor
