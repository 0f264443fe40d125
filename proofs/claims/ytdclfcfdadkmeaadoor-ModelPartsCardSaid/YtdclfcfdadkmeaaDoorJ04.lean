import Derived.Test.YtdclfcfdadkmeaaDoorJ02
import Derived.Test.YtdclfcfdadkmeaaDoorJ03
import Derived.Deep.RegionHeld3
import Derived.Test.YtdclfcfdadkmeaaDoorJ01
import Derived.Deep.QuietTactic
import Derived.BigQuiet
import Derived.OwnWalk
import Derived.WalkSmall
import Derived.Deep.AppendLies
import Derived.Laws.OwnMore
import Derived.Laws.Tables
import Derived.Lib.SmallJoins
import Derived.Laws.Rows
import Derived.Laws.CopyRow
import Derived.Laws.ResultCell
/-
  Contracts of Gate and Join, and of the document's Join: rows in new memory; nothing else turns.
-/
namespace Go.Proofs.YtdclfcfdadkmeaaDoor
open Go.RowKit
set_option linter.unusedVariables false

/-- what is let through -/
def gate1 (x : Int) : Int := if 0 ≤ x then x else 0
theorem gate1_wf {x : Int} (h : (Lit.int .i8 x).wf = true) : (Lit.int .i8 (gate1 x)).wf = true := by
  have := wf8 h
  unfold gate1
  exact WalkArith.wf_i8 (by split <;> omega)

set_option maxHeartbeats 400000 in
theorem gates (a : Option Addr) (n cap : Nat) (xs : List Int) (w : World) (h : Elems .i8 w a n xs) (hn : n ≤ 16777216) :
    Calls Tryd.prog 61 #[.slice a n cap] w fun e w' => e = .returned (.slice (some ⟨w.heap.size, 0, none⟩) n n) ∧ Elems .i8 w' (some ⟨w.heap.size, 0, none⟩) n (xs.map gate1) ∧ Below w.heap.size w w' := by
  have hmk := run_make_row' (P := Tryd.prog) 24 89 (.int .i8 0) 1 Tryd.underlying24 info8 rfl .i64 .i64 n (by omega) (by omega)
  go_enter Tryd.func61, Tryd.ntmps61
  go_wp2
  go_loopw [11] (fun i wr => ∃ (k : Nat) (cs : List Int), k ≤ n ∧ i = .int .i64 k ∧ MineK .i8 wr w.heap.size 89 cs ∧ Below w.heap.size w wr ∧ Hid (FilledBy (fun i => gate1 (xs.getD i 0)) n k cs)) (fun i _ => n - (intOf i).toNat)
  case atStart => exact ⟨0, List.replicate n 0, by omega, rfl, mine_made .i8 w 89 n rfl, (Below.refl _ _).alloc (Nat.le_refl _) _, Lib.hid (filledBy_start _ n)⟩
  case round =>
    obtain ⟨k, cs, hk, rfl, hmine, hbel, hfil⟩ := hrel
    by_cases hlt : k < n
    · obtain ⟨b, off, v, rfl, hc, hv, wv⟩ := (h.below hbel).at_ hlt
      have hl := hfil.out.1
      have hold := hmine.cell (k := k) (by omega)
      have hf := hmine.frozen k
      have hst := Lib.hid (filledBy_step hfil.out hlt)
      simp only [hv.out] at hst
      have hnew := hmine.set k (gate1 v)
      have hbel' := hbel.setCell (p := ⟨w.heap.size, k, none⟩) (Nat.le_refl _) (.int .i8 (gate1 v))
      generalize cs.getD k 0 = c at hold
      by_cases h0 : v < 0
      · have e : gate1 v = 0 := by unfold gate1; rw [if_neg (by omega)]
        rw [e] at hst hnew hbel'
        clear hv hl hfil hmine hbel hmk h e wv
        go_wp2
        go_roundw
        case rel => exact ⟨k + 1, _, by omega, by go_num, hnew, hbel', hst⟩
        case measure => simp [intOf]; omega
      · have e : gate1 v = v := by unfold gate1; rw [if_pos (by omega)]
        rw [e] at hst hnew hbel'
        clear hv hl hfil hmine hbel hmk h e wv
        go_wp2
        go_roundw
        case rel => exact ⟨k + 1, _, by omega, by go_num, hnew, hbel', hst⟩
        case measure => simp [intOf]; omega
    · obtain rfl : k = n := by omega
      have he := filledBy_end (g := gate1) hfil.out h.1 (fun i _ => rfl)
      have hE := hmine.elems (n := k) hfil.out.1 (by omega) (by rw [he]; intro c hc; obtain ⟨x, hx, rfl⟩ := List.mem_map.1 hc; exact gate1_wf (h.2.2.1 x hx))
      rw [he] at hE
      have HE := Lib.hid hE
      clear he hE hmine hfil h
      go_wp2
      go_ret
      exact ⟨rfl, HE.out, hbel⟩

/-- x, and what is brought down of y -/
def scl (b s y : Int) : Int := near (shr (y * b) s) (-2147483648) 2147483647
def join1 (b s x y : Int) : Int := wrap32 (x + scl b s y)
def joinL (b s : Int) (xs ys : List Int) (n : Nat) : List Int := (List.range n).map fun i => join1 b s (xs.getD i 0) (ys.getD i 0)
theorem scl_bd (b s y : Int) : -2147483648 ≤ scl b s y ∧ scl b s y ≤ 2147483647 := near_in _ _ _ (by decide)
theorem join1_wf (b s x y : Int) : (Lit.int .i32 (join1 b s x y)).wf = true := wrap32_wf _
theorem joinL_wf (b s : Int) (xs ys : List Int) (n : Nat) : ∀ c ∈ joinL b s xs ys n, (Lit.int .i32 c).wf = true := by
  intro c hc
  obtain ⟨i, _, rfl⟩ := List.mem_map.1 hc
  exact join1_wf _ _ _ _

theorem join_no (xa ya : Option Addr) (n m xcap ycap : Nat) (b s : Int) (h : n ≠ m) (hn : n ≤ 9223372036854775807) (hm : m ≤ 9223372036854775807) (w : World) :
    Calls Tryd.prog 80 #[.slice xa n xcap, .slice ya m ycap, .int .i32 b, .int .i64 s] w fun e w' => e = .returned (.tuple #[.slice none 0 0, .int .i64 30]) ∧ w = w' := by
  have h' : ((n : Int) != (m : Int)) = true := by simp; omega
  clear h
  go_enter Tryd.func80, Tryd.ntmps80
  go_wp2
  go_ret2
  exact ⟨rfl, rfl⟩

set_option maxHeartbeats 1000000 in
theorem join_yes (xa ya : Option Addr) (n xcap ycap : Nat) (b s : Int) (xs ys : List Int) (w : World) (hx : Elems .i32 w xa n xs) (hy : Elems .i32 w ya n ys) (hn : n ≤ 16777216) (b1 : -2147483648 ≤ b) (b2 : b ≤ 2147483647) :
    Calls Tryd.prog 80 #[.slice xa n xcap, .slice ya n ycap, .int .i32 b, .int .i64 s] w fun e w' => (∃ g, e = .returned (.tuple #[.slice (some ⟨g, 0, none⟩) n n, .int .i64 0]) ∧ Elems .i32 w' (some ⟨g, 0, none⟩) n (joinL b s xs ys n)) ∧ Below w.heap.size w w' := by
  have hmk := run_make_row' (P := Tryd.prog) 39 21 (.int .i32 0) 4 Tryd.underlying39 info_int32 rfl .i64 .i64 n (by omega) (by omega)
  have hne : ((n : Int) != (n : Int)) = false := by simp
  go_enter Tryd.func80, Tryd.ntmps80
  go_wp2
  go_loopw [22] (fun i wr => ∃ (k : Nat) (cs : List Int), k ≤ n ∧ i = .int .i64 k ∧ MineK .i32 wr w.heap.size 21 cs ∧ Below w.heap.size w wr ∧ Hid (FilledBy (fun i => join1 b s (xs.getD i 0) (ys.getD i 0)) n k cs)) (fun i _ => n - (intOf i).toNat)
  case atStart => exact ⟨0, List.replicate n 0, by omega, rfl, mine_made .i32 w 21 n rfl, (Below.refl _ _).alloc (Nat.le_refl _) _, Lib.hid (filledBy_start _ n)⟩
  case round =>
    clear hne
    obtain ⟨k, cs, hk, rfl, hmine, hbel, hfil⟩ := hrel
    by_cases hlt : k < n
    · obtain ⟨bx, ox, v, rfl, hc, hv, wv⟩ := (hx.below hbel).at_ hlt
      obtain ⟨bY, oY, u, rfl, hc2, hu, wu⟩ := (hy.below hbel).at_ hlt
      obtain ⟨v1, v2⟩ := wf32 wv
      obtain ⟨u1, u2⟩ := wf32 wu
      have hsz := hbel.size
      have hl := hfil.out.1
      have hst := Lib.hid (filledBy_step hfil.out hlt)
      simp only [hv.out, hu.out] at hst
      have hz := scl_bd b s u
      have hsc : ∀ w, Calls Tryd.prog 94 #[.int .i32 u, .int .i32 b, .int .i64 s] w fun e w' => e = .returned (.int .i32 (scl b s u)) ∧ w = w' := fun w => scale u b s u1 u2 b1 b2 w
      have hval : join1 b s v u = wsum [v, scl b s u] := by unfold join1 wsum; simp
      generalize scl b s u = z at hsc hz hval
      have hsu : ∀ (W : World) (g : Nat), W.cell? ⟨g, 0, none⟩ = some (.int .i32 v) → W.cell? ⟨g, 1, none⟩ = some (.int .i32 z) → Calls Tryd.prog 93 #[.slice (some ⟨g, 0, none⟩) 2 2] W fun e w' => e = .returned (.int .i32 (wsum [v, z])) ∧ W = w' := fun W g h0 h1 =>
        sum32 (some ⟨g, 0, none⟩) 2 2 [v, z] W (pair_elems h0 h1 wv (WalkArith.wf_i32 ⟨by omega, by omega⟩))
      rw [← hval] at hsu
      generalize join1 b s v u = y at hst hsu hval
      have hmA := hmine.alloc (.cells #[.int .i32 v, .int .i32 z] 21)
      have hold := hmA.cell (k := k) (by omega)
      have hf := hmA.frozen k
      have hnew := (hmine.set k y).alloc (.cells #[.int .i32 v, .int .i32 z] 21)
      have hbS := hbel.setCell (p := ⟨w.heap.size, k, none⟩) (Nat.le_refl _) (.int .i32 y)
      have hbel' := (hbS.alloc hbS.size (.cells #[.int .i32 v, .int .i32 z] 21)).drew
      have hbx : bx < w.heap.size := hx.blk _ rfl (by omega)
      have hby : bY < w.heap.size := hy.blk _ rfl (by omega)
      have hk1 : ((wr.setCell ⟨w.heap.size, k, none⟩ (.int .i32 y)).alloc (.cells #[.int .i32 v, .int .i32 z] 21)).drew.cell? ⟨bx, ox + k, none⟩ = some (.int .i32 v) :=
        cell_alloc ((World.cell?_setCell_other wr ⟨w.heap.size, k, none⟩ ⟨bx, ox + k, none⟩ _ (by first | (simp; done) | (simp; omega))).trans hc) _
      have hk2 : ((wr.setCell ⟨w.heap.size, k, none⟩ (.int .i32 y)).alloc (.cells #[.int .i32 v, .int .i32 z] 21)).drew.cell? ⟨bY, oY + k, none⟩ = some (.int .i32 u) :=
        cell_alloc ((World.cell?_setCell_other wr ⟨w.heap.size, k, none⟩ ⟨bY, oY + k, none⟩ _ (by first | (simp; done) | (simp; omega))).trans hc2) _
      have hlt0 := hmine.lt
      generalize cs.getD k 0 = c at hold
      clear hv hu hl hfil hval hmine hbel hmk hbS hbx hby
      go_wp2_with fail
      go_region_held3 (fun w' => w'.cell? ⟨bx, ox + k, none⟩ = some (.int .i32 v) ∧ w'.cell? ⟨bY, oY + k, none⟩ = some (.int .i32 u))
        (first | go_keep | (go_split_ands; refine ⟨?_, ?_⟩ <;> assumption))
        (first
          | (go_at_call 94; (with_reducible refine (hsc _).mono ?_); rintro e w' ⟨rfl, rfl⟩)
          | (go_at_call 93; (refine (hsu _ _ (by simp) (by simp)).mono ?_); rintro e w' ⟨rfl, rfl⟩))
      clear hsc hsu hk1 hk2 hold hf
      go_wp2
      go_roundw
      case rel => exact ⟨k + 1, _, by omega, by go_num, hnew, hbel', hst⟩
      case measure => simp [intOf]; omega
    · obtain rfl : k = n := by omega
      have he := filledBy_range hfil.out
      have hE := hmine.elems (n := k) hfil.out.1 (by omega) (by rw [he]; exact joinL_wf b s xs ys k)
      rw [he] at hE
      have HE := Lib.hid (show Elems .i32 wr (some ⟨w.heap.size, 0, none⟩) k (joinL b s xs ys k) from hE)
      clear he hE hmine hfil hx hy
      go_wp2
      go_ret2
      exact ⟨⟨_, rfl, HE.out⟩, hbel⟩

end Go.Proofs.YtdclfcfdadkmeaaDoor

/-
  Contracts of row, down and turned: the cosine and the sine of a pair's angle; a pair of numbers, turned by a row; what was in memory stays.
-/
namespace Go.Proofs.YtdclfcfdadkmeaaDoor
open Go.RowKit
set_option linter.unusedVariables false

theorem row_any (place pair : Int) (h1 : -9223372036854775808 ≤ pair) (h2 : pair ≤ 9223372036854775807) (w : World) (hT : STab w) :
    Calls Tryd.prog 96 #[.int .i64 place, .int .i64 pair] w fun e w' => e = .returned (.agg #[.int .i32 (cosi (ang place pair)), .int .i32 (sine (ang place pair))]) ∧ Below w.heap.size w w' := by
  have ha := angle_any place pair h1 h2
  have hb := ang_bd place pair
  generalize ang place pair = x at ha hb ⊢
  have hc := cos_any x
  have hs := sin_any x (by omega) (by omega)
  have c0 := cosi_bd x
  have s0 := sine_bd x
  generalize cosi x = c at hc c0 ⊢
  generalize sine x = s at hs s0 ⊢
  have hT1 := hT.below ((Below.refl _ _).alloc (Nat.le_refl _) (.cells #[.int .i32 0, .int .i32 0] 169))
  have B0 := (Below.refl w.heap.size w).alloc (Nat.le_refl _) (.cells #[.int .i32 0, .int .i32 0] 169)
  clear hT
  go_enter Tryd.func96, Tryd.ntmps96
  go_wp2_with fail
  refine (ha _).mono ?_
  rintro e w' ⟨rfl, rfl⟩
  go_wp2_with fail
  refine (hc _ hT1).mono ?_
  rintro e w' ⟨rfl, d, rfl⟩
  go_wp2_with fail
  refine (hs _ (hT1.drewN d)).mono ?_
  rintro e w' ⟨rfl, d2, rfl⟩
  go_wp2
  exact bodyPost_ret (v := .agg #[.int .i32 c, .int .i32 s]) (by simp [results, Tryd.results96, go_sem]) rfl ⟨rfl, ((below_drewN B0 _).setCell (p := ⟨w.heap.size, 0, none⟩) (Nat.le_refl _) _).setCell (p := ⟨w.heap.size, 1, none⟩) (Nat.le_refl _) _⟩

theorem down_any (x : Int) (h1 : -2147483648 ≤ x) (h2 : x ≤ 2147483647) (w : World) :
    Calls Tryd.prog 105 #[.int .i32 x] w fun e w' => e = .returned (.int .i8 (near (shr x 14) (-128) 127)) ∧ w = w' := by
  have hs := shift x 14 (by omega) (by omega)
  have h8 := sat8 (shr x 14)
  generalize shr x 14 = y at hs h8 ⊢
  go_enter Tryd.func105, Tryd.ntmps105
  go_wp2_with fail
  refine (hs _).mono ?_
  rintro e w' ⟨rfl, rfl⟩
  go_wp2_with fail
  refine (h8 _).mono ?_
  rintro e w' ⟨rfl, rfl⟩
  go_wp2
  go_ret
  exact ⟨rfl, rfl⟩

/-- the first and the second number of a pair, turned -/
def tx (c s x y : Int) : Int := near (shr (x * c - y * s) 14) (-128) 127
def ty (c s x y : Int) : Int := near (shr (x * s + y * c) 14) (-128) 127
theorem tx_wf (c s x y : Int) : (Lit.int .i8 (tx c s x y)).wf = true := WalkArith.wf_i8 (near_in _ _ _ (by decide))
theorem ty_wf (c s x y : Int) : (Lit.int .i8 (ty c s x y)).wf = true := WalkArith.wf_i8 (near_in _ _ _ (by decide))
theorem mul_bd6 (x c : Int) (x1 : -128 ≤ x) (x2 : x ≤ 127) (c1 : -16384 ≤ c) (c2 : c ≤ 16384) : -2097152 ≤ x * c ∧ x * c ≤ 2097152 := by
  have h : (x * c).natAbs ≤ 128 * 16384 := by rw [Int.natAbs_mul]; exact Nat.mul_le_mul (by omega) (by omega)
  omega

theorem turned_any (c s x y : Int) (c1 : -16384 ≤ c) (c2 : c ≤ 16384) (s1 : -16384 ≤ s) (s2 : s ≤ 16384) (x1 : -128 ≤ x) (x2 : x ≤ 127) (y1 : -128 ≤ y) (y2 : y ≤ 127) (w : World) :
    Calls Tryd.prog 95 #[.agg #[.int .i32 c, .int .i32 s], .int .i8 x, .int .i8 y] w fun e w' => e = .returned (.tuple #[.int .i8 (tx c s x y), .int .i8 (ty c s x y)]) ∧ Below w.heap.size w w' := by
  have B0 := (Below.refl w.heap.size w).alloc (Nat.le_refl _) (.cells #[.int .i32 c, .int .i32 s] 169)
  have m1 := mul_bd6 x c x1 x2 c1 c2
  have m2 := mul_bd6 y s y1 y2 s1 s2
  have m3 := mul_bd6 x s x1 x2 s1 s2
  have m4 := mul_bd6 y c y1 y2 c1 c2
  have d1 := down_any (x * c - y * s) (by omega) (by omega)
  have d2 := down_any (x * s + y * c) (by omega) (by omega)
  have e1 : tx c s x y = near (shr (x * c - y * s) 14) (-128) 127 := rfl
  have e2 : ty c s x y = near (shr (x * s + y * c) 14) (-128) 127 := rfl
  rw [← e1] at d1
  rw [← e2] at d2
  generalize tx c s x y = u at d1 ⊢
  generalize ty c s x y = v at d2 ⊢
  clear e1 e2
  go_enter Tryd.func95, Tryd.ntmps95
  go_wp2
  go_quiet (fail)
  go_wp2_with fail
  refine (d1 _).mono ?_
  rintro e w' ⟨rfl, rfl⟩
  go_wp2_with fail
  refine (d2 _).mono ?_
  rintro e w' ⟨rfl, rfl⟩
  go_wp2
  go_ret2
  exact ⟨rfl, below_drewN B0 _⟩

end Go.Proofs.YtdclfcfdadkmeaaDoor

/-
  Contracts of within, Right and handy, of any slice of sides or of grids, and of the document's Right and Fit.
-/
namespace Go.Proofs.YtdclfcfdadkmeaaDoor
open Go.RowKit
set_option linter.unusedVariables false


/-- are all of them right? -/
def rightAll (gs : List Gr) : Bool := gs.all fun g => rightB g.r g.c g.n

theorem all_step {α : Type} [Inhabited α] (p : α → Bool) (gs : List α) (k : Nat) (hk : k < gs.length) (g : α) (hg : gs.getD k default = g) (ht : (gs.take k).all p = true) :
    (gs.take (k + 1)).all p = p g ∧ (p g = false → gs.all p = false) := by
  have h1 : (gs.take (k + 1)).all p = p g := by
    rw [List.take_add_one, List.all_append, ht, Bool.true_and, ← hg]
    simp [List.getD, List.getElem?_eq_getElem hk]
  refine ⟨h1, fun e => ?_⟩
  rw [e] at h1
  rw [← Bool.not_eq_true] at h1 ⊢
  intro h3
  apply h1
  rw [List.all_eq_true] at h3 ⊢
  exact fun x hx => h3 x (List.mem_of_mem_take hx)

theorem two_elems {w : World} {T : TypeId} {b : Nat} {p q : Int} (hb : b = w.heap.size) (hp : -9223372036854775808 ≤ p ∧ p ≤ 9223372036854775807) (hq : -9223372036854775808 ≤ q ∧ q ≤ 9223372036854775807) :
    Elems .i64 (w.alloc (.cells #[.int .i64 p, .int .i64 q] T)) (some ⟨b, 0, none⟩) 2 [p, q] := by
  subst hb
  exact pair_elems (by simp) (by simp) (WalkArith.wf_i64 hp) (WalkArith.wf_i64 hq)
theorem two_sides (p q : Int) : [p, q].all sideB = (sideB p && sideB q) := by simp



/-- are all of them right, and not too large? -/
def fitAll (gs : List Gr) : Bool := gs.all fun g => fitB g.r g.c g.n



/-! ### the document's -/




end Go.Proofs.YtdclfcfdadkmeaaDoor

/-
  Contracts of line (a row of a right grid, where it lies), inside, and the document's Cell.
-/
namespace Go.Proofs.YtdclfcfdadkmeaaDoor
open Go.RowKit
set_option linter.unusedVariables false

/-- where row i of a grid of C columns at a lies -/
theorem rowOf_elems {w : World} {b off R C i : Nat} {xs : List Int} (h : Elems .i32 w (some ⟨b, off, none⟩) (R * C) xs) (hi : i < R) : Elems .i32 w (some ⟨b, off + i * C, none⟩) C (rowOf xs C i) := by
  have hl := row_le (C := C) hi
  have := (h.drop (i * C) (by omega)).take C (by omega)
  exact this






end Go.Proofs.YtdclfcfdadkmeaaDoor

/-
  Steps of sums: one group more; one number more of a list that is turned.
-/
namespace Go.Proofs.YtdclfcfdadkmeaaDoor
open Go.RowKit
set_option linter.unusedVariables false

/-- one group more -/
theorem groups_step {ss xs : List Int} {k : Nat} (h : wrap32 ss.sum = wrap32 (xs.take k).sum) (hw : ∀ s ∈ ss, (Lit.int .i32 s).wf = true) (m : Nat) :
    wrap32 (ss ++ [wsum ((xs.drop k).take m)]).sum = wrap32 (xs.take (k + m)).sum ∧ ∀ s ∈ ss ++ [wsum ((xs.drop k).take m)], (Lit.int .i32 s).wf = true := by
  refine ⟨?_, ?_⟩
  · rw [sum_cut, List.sum_append, ← wrap32_add, h, wrap32_add]
    simp only [List.sum_cons, List.sum_nil, Int.add_zero, wsum]
    rw [Int.add_comm, wrap32_add, Int.add_comm]
  · intro s hs
    rcases List.mem_append.1 hs with h1 | h1
    · exact hw s h1
    · simp only [List.mem_singleton] at h1; subst h1; exact wsum_wf _

/-- one number more of a list that is turned by kk places and read from its end -/
theorem turn_step {os xs : List Int} {n kk j p : Nat} {u : Int} (h : os.sum = ((xs.drop kk ++ xs.take kk).drop j).sum) (hw : ∀ s ∈ os, (Lit.int .i32 s).wf = true) (hl : xs.length = n) (hk : kk < n) (hj : 0 < j) (hjn : j ≤ n)
    (hp : ((j : Int) - 1 + (kk : Int)) % (n : Int) = (p : Int)) (hu : xs.getD p 0 = u) (wu : (Lit.int .i32 u).wf = true) :
    (os ++ [u]).sum = ((xs.drop kk ++ xs.take kk).drop (j - 1)).sum ∧ ∀ s ∈ os ++ [u], (Lit.int .i32 s).wf = true := by
  have hlen : (xs.drop kk ++ xs.take kk).length = n := by rw [List.length_append, List.length_drop, List.length_take]; omega
  refine ⟨?_, ?_⟩
  · rw [List.drop_eq_getElem_cons (i := j - 1) (by rw [hlen]; omega), show j - 1 + 1 = j by omega, List.sum_cons, List.sum_append, h]
    have e : (xs.drop kk ++ xs.take kk)[j - 1]'(by rw [hlen]; omega) = u := by
      rw [← hu, List.getD_eq_getElem?_getD]
      have hpn : (p : Int) = ((j - 1 + kk) % n : Nat) := by rw [← hp, Int.natCast_emod]; congr 1; omega
      have hpn' : p = (j - 1 + kk) % n := by omega
      rcases Nat.lt_or_ge (j - 1 + kk) n with hlt | hge
      · rw [Nat.mod_eq_of_lt hlt] at hpn'
        rw [List.getElem_append_left (by rw [List.length_drop]; omega), List.getElem_drop, List.getElem?_eq_getElem (by omega), Option.getD_some]
        congr 1; omega
      · rw [Nat.mod_eq_sub_mod hge, Nat.mod_eq_of_lt (by omega)] at hpn'
        rw [List.getElem_append_right (by rw [List.length_drop]; omega), List.getElem_take, List.getElem?_eq_getElem (by omega), Option.getD_some]
        congr 1; rw [List.length_drop]; omega
    rw [e, List.sum_cons, List.sum_nil]; omega
  · intro s hs
    rcases List.mem_append.1 hs with h1 | h1
    · exact hw s h1
    · simp only [List.mem_singleton] at h1; subst h1; exact wu

end Go.Proofs.YtdclfcfdadkmeaaDoor

/-
  Contracts of Dot and of the document's Dot: for every two rows of 8 bits each returns the sum of the products as far as both go, wrapped to 32 bits.
-/
namespace Go.Proofs.YtdclfcfdadkmeaaDoor
open Go.RowKit
set_option linter.unusedVariables false

/-- the products, as far as both rows go -/
def prods (xs ys : List Int) : List Int := List.zipWith (· * ·) xs ys

theorem prods_len (xs ys : List Int) : (prods xs ys).length = min xs.length ys.length := by simp [prods]
theorem prods_at (xs ys : List Int) (k : Nat) (hx : k < xs.length) (hy : k < ys.length) : (prods xs ys).getD k 0 = xs.getD k 0 * ys.getD k 0 := by
  simp [prods, List.getD, List.getElem?_eq_getElem hx, List.getElem?_eq_getElem hy, List.getElem?_zipWith]

theorem prods_comm (xs ys : List Int) : prods xs ys = prods ys xs := by
  unfold prods
  rw [List.zipWith_comm]
  congr 1
  funext a b
  exact Int.mul_comm _ _
theorem pieces {xs ys : List Int} {l m n k : Nat} (hx : xs.length = l) (hy : ys.length = m) (hn : n = min l m) (hk : k ≤ n) :
    wrap32 (wsum (prods (xs.take k) (ys.take k)) + wsum (prods ((xs.drop k).take (n - k)) ((ys.drop k).take (n - k)))) = wsum (prods xs ys) := by
  unfold wsum
  rw [wrap32_add2, sum_rest (prods xs ys) k]
  have e1 : prods (xs.take k) (ys.take k) = (prods xs ys).take k := by unfold prods; rw [List.take_zipWith]
  have e2 : prods ((xs.drop k).take (n - k)) ((ys.drop k).take (n - k)) = (prods xs ys).drop k := by
    unfold prods
    rw [List.drop_zipWith, ← List.take_zipWith, List.take_of_length_le]
    rw [List.length_zipWith, List.length_drop, List.length_drop]; omega
  rw [e1, e2]

theorem prod8 (x y : Int) (hx : -128 ≤ x ∧ x ≤ 127) (hy : -128 ≤ y ∧ y ≤ 127) : -16384 ≤ x * y ∧ x * y ≤ 16384 := by
  have ha : (x * y).natAbs ≤ 128 * 128 := by
    rw [Int.natAbs_mul]
    exact Nat.mul_le_mul (by omega) (by omega)
  omega

theorem prods_wf {w w' : World} {a b : Option Addr} {n m : Nat} {xs ys : List Int} (hX : Elems .i8 w a n xs) (hY : Elems .i8 w' b m ys) : ∀ c ∈ prods xs ys, (Lit.int .i64 c).wf = true := by
  intro c hc
  obtain ⟨i, hi, rfl⟩ := List.mem_iff_getElem.1 hc
  have hl := prods_len xs ys
  have h1 := wf8 (hX.2.2.1 _ (getD_mem (i := i) (by omega)))
  have h2 := wf8 (hY.2.2.1 _ (getD_mem (i := i) (by omega)))
  have h3 := prods_at xs ys i (by omega) (by omega)
  rw [List.getD_eq_getElem?_getD, List.getElem?_eq_getElem hi] at h3
  simp only [Option.getD_some] at h3
  rw [h3]
  have := prod8 _ _ h1 h2
  exact WalkArith.wf_i64 (by omega)

set_option maxHeartbeats 400000 in
theorem dot (a : Option Addr) (n cap : Nat) (xs : List Int) (b : Option Addr) (m cap' : Nat) (ys : List Int) (w : World) (hX : Elems .i8 w a n xs) (hY : Elems .i8 w b m ys) :
    Calls Tryd.prog 83 #[.slice a n cap, .slice b m cap'] w fun e w' => e = .returned (.int .i32 (wsum (prods xs ys))) ∧ ∃ d, w' = w.drewN d := by
  have hn := hX.2.1
  have hm := hY.2.1
  by_cases hmn : (m : Int) < (n : Int)
  all_goals
    go_enter Tryd.func83, Tryd.ntmps83
    go_wp2
    go_loopw [5, 12] (fun s i wr => ∃ (k : Nat) (t : Int) (d : Nat), k ≤ n ∧ k ≤ m ∧ i = .int .i64 k ∧ s = .int .i32 t ∧ Hid (t = wrap32 ((prods xs ys).take k).sum) ∧ wr = w.drewN d) (fun _ i _ => min n m - (intOf i).toNat)
    case atStart => exact ⟨0, 0, 0, by omega, by omega, rfl, rfl, Lib.hid (by simp [wrap32]), rfl⟩
    case round =>
      obtain ⟨k, t, d, hk1, hk2, rfl, rfl, ht, rfl⟩ := hrel
      by_cases hlt : k < n ∧ k < m
      · obtain ⟨g, off, v, rfl, hc, hv, wv⟩ := hX.at_ hlt.1
        obtain ⟨g', off', u, rfl, hc', hu, wu⟩ := hY.at_ hlt.2
        have v0 := wf8 wv
        have u0 := wf8 wu
        obtain ⟨p1, p2⟩ := prod8 v u v0 u0
        have T : Hid (wrap32 (t + v * u) = wrap32 ((prods xs ys).take (k + 1)).sum) := Lib.hid (by
          have h1 := hX.1
          have h2 := hY.1
          rw [sum_step _ k (by rw [prods_len]; omega), prods_at xs ys k (by omega) (by omega), hv.out, hu.out, ht.out, wrap32_add])
        obtain ⟨t', ht'⟩ : ∃ t', wrap32 (t + v * u) = t' := ⟨_, rfl⟩
        rw [ht'] at T
        have e1 : IntKind.i32.wrap v = v := IntWalk.i32_in _ (by omega)
        have e2 : IntKind.i32.wrap u = u := IntWalk.i32_in _ (by omega)
        have e3 : IntKind.i32.wrap (v * u) = v * u := IntWalk.i32_in _ (by omega)
        obtain ⟨v1, v2⟩ := v0
        obtain ⟨u1, u2⟩ := u0
        obtain ⟨l1, l2⟩ := hlt
        have l1' : (k : Int) < (n : Int) := by omega
        have l2' : (k : Int) < (m : Int) := by omega
        clear ht hv wv hu wu hX hY
        go_wp2
        go_quiet (fail)
        go_wp2
        go_roundw
        case rel => exact ⟨k + 1, t', _, by omega, by omega, by go_num, by rw [ht'], T, rfl⟩
        case measure => simp [intOf]; omega
      · have h1 := hX.1
        have h2 := hY.1
        clear hX hY
        go_wp2
        go_ret
        exact ⟨ret_int (by rw [ht.out, sum_all _ k (by rw [prods_len]; omega)]; rfl), _, rfl⟩


end Go.Proofs.YtdclfcfdadkmeaaDoor

/-
  Contract of the document's Mix: the same row as layer 5's, in new memory; or none.
-/
namespace Go.Proofs.YtdclfcfdadkmeaaDoor
open Go.RowKit
set_option linter.unusedVariables false

theorem row_mem {k : IntKind} {w : World} {a : Option Addr} {n : Nat} {qs : List Rw} (h : Rws k w a n qs) {i : Nat} (hi : i < n) : qs.getD i default ∈ qs := by
  rw [List.getD_eq_getElem?_getD, List.getElem?_eq_getElem (by rw [h.1]; exact hi)]
  exact List.getElem_mem _





theorem rws_none {k : IntKind} {w : World} {a : Option Addr} {qs : List Rw} (h : Rws k w a 0 qs) : qs = [] := List.length_eq_zero_iff.1 h.1
/-- a row, of no rows too -/
theorem mix_yes (wa a : Option Addr) (n wcap cap m : Nat) (ws : List Int) (qs : List Rw) (w : World) (hw : Elems .i32 w wa n ws) (h : Rws .i8 w a n qs) (hn : n ≤ 200) (hs : sameW qs = true) (hm : (qs.getD 0 default).n = m) (hm2 : m ≤ 1000) :
    Calls Tryd.prog 84 #[.slice wa n wcap, .slice a n cap] w fun e w' => (∃ b c, e = .returned (.tuple #[.slice b m c, .int .i64 0]) ∧ Elems .i8 w' b m (mixL ws qs n m)) ∧ Below w.heap.size w w' := by
  by_cases h0 : n = 0
  · subst h0
    obtain rfl := rws_none h
    obtain rfl : m = 0 := hm.symm
    exact (mix_none wa a wcap cap w).mono (by rintro e w' ⟨rfl, rfl⟩; exact ⟨⟨none, 0, rfl, Elems.nil_ _ _ _⟩, Below.refl _ _⟩)
  · exact (mix_some wa a n wcap cap m ws qs w hw h (by omega) hn hs hm hm2).mono (by rintro e w' ⟨⟨g, rfl, hE⟩, hb⟩; exact ⟨⟨_, _, rfl, hE⟩, hb⟩)

/-- four cells of a block -/
theorem four_cells {w wb : World} {p q r s : Value} {T : TypeId} {b : Nat} (hb : b = w.heap.size) (h : Below (w.alloc (.cells #[p, q, r, s] T)).heap.size (w.alloc (.cells #[p, q, r, s] T)) wb) :
    wb.cell? ⟨b, 0, none⟩ = some p ∧ wb.cell? ⟨b, 1, none⟩ = some q ∧ wb.cell? ⟨b, 2, none⟩ = some r ∧ wb.cell? ⟨b, 3, none⟩ = some s := by
  subst hb
  exact ⟨cell_keep (by simp) h, cell_keep (by simp) h, cell_keep (by simp) h, cell_keep (by simp) h⟩

end Go.Proofs.YtdclfcfdadkmeaaDoor

/-
  Plain mathematics of shares: together never more than the total, and less by fewer than how many weights are above 0.
-/
namespace Go.Proofs.YtdclfcfdadkmeaaDoor
open Go.RowKit
set_option linter.unusedVariables false

/-- how many weights are above 0 -/
def scnt (xs : List Int) : Int := (xs.map fun x => if 0 < x then 1 else 0).sum
/-- the shares' sum -/
def ssum (t S : Int) (xs : List Int) : Int := (xs.map (share t S)).sum

theorem cnt_cons (x : Int) (xs : List Int) : scnt (x :: xs) = (if 0 < x then 1 else 0) + scnt xs := by simp [scnt]
theorem ssum_cons (t S x : Int) (xs : List Int) : ssum t S (x :: xs) = share t S x + ssum t S xs := by simp [ssum]
theorem tot_cons (x : Int) (xs : List Int) : stot (x :: xs) = pos x + stot xs := by simp [stot]
theorem cnt_step (xs : List Int) (k : Nat) (hk : k < xs.length) : scnt (xs.take (k + 1)) = scnt (xs.take k) + (if 0 < xs.getD k 0 then 1 else 0) := by
  unfold scnt
  rw [List.take_add_one, List.map_append, List.sum_append]
  simp [List.getD, List.getElem?_eq_getElem hk]
theorem ssum_step (t S : Int) (xs : List Int) (k : Nat) (hk : k < xs.length) : ssum t S (xs.take (k + 1)) = ssum t S (xs.take k) + share t S (xs.getD k 0) := by
  unfold ssum
  rw [List.take_add_one, List.map_append, List.sum_append]
  simp [List.getD, List.getElem?_eq_getElem hk]
theorem cnt_bd (xs : List Int) : 0 ≤ scnt xs ∧ scnt xs ≤ xs.length := by
  induction xs with
  | nil => simp [scnt]
  | cons x xs ih => rw [cnt_cons, List.length_cons]; push_cast; split <;> omega
theorem cnt_none {xs : List Int} (h : scnt xs = 0) : stot xs = 0 := by
  induction xs with
  | nil => rfl
  | cons x xs ih =>
    have hb := cnt_bd xs
    rw [cnt_cons] at h
    rw [tot_cons]
    split at h
    · omega
    · rename_i hx
      have e : pos x = 0 := by unfold pos; rw [if_neg hx]
      rw [e, ih (by omega)]; rfl
theorem cnt_some {xs : List Int} (hx : ∀ x ∈ xs, x ≤ 2147483647) (h : 0 < scnt xs) : 0 < stot xs := by
  induction xs with
  | nil => simp [scnt] at h
  | cons x xs ih =>
    have hb := tot_bd xs (fun y hy => hx y (List.mem_cons_of_mem _ hy))
    have hp := pos_bd x (hx x List.mem_cons_self)
    rw [cnt_cons] at h
    rw [tot_cons]
    split at h
    · rename_i h0
      have e : pos x = x := by unfold pos; rw [if_pos h0]
      omega
    · have := ih (fun y hy => hx y (List.mem_cons_of_mem _ hy)) (by omega); omega
theorem ssum_zero {t S : Int} (h : S = 0 ∨ t < 0 ∨ t = 0) (xs : List Int) : ssum t S xs = 0 := by
  induction xs with
  | nil => rfl
  | cons x xs ih =>
    rw [ssum_cons, ih]
    unfold share
    split
    · rfl
    · rename_i hn
      have : t = 0 := by omega
      rw [this, Int.mul_zero, Int.zero_ediv]; rfl

theorem parts_bd {t S : Int} (hS : 0 < S) (ht : 0 ≤ t) (xs : List Int) : S * ssum t S xs ≤ stot xs * t ∧ stot xs * t ≤ S * ssum t S xs + (S - 1) * scnt xs := by
  induction xs with
  | nil => simp [ssum, stot, scnt]
  | cons x xs ih =>
    rw [ssum_cons, tot_cons, cnt_cons, Int.mul_add, Int.add_mul, Int.mul_add]
    have e : share t S x = pos x * t / S := by unfold share; rw [if_neg (by omega)]
    rw [e]
    have h1 := Int.emod_add_mul_ediv (pos x * t) S
    have h2 := Int.emod_nonneg (pos x * t) (b := S) (by omega)
    have h3 := Int.emod_lt_of_pos (pos x * t) hS
    by_cases h0 : 0 < x
    · rw [if_pos h0, Int.mul_one]; omega
    · have ep : pos x = 0 := by unfold pos; rw [if_neg h0]
      rw [if_neg h0, Int.mul_zero, ep, Int.zero_mul, Int.zero_ediv, Int.mul_zero]; omega

theorem whole {t : Int} {xs : List Int} (hx : ∀ x ∈ xs, x ≤ 2147483647) (ht : 0 < t) (hc : 0 < scnt xs) : ssum t (stot xs) xs ≤ t ∧ t - ssum t (stot xs) xs < scnt xs := by
  have hS := cnt_some hx hc
  have h := parts_bd (t := t) hS (by omega) xs
  generalize stot xs = S at *
  generalize ssum t S xs = A at *
  generalize scnt xs = C at *
  constructor
  · exact Int.le_of_mul_le_mul_left h.1 hS
  · rcases Int.lt_or_le (t - A) C with h1 | h1
    · exact h1
    · exfalso
      have h2 : S * C ≤ S * (t - A) := Int.mul_le_mul_of_nonneg_left h1 (by omega)
      rw [Int.mul_sub] at h2
      rw [Int.sub_mul, Int.one_mul] at h
      omega
theorem share_bd2 {t x : Int} {xs : List Int} (hx : ∀ x ∈ xs, x ≤ 2147483647) (hm : x ∈ xs) (ht2 : t ≤ 2147483647) : 0 ≤ share t (stot xs) x ∧ share t (stot xs) x ≤ 2147483647 := by
  have h := wf32 (share_wf hx ht2 (share t (stot xs) x) (List.mem_map.2 ⟨x, hm, rfl⟩))
  refine ⟨?_, h.2⟩
  have h1 := pos_bd x (hx x hm)
  unfold share
  split
  · omega
  · rename_i hn
    have := tot_bd xs hx
    exact Int.ediv_nonneg (Int.mul_nonneg h1.1 (by omega)) (by omega)
theorem share_none {t S x : Int} (h : ¬ 0 < x) : share t S x = 0 := by
  unfold share
  split
  · rfl
  · have e : pos x = 0 := by unfold pos; rw [if_neg h]
    rw [e, Int.zero_mul, Int.zero_ediv]

end Go.Proofs.YtdclfcfdadkmeaaDoor

/-
  Plain mathematics of layer 2: E never falls as x rises; the whole roots of a square and of the number below it.
-/
namespace Go.Proofs.YtdclfcfdadkmeaaDoor
open Go.RowKit
set_option linter.unusedVariables false

theorem btw_falls (f g : Int) (h0 : 0 ≤ f) (h : f ≤ g) (h1 : g < 65536) : btw g ≤ btw f := by
  have bf := btw_bd f h0 (by omega)
  have bg := btw_bd g (by omega) h1
  rcases Int.lt_or_eq_of_le (show f / 2048 ≤ g / 2048 by omega) with hlt | heq
  · have := tab_mono (g / 2048).toNat (by omega) ((f / 2048).toNat + 1) (by omega)
    omega
  · have hD := tab_falls (f / 2048).toNat (by omega)
    have hr : f % 2048 ≤ g % 2048 := by omega
    have hm : (ptab.getD (f / 2048).toNat 0 - ptab.getD ((f / 2048).toNat + 1) 0) * (f % 2048) ≤ (ptab.getD (f / 2048).toNat 0 - ptab.getD ((f / 2048).toNat + 1) 0) * (g % 2048) :=
      Int.mul_le_mul_of_nonneg_left hr (by omega)
    have := half_mono _ _ 2048 (by decide) hm
    unfold btw
    rw [← heq]
    omega

theorem shr_steps : ∀ q, q < 32 → shr 65536 (((q + 1 : Nat)) : Int) = shr 32768 ((q : Nat) : Int) := by decide +kernel
theorem shr_falls : ∀ b, b < 33 → ∀ a, a ≤ b → shr 65536 ((b : Nat) : Int) ≤ shr 65536 ((a : Nat) : Int) := by decide +kernel

theorem E_mono (x y : Int) (h : x ≤ y) : E x ≤ E y := by
  have bx := E_bd x
  have by_ := E_bd y
  by_cases c0 : 0 < y
  · have : E y = 65536 := by unfold E; rw [if_pos c0]
    omega
  · by_cases c1 : x ≤ -1453643
    · have : E x = 0 := by unfold E; rw [if_neg (by omega), if_pos c1]
      omega
    · have ex : E x = shr (btw (-x * 94548 / 65536 % 65536)) (-x * 94548 / 65536 / 65536) := by unfold E; rw [if_neg (by omega), if_neg c1]
      have ey : E y = shr (btw (-y * 94548 / 65536 % 65536)) (-y * 94548 / 65536 / 65536) := by unfold E; rw [if_neg c0, if_neg (by omega)]
      rw [ex, ey]
      clear ex ey bx by_
      have hst : -y * 94548 / 65536 ≤ -x * 94548 / 65536 := by omega
      have hs0 : 0 ≤ -y * 94548 / 65536 := by omega
      have ht1 : -x * 94548 / 65536 < 2097152 := by omega
      generalize -x * 94548 / 65536 = t at *
      generalize -y * 94548 / 65536 = s at *
      have bt := btw_bd (t % 65536) (by omega) (by omega)
      have bs := btw_bd (s % 65536) (by omega) (by omega)
      rcases Int.lt_or_eq_of_le (show s / 65536 ≤ t / 65536 by omega) with hlt | heq
      · obtain ⟨a, ha⟩ : ∃ a : Nat, s / 65536 = (a : Int) := ⟨(s / 65536).toNat, by omega⟩
        obtain ⟨b, hb⟩ : ∃ b : Nat, t / 65536 = (b : Int) := ⟨(t / 65536).toNat, by omega⟩
        rw [ha, hb]
        rw [ha, hb] at hlt
        have h1 : shr (btw (t % 65536)) b ≤ shr 65536 b := shr_mono _ _ _ (by omega)
        have h2 : shr 65536 (b : Int) ≤ shr 65536 ((a + 1 : Nat) : Int) := shr_falls b (by omega) (a + 1) (by omega)
        have h3 := shr_steps a (by omega)
        have h4 : shr 32768 (a : Int) ≤ shr (btw (s % 65536)) a := shr_mono _ _ _ (by omega)
        omega
      · rw [heq]
        exact shr_mono _ _ _ (btw_falls _ _ (by omega) (by omega) (by omega))

theorem root_square (m : Int) (h : 0 ≤ m) : IsRoot (m * m) m := ⟨h, Int.le_refl _, by rw [Int.add_mul, Int.mul_add]; omega⟩
theorem root_below (m : Int) (h : 1 ≤ m) : IsRoot (m * m - 1) (m - 1) := by
  refine ⟨by omega, ?_, ?_⟩
  · rw [Int.sub_mul, Int.mul_sub]; omega
  · rw [Int.sub_add_cancel]; omega

end Go.Proofs.YtdclfcfdadkmeaaDoor

/-
  Plain mathematics of softmax weights: they keep the numbers' order, and together they come to the whole, less by fewer than how many they are; they depend on differences alone.
-/
namespace Go.Proofs.YtdclfcfdadkmeaaDoor
open Go.RowKit
set_option linter.unusedVariables false

theorem softmax_any (b s m : Int) (a : Option Addr) (n cap : Nat) (xs : List Int) (w : World) (h : Elems .i32 w a n xs) (hn : n ≤ 1000) (b1 : -2147483648 ≤ b) (b2 : b ≤ 2147483647) (hm : 0 < n → IsTop xs m) (hT : Tab w) :
    Calls Tryd.prog 85 #[.int .i32 b, .int .i64 s, .slice a n cap] w fun e w' => (∃ b' c, e = .returned (.slice b' n c) ∧ Elems .i32 w' b' n (soft b s m xs)) ∧ Below w.heap.size w w' := by
  by_cases h0 : n = 0
  · subst h0
    obtain rfl : xs = [] := List.length_eq_zero_iff.1 h.1
    exact (softmax_none b s a cap w).mono (by rintro e w' ⟨rfl, rfl⟩; exact ⟨⟨none, 0, rfl, Elems.nil_ _ _ _⟩, Below.refl _ _⟩)
  · exact (softmax_some b s m a n cap xs w h (by omega) hn b1 b2 (hm (by omega)) hT).mono (by rintro e w' ⟨⟨g, rfl, hE⟩, hb⟩; exact ⟨⟨_, _, rfl, hE⟩, hb⟩)

theorem pos_mono {x y : Int} (h : x ≤ y) : pos x ≤ pos y := by unfold pos; split <;> split <;> omega
theorem share_mono {t S x y : Int} (hS : 0 ≤ S) (h : x ≤ y) : share t S x ≤ share t S y := by
  unfold share
  split
  · exact Int.le_refl _
  · rename_i hn
    exact Int.ediv_le_ediv (by omega) (Int.mul_le_mul_of_nonneg_right (pos_mono h) (by omega))
theorem dif_mono {b n m x y : Int} (hb : 0 ≤ b) (h : x ≤ y) : dif b n m x ≤ dif b n m y := shr_mono _ _ _ (Int.mul_le_mul_of_nonneg_right (by omega) hb)

theorem soft_at (b s m : Int) (xs : List Int) {i : Nat} (hi : i < xs.length) : (soft b s m xs).getD i 0 = share 65536 (stot (pows b s m xs)) (E (dif b s m (xs.getD i 0))) := by
  simp [soft, pows, List.getD, List.getElem?_map, List.getElem?_eq_getElem hi]
theorem soft_length (b s m : Int) (xs : List Int) : (soft b s m xs).length = xs.length := by simp [soft, pows]
theorem soft_mono {b s m : Int} {xs : List Int} (hb : 0 ≤ b) {i k : Nat} (hi : i < xs.length) (hk : k < xs.length) (h : xs.getD k 0 ≤ xs.getD i 0) : (soft b s m xs).getD k 0 ≤ (soft b s m xs).getD i 0 := by
  rw [soft_at _ _ _ _ hi, soft_at _ _ _ _ hk]
  exact share_mono (tot_bd _ (pows_le b s m xs)).1 (E_mono _ _ (dif_mono hb h))
theorem soft_bd (b s m : Int) (xs : List Int) : ∀ p ∈ soft b s m xs, 0 ≤ p ∧ p ≤ 2147483647 := by
  intro p hp
  obtain ⟨x, hx, rfl⟩ := List.mem_map.1 hp
  exact share_bd2 (pows_le b s m xs) hx (by decide)
theorem cnt_pos {xs : List Int} {x : Int} (hx : x ∈ xs) (h : 0 < x) : 0 < scnt xs := by
  induction xs with
  | nil => cases hx
  | cons y ys ih =>
    have hb := cnt_bd ys
    rw [cnt_cons]
    rcases List.mem_cons.1 hx with rfl | hm
    · rw [if_pos h]; omega
    · have := ih hm; split <;> omega
theorem dif_top (b s m : Int) : dif b s m m = 0 := by
  unfold dif
  rw [Int.sub_self, Int.zero_mul]
  have h := shr_any 0 s 0 (by decide) (by decide) (by decide)
  omega
theorem soft_sum {b s m : Int} {xs : List Int} (hm : IsTop xs m) : (soft b s m xs).sum ≤ 65536 ∧ 65536 - (xs.length : Int) < (soft b s m xs).sum := by
  have hc : 0 < scnt (pows b s m xs) := cnt_pos (x := E (dif b s m m)) (List.mem_map.2 ⟨m, hm.1, rfl⟩) (by rw [dif_top]; decide +kernel)
  have h := whole (t := 65536) (pows_le b s m xs) (by decide) hc
  have h2 := cnt_bd (pows b s m xs)
  have h3 : (pows b s m xs).length = xs.length := by simp [pows]
  rw [h3] at h2
  have e : ssum 65536 (stot (pows b s m xs)) (pows b s m xs) = (soft b s m xs).sum := rfl
  rw [e] at h
  omega

/-- all numbers raised by one and the same -/
theorem soft_up (b s m up : Int) (xs : List Int) : soft b s (m + up) (xs.map (· + up)) = soft b s m xs := by
  have e : pows b s (m + up) (xs.map (· + up)) = pows b s m xs := by
    unfold pows
    rw [List.map_map]
    apply List.map_congr_left
    intro x _
    show E (dif b s (m + up) (x + up)) = _
    unfold dif
    rw [show x + up - (m + up) = x - m by omega]
  unfold soft
  rw [e]
theorem top_up {xs : List Int} {m : Int} (h : IsTop xs m) (up : Int) : IsTop (xs.map (· + up)) (m + up) := by
  refine ⟨List.mem_map.2 ⟨m, h.1, rfl⟩, fun y hy => ?_⟩
  obtain ⟨x, hx, rfl⟩ := List.mem_map.1 hy
  have := h.2 x hx
  show x + up ≤ m + up
  omega
theorem sum_le_len (xs : List Int) (h : ∀ x ∈ xs, 0 ≤ x ∧ x ≤ 2147483647) (k : Nat) : 0 ≤ (xs.take k).sum ∧ (xs.take k).sum ≤ k * 2147483647 := by
  induction xs generalizing k with
  | nil => simp; omega
  | cons x xs ih =>
    cases k with
    | zero => simp
    | succ k =>
      have h1 := ih (fun y hy => h y (List.mem_cons_of_mem _ hy)) k
      have h2 := h x List.mem_cons_self
      rw [List.take_succ_cons, List.sum_cons]; push_cast; omega

end Go.Proofs.YtdclfcfdadkmeaaDoor

/-
  A block that was just made, known whole, behind whatever left it alone.
-/
namespace Go.Proofs.YtdclfcfdadkmeaaDoor
open Go.RowKit
set_option linter.unusedVariables false

/-- block g holds the cells cs, none of them frozen -/
def Box (w : World) (g : Nat) (T : TypeId) (cs : Array Value) : Prop := w.heap[g]? = some (.cells cs T (0, 0))
section
variable {w w' : World} {g : Nat} {T : TypeId} {cs : Array Value}
theorem Box.lt (h : Box w g T cs) : g < w.heap.size := (Array.getElem?_eq_some_iff.1 h).1
theorem Box.cell (h : Box w g T cs) (o : Nat) : w.cell? ⟨g, o, none⟩ = cs[o]? := cell_of_row w g o cs T (0, 0) h
theorem Box.frozen (h : Box w g T cs) (o : Nat) : w.frozen? ⟨g, o, none⟩ = false := frozen_of_row w g o cs T h
theorem Box.kept (h : Box w g T cs) {row : Option Nat} (hg : w.grownBy w' row) (hne : some g ≠ row) : Box w' g T cs := (hg.block g h.lt hne).trans h
theorem Box.below {B : Nat} (h : Box w g T cs) (hb : Below B w w') (hg : g < B) : Box w' g T cs := (hb.block g hg).trans h
theorem Box.bel (h : Box w g T cs) (hb : Below w.heap.size w w') : Box w' g T cs := h.below hb h.lt
theorem Box.drewN (h : Box w g T cs) (d : Nat) : Box (w.drewN d) g T cs := h
theorem Box.alloc (h : Box w g T cs) (o : Obj) : Box (w.alloc o) g T cs := h.kept (World.grownBy_alloc w o none) (by simp)
theorem Box.set (h : Box w g T cs) (o : Nat) (v : Value) : Box (w.setCell ⟨g, o, none⟩ v) g T (cs.setIfInBounds o v) := heap_setCell_same w g o cs T v h
theorem Box.other (h : Box w g T cs) {g' o : Nat} (v : Value) (hne : g ≠ g') : Box (w.setCell ⟨g', o, none⟩ v) g T cs := (heap_setCell_other w ⟨g', o, none⟩ g v hne).trans h
end
theorem box_new (w : World) (T : TypeId) (cs : Array Value) : Box (w.alloc (.cells cs T)) w.heap.size T cs := heap_alloc_new w _
theorem box_at {w : World} {g : Nat} (hg : g = w.heap.size) (T : TypeId) (cs : Array Value) : Box (w.alloc (.cells cs T)) g T cs := by subst hg; exact box_new w T cs

/-- numbers that a literal laid, whatever marks its block has -/
theorem elems_mark {kd : IntKind} {w : World} {T : TypeId} {fr : Nat × Nat} (xs : List Int) {cs : Array Value} (hcs : cs = (xs.map (Value.int kd)).toArray) {b : Nat} (hb : b = w.heap.size) (hw : ∀ x ∈ xs, (Lit.int kd x).wf = true) (hl : xs.length ≤ 100) {n : Nat} (hn : xs.length = n) : Elems kd (w.alloc (.cells cs T fr)) (some ⟨b, 0, none⟩) n xs := by
  subst hcs hb hn
  refine ⟨rfl, by omega, hw, fun _ => ⟨w.heap.size, 0, rfl, fun i hi => ?_⟩⟩
  rw [Nat.zero_add, World.cell?_alloc_mark]
  simp [List.getD, hi]

/-- six cells stored anew -/
theorem Box.six {w : World} {g : Nat} {T : TypeId} {a0 a1 a2 a3 a4 a5 : Value} (h : Box w g T #[a0, a1, a2, a3, a4, a5]) (v0 v1 v2 v3 v4 v5 : Value) :
    Box ((((((w.setCell ⟨g, 0, none⟩ v0).setCell ⟨g, 1, none⟩ v1).setCell ⟨g, 2, none⟩ v2).setCell ⟨g, 3, none⟩ v3).setCell ⟨g, 4, none⟩ v4).setCell ⟨g, 5, none⟩ v5) g T #[v0, v1, v2, v3, v4, v5] := by
  have := (((((h.set 0 v0).set 1 v1).set 2 v2).set 3 v3).set 4 v4).set 5 v5
  simpa using this
theorem Box.drew {w : World} {g : Nat} {T : TypeId} {cs : Array Value} (h : Box w g T cs) : Box w.drew g T cs := h
/-- the cells of a block of six -/
theorem Box.cells6 {w : World} {g : Nat} {T : TypeId} {v0 v1 v2 v3 v4 v5 : Value} (h : Box w g T #[v0, v1, v2, v3, v4, v5]) :
    w.cell? ⟨g, 0, none⟩ = some v0 ∧ w.cell? ⟨g, 1, none⟩ = some v1 ∧ w.cell? ⟨g, 2, none⟩ = some v2 ∧ w.cell? ⟨g, 3, none⟩ = some v3 ∧ w.cell? ⟨g, 4, none⟩ = some v4 ∧ w.cell? ⟨g, 5, none⟩ = some v5 :=
  ⟨h.cell 0, h.cell 1, h.cell 2, h.cell 3, h.cell 4, h.cell 5⟩

end Go.Proofs.YtdclfcfdadkmeaaDoor

/-
  Cells of one block stored one behind the other: what of the block and of the world is so.
-/
namespace Go.Proofs.YtdclfcfdadkmeaaDoor
open Go.RowKit
set_option linter.unusedVariables false

/-- vs, stored from off on -/
def setN (w : World) (g : Nat) : Nat → List Value → World
  | _, [] => w
  | off, v :: vs => setN (w.setCell ⟨g, off, none⟩ v) g (off + 1) vs
def setL (cs : Array Value) : Nat → List Value → Array Value
  | _, [] => cs
  | off, v :: vs => setL (cs.setIfInBounds off v) (off + 1) vs

theorem box_setN {g : Nat} {T : TypeId} (vs : List Value) : ∀ (off : Nat) {w : World} {cs : Array Value}, Box w g T cs → Box (setN w g off vs) g T (setL cs off vs) := by
  induction vs with
  | nil => intro off w cs h; exact h
  | cons v vs ih => intro off w cs h; exact ih (off + 1) (h.set off v)
theorem setL_size (vs : List Value) : ∀ (off : Nat) (cs : Array Value), (setL cs off vs).size = cs.size := by
  induction vs with
  | nil => intro off cs; rfl
  | cons v vs ih => intro off cs; rw [setL, ih]; simp
theorem setL_before (vs : List Value) : ∀ (off : Nat) (cs : Array Value) (k : Nat), k < off → (setL cs off vs)[k]? = cs[k]? := by
  induction vs with
  | nil => intro off cs k _; rfl
  | cons v vs ih =>
    intro off cs k hk
    rw [setL, ih _ _ _ (by omega), Array.getElem?_setIfInBounds, if_neg (by omega)]
theorem setL_behind (vs : List Value) : ∀ (off : Nat) (cs : Array Value) (k : Nat), off + vs.length ≤ k → (setL cs off vs)[k]? = cs[k]? := by
  induction vs with
  | nil => intro off cs k _; rfl
  | cons v vs ih =>
    intro off cs k hk
    simp only [List.length_cons] at hk
    rw [setL, ih _ _ _ (by omega), Array.getElem?_setIfInBounds, if_neg (by omega)]
theorem setL_at (vs : List Value) : ∀ (off : Nat) (cs : Array Value) (k : Nat), k < vs.length → off + vs.length ≤ cs.size → (setL cs off vs)[off + k]? = vs[k]? := by
  induction vs with
  | nil => intro off cs k hk; simp at hk
  | cons v vs ih =>
    intro off cs k hk hs
    simp only [List.length_cons] at hk hs
    rw [setL]
    cases k with
    | zero =>
      rw [setL_before _ _ _ _ (by omega), Nat.add_zero, Array.getElem?_setIfInBounds, if_pos rfl, if_pos (by omega)]; rfl
    | succ k =>
      rw [show off + (k + 1) = off + 1 + k by omega, ih _ _ _ (by omega) (by simp; omega)]
      rfl
/-- a block stored anew, whole -/
theorem setL_all (cs : Array Value) (vs : List Value) (h : cs.size = vs.length) : setL cs 0 vs = vs.toArray := by
  apply Array.ext_getElem?
  intro k
  by_cases hk : k < vs.length
  · have := setL_at vs 0 cs k hk (by omega)
    rw [Nat.zero_add] at this
    rw [this]; simp
  · rw [Array.getElem?_eq_none (by rw [setL_size]; omega), Array.getElem?_eq_none (by simp; omega)]
theorem Box.whole {w : World} {g : Nat} {T : TypeId} {cs : Array Value} (h : Box w g T cs) (vs : List Value) (hl : cs.size = vs.length) : Box (setN w g 0 vs) g T vs.toArray := by
  rw [← setL_all cs vs hl]; exact box_setN vs 0 h
theorem setN_below (vs : List Value) : ∀ (off : Nat) {B : Nat} {w0 w : World} {g : Nat}, Below B w0 w → B ≤ g → Below B w0 (setN w g off vs) := by
  induction vs with
  | nil => intro off B w0 w g h _; exact h
  | cons v vs ih => intro off B w0 w g h hg; exact ih _ (h.setCell (p := ⟨g, off, none⟩) hg v) hg
theorem setN_grown (vs : List Value) : ∀ (off : Nat) (w : World) (g : Nat), w.grownBy (setN w g off vs) (some g) := by
  induction vs with
  | nil => intro off w g; exact grownBy_refl _ _
  | cons v vs ih => intro off w g; exact (grownBy_setCell w g off v).trans (ih _ _ _)
theorem setN_size (vs : List Value) : ∀ (off : Nat) (w : World) (g : Nat), (setN w g off vs).heap.size = w.heap.size := by
  induction vs with
  | nil => intro off w g; rfl
  | cons v vs ih => intro off w g; rw [setN, ih]; simp

theorem Box.setRow {w : World} {g : Nat} {T : TypeId} {cs cs' : Array Value} (h : Box w g T cs) : Box (w.setRow g cs') g T cs' := setRow_heap w g cs cs' T (0, 0) h
theorem Box.setRow_other {w : World} {g g' : Nat} {T : TypeId} {cs cs' : Array Value} (h : Box w g T cs) (hne : g ≠ g') : Box (w.setRow g' cs') g T cs := h.kept (grownBy_setRow w g' cs') (by simpa using hne)
theorem below_setRow {B : Nat} {w0 w : World} {g : Nat} {cs : Array Value} (h : Below B w0 w) (hg : B ≤ g) (hs : B ≤ w.heap.size) : Below B w0 (w.setRow g cs) :=
  h.grown (grownBy_setRow w g cs) hs (fun k hk => by cases hk; exact hg)

/-- a result that lies in a block, whole -/
theorem results_row {P : Program} {fn : Func} {p : Tmp} {ty : TypeId} (h : fn.results = #[.cell p ty]) {tmps : Array Value} {w : World} {g : Nat} {T : TypeId} {cs : Array Value} {d : TypeDesc} (hp : tmps.getD p undef = .pointer (some ⟨g, 0, none⟩)) (hg : Box w g T cs) (hu : P.underlying ty = some d) (hd : (match d with | .struct _ | .array _ _ => true | _ => false) = true) (hi : (P.info? ty).map (·.size) = some cs.size) :
    (results fn tmps).run P w = .ok (.agg cs) w := by
  have hl := run_loadVar_row (P := P) w g T ty cs (0, 0) d hg hu hd hi
  simp only [Array.getD_eq_getD_getElem?] at hp
  simp only [results, h]
  simp [hp, hl, asAddr]

end Go.Proofs.YtdclfcfdadkmeaaDoor

/-
  Contracts of the document's Ints and Bytes: two rows that hold the same numbers: each returns true; nothing is written.
-/
namespace Go.Proofs.YtdclfcfdadkmeaaDoor
open Go.RowKit
set_option linter.unusedVariables false

/-- an append whose run is known, in a region of one order -/
theorem wpList_append_at {P : Program} {w w' : World} {ops : Array Oper} {rest : List Oper} {o : Oper} {a : Act} {Q : Exit → Act → World → Prop} (hgd : o.guard = none) (s x : Operand) (t : TypeId)
    (ho : o.op = .call { callee := .builtin .append, args := #[s, x], argTypes := #[t, t] }) (v1 v2 : Value) (hs : a.eval s = v1) (hx : a.eval x = v2) {v : Value}
    (hrun : Sem.run P (Builtin.append_ #[t, t] o.type #[v1, v2]) w = .ok v w') (h : wpList P ops Q rest (a.put o.dst v) w') : wpList P ops Q (o :: rest) a w := by
  refine wpList_plain hgd fun K hK => ?_
  unfold Oper.wp execOp
  simp only [ho, resolve, invoke, builtin, Sem.run_bind, Sem.run_pure, Result.andThen_ok, List.map_toArray, List.map_cons, List.map_nil, hs, hx, hrun]
  exact hK _ _ h

theorem ints_yes (a a2 : Option Addr) (n cap cap2 : Nat) (xs : List Int) (w : World) (h : Elems .i32 w a n xs) (h2 : Elems .i32 w a2 n xs) :
    Calls Tryd.prog 14 #[.slice a n cap, .slice a2 n cap2] w fun e w' => e = .returned (.bool true) ∧ ∃ d, w' = w.drewN d := by
  have hn := h.2.1
  go_enter Tryd.func14, Tryd.ntmps14
  go_wp2_with fail
  go_loopw [5] (fun i wr => ∃ (k d : Nat), k ≤ n ∧ i = .int .i64 k ∧ wr = w.drewN d) (fun i _ => n - (intOf i).toNat)
  case atStart => exact ⟨0, 0, by omega, rfl, rfl⟩
  case round =>
    obtain ⟨k, d, hk, rfl, rfl⟩ := hrel
    by_cases hlt : k < n
    · obtain ⟨b, off, v, rfl, hc, hv, _⟩ := h.at_ hlt
      obtain ⟨b2, off2, v2, rfl, hc2, hv2, _⟩ := h2.at_ hlt
      obtain rfl : v = v2 := by rw [← hv.out, hv2.out]
      clear hv hv2 h h2
      go_wp2_with fail
      go_quiet (fail)
      go_wp2
      go_roundw
      case rel => exact ⟨k + 1, _, by omega, by go_num, rfl⟩
      case measure => simp [intOf]; omega
    · clear h h2
      go_wp2
      go_ret
      exact ⟨rfl, _, rfl⟩

theorem bytes_yes (a a2 : Option Addr) (n cap cap2 : Nat) (xs : List Int) (w : World) (h : Elems .i8 w a n xs) (h2 : Elems .i8 w a2 n xs) :
    Calls Tryd.prog 16 #[.slice a n cap, .slice a2 n cap2] w fun e w' => e = .returned (.bool true) ∧ ∃ d, w' = w.drewN d := by
  have hn := h.2.1
  go_enter Tryd.func16, Tryd.ntmps16
  go_wp2_with fail
  go_loopw [5] (fun i wr => ∃ (k d : Nat), k ≤ n ∧ i = .int .i64 k ∧ wr = w.drewN d) (fun i _ => n - (intOf i).toNat)
  case atStart => exact ⟨0, 0, by omega, rfl, rfl⟩
  case round =>
    obtain ⟨k, d, hk, rfl, rfl⟩ := hrel
    by_cases hlt : k < n
    · obtain ⟨b, off, v, rfl, hc, hv, _⟩ := h.at_ hlt
      obtain ⟨b2, off2, v2, rfl, hc2, hv2, _⟩ := h2.at_ hlt
      obtain rfl : v = v2 := by rw [← hv.out, hv2.out]
      clear hv hv2 h h2
      go_wp2_with fail
      go_quiet (fail)
      go_wp2
      go_roundw
      case rel => exact ⟨k + 1, _, by omega, by go_num, rfl⟩
      case measure => simp [intOf]; omega
    · clear h h2
      go_wp2
      go_ret
      exact ⟨rfl, _, rfl⟩

end Go.Proofs.YtdclfcfdadkmeaaDoor
