import Derived.Test.YtdclfcfdadkmeaaDoorJ01
import Derived.Test.YtdclfcfdadkmeaaDoorRows
import Derived.Lib.LaidTab
import Derived.LaidMore
import Derived.MakeChecks
import Derived.ProofKit
import Derived.OpenShut
import Derived.Stop.Joined
import Derived.OwnWalk
import Derived.Deep.OwnRows
import Derived.WalkSmall
import Derived.Deep.QuietTactic
import Derived.BigQuiet
import Derived.Deep.RegionHeld3
/-
  The row's condition on two tables, the powers and the sines, gives the walks what they ask; the heap that the initialisers leave meets it.
-/
namespace Go.Proofs.YtdclfcfdadkmeaaDoor
open Go.ChangeShapes Go.WideShapes Go.ChangeAt Go.RowKit
set_option linter.unusedVariables false

/-- both tables -/
def Tabs9 (w : World) : Prop := Tab w ∧ STab w ∧ 1 < w.heap.size ∧ 0 < w.heap.size
abbrev laidList9 : List (String × DataW Unit) := [("peloton/curve.powers", Rows.laid_peloton_curve_powers), ("peloton/rope.sines", Rows.laid_peloton_rope_sines)]

theorem gPowers9 : Tryd.prog.globalNamed "peloton/curve.powers" = some 1 := by kernel_rfl
theorem tPowers9 : (Tryd.prog.globals[1]?).map (·.type) = some 190 := by kernel_rfl
theorem gSines9 : Tryd.prog.globalNamed "peloton/rope.sines" = some 0 := by kernel_rfl
theorem tSines9 : (Tryd.prog.globals[0]?).map (·.type) = some 189 := by kernel_rfl

theorem door_met9 (os : Os) (args : Array Value) : laidMetH Tryd.prog laidList9 ((World.doorLaid Tryd.prog 400 os).forCall (fun _ _ => 0) ⟨#[], args, []⟩).memory :=
  laidMetH_of_parts3 (fuel := 8) (laidMet_of_run' 8 (by kernel_rfl) (by kernel_rfl)) (by kernel_rfl) (by kernel_rfl)

theorem laidMet_tail {P : Program} {x : String × DataW Unit} {rest : List (String × DataW Unit)} {W : World} (h : laidMet P (x :: rest) W) : laidMet P rest W := by
  obtain ⟨ps, hv, hn, hc⟩ := h
  obtain ⟨n, d⟩ := x
  obtain ⟨g, t, cs, fuel, p, q, _, _, _, _, hq, rfl⟩ := hv
  exact ⟨q, hq, (List.nodup_append.1 hn).2.1, fun b off hm => hc b off (List.mem_append.2 (.inr hm))⟩

theorem tabs_of_laid {W : World} (h : laidMetH Tryd.prog laidList9 W) : Tabs9 W := by
  rw [MakeChecks.laidMetH_plain _ _ _ (by kernel_rfl)] at h
  have h2 : laidMet Tryd.prog [("peloton/curve.powers", Lib.tabData .i64 ptab), ("peloton/rope.sines", Lib.tabData .i32 stab)] W := h
  have hT := Lib.tabIs_of_head gPowers9 tPowers9 Tryd.underlying190 Tryd.underlying2 (by kernel_rfl) (by kernel_rfl) h2
  have hS := Lib.tabIs_of_head gSines9 tSines9 Tryd.underlying189 Tryd.underlying21 (by kernel_rfl) (by kernel_rfl) (laidMet_tail h2)
  have a : Tab W := fun i hi => hT.cell gPowers9 i hi
  have b : STab W := fun i hi => hS.cell gSines9 i hi
  exact ⟨a, b, World.block_lt_of_cell? _ _ (a 0 (by decide)), World.block_lt_of_cell? _ _ (b 0 (by decide))⟩

end Go.Proofs.YtdclfcfdadkmeaaDoor

/-
  Contracts of the document's Shift and of products that are shifted: for every argument of its type the document's Shift returns 'shr', as the program's does; Scale, Quant and the document's Scale return the product, shifted, brought to its range; memory stays as it was.
-/
namespace Go.Proofs.YtdclfcfdadkmeaaDoor
open Go.RowKit
set_option linter.unusedVariables false

/-! ### the document's Shift: its loop makes 2^n; behind it each sign of x has its own walk -/





end Go.Proofs.YtdclfcfdadkmeaaDoor

/-
  Contracts of products that are shifted down and brought to a range: Scale, Quant and the document's Scale return the product, shifted, brought to its range; memory stays as it was.
-/
namespace Go.Proofs.YtdclfcfdadkmeaaDoor
open Go.RowKit
set_option linter.unusedVariables false

/-! ### products, shifted and brought to a range -/
theorem prod_bounds (x y : Int) (hx1 : -2147483648 ≤ x) (hx2 : x ≤ 2147483647) (hy1 : -2147483648 ≤ y) (hy2 : y ≤ 2147483647) : -4611686018427387904 ≤ x * y ∧ x * y ≤ 4611686018427387904 := by
  have ha : (x * y).natAbs ≤ 2147483648 * 2147483648 := by
    rw [Int.natAbs_mul]
    exact Nat.mul_le_mul (by omega) (by omega)
  omega

theorem product (x y n : Int) (hx1 : -2147483648 ≤ x) (hx2 : x ≤ 2147483647) (hy1 : -2147483648 ≤ y) (hy2 : y ≤ 2147483647) (w : World) :
    Calls Tryd.prog 103 #[.int .i32 x, .int .i32 y, .int .i64 n] w fun e w' => e = .returned (.int .i64 (shr (x * y) n)) ∧ w = w' := by
  obtain ⟨b1, b2⟩ := prod_bounds x y hx1 hx2 hy1 hy2
  go_enter Tryd.func103, Tryd.ntmps103
  go_wp2_with (go_at_call 73; refine (shift _ _ (by omega) (by omega) _).mono ?_; rintro e w' ⟨rfl, rfl⟩)
  go_ret
  exact ⟨rfl, rfl⟩

theorem scale (x y n : Int) (hx1 : -2147483648 ≤ x) (hx2 : x ≤ 2147483647) (hy1 : -2147483648 ≤ y) (hy2 : y ≤ 2147483647) (w : World) :
    Calls Tryd.prog 94 #[.int .i32 x, .int .i32 y, .int .i64 n] w fun e w' => e = .returned (.int .i32 (near (shr (x * y) n) (-2147483648) 2147483647)) ∧ w = w' := by
  go_enter Tryd.func94, Tryd.ntmps94
  go_wp2_with (first | (go_at_call 103; refine (product _ _ _ hx1 hx2 hy1 hy2 _).mono ?_; rintro e w' ⟨rfl, rfl⟩) | (go_at_call 104; refine (sat32 _ _).mono ?_; rintro e w' ⟨rfl, rfl⟩))
  go_ret
  exact ⟨rfl, rfl⟩

theorem quant (x y n : Int) (hx1 : -2147483648 ≤ x) (hx2 : x ≤ 2147483647) (hy1 : -2147483648 ≤ y) (hy2 : y ≤ 2147483647) (w : World) :
    Calls Tryd.prog 92 #[.int .i32 x, .int .i32 y, .int .i64 n] w fun e w' => e = .returned (.int .i8 (near (shr (x * y) n) (-128) 127)) ∧ w = w' := by
  go_enter Tryd.func92, Tryd.ntmps92
  go_wp2_with (first | (go_at_call 103; refine (product _ _ _ hx1 hx2 hy1 hy2 _).mono ?_; rintro e w' ⟨rfl, rfl⟩) | (go_at_call 72; refine (sat8 _ _).mono ?_; rintro e w' ⟨rfl, rfl⟩))
  go_ret
  exact ⟨rfl, rfl⟩


end Go.Proofs.YtdclfcfdadkmeaaDoor

/-
  What the kit says of slices, under its elder name.
-/

/-
  Contract of Quants: for every list of up to 2^24 numbers it returns a new slice that holds Quant of each; what was in memory stays.
-/
namespace Go.Proofs.YtdclfcfdadkmeaaDoor
open Go.RowKit
set_option linter.unusedVariables false

/-- what Quant gives -/
def qua (x y n : Int) : Int := near (shr (x * y) n) (-128) 127

theorem info_int8 : (Tryd.prog.info? 89).map (fun i => (i.zero, i.size, i.bytes)) = some (some (.int .i8 0), 1, 1) := by kernel_rfl

/-- k of the n numbers are written, the rest is 0 -/
def Filled (xs : List Int) (y m : Int) (n k : Nat) (cs : List Int) : Prop :=
  cs.length = n ∧ ∀ i, i < n → cs.getD i 0 = if i < k then qua (xs.getD i 0) y m else 0

theorem filled_start (xs : List Int) (y m : Int) (n : Nat) : Filled xs y m n 0 (List.replicate n 0) := by
  refine ⟨by simp, fun i hi => ?_⟩
  rw [if_neg (by omega), List.getD_eq_getElem?_getD, List.getElem?_replicate, if_pos hi]; rfl
theorem filled_step {xs : List Int} {y m : Int} {n k : Nat} {cs : List Int} (h : Filled xs y m n k cs) (hk : k < n) : Filled xs y m n (k + 1) (cs.set k (qua (xs.getD k 0) y m)) := by
  refine ⟨by simpa using h.1, fun i hi => ?_⟩
  rw [List.getD_eq_getElem?_getD, List.getElem?_set]
  by_cases e : k = i
  · subst e
    rw [if_pos rfl, if_pos (by rw [h.1]; exact hk), if_pos (by omega)]; rfl
  · rw [if_neg e, ← List.getD_eq_getElem?_getD, h.2 i hi]
    by_cases h2 : i < k
    · rw [if_pos h2, if_pos (by omega)]
    · rw [if_neg h2, if_neg (by omega)]
theorem filled_end {xs : List Int} {y m : Int} {n : Nat} {cs : List Int} (h : Filled xs y m n n cs) (hx : xs.length = n) : cs = xs.map (qua · y m) := by
  apply List.ext_getElem (by rw [h.1, List.length_map, hx])
  intro i h1 h2
  have h3 := h.2 i (by rw [← h.1]; exact h1)
  rw [if_pos (by rw [← h.1]; exact h1), List.getD_eq_getElem?_getD, List.getD_eq_getElem?_getD, List.getElem?_eq_getElem h1, List.getElem?_eq_getElem (by simpa using h2)] at h3
  simpa using h3
theorem qua_wf (x y n : Int) : (Lit.int .i8 (qua x y n)).wf = true := WalkArith.wf_i8 (near_in _ _ _ (by decide))

theorem make_zero (n : Nat) : (madeCells (Value.int .i8 0).cells (n * 1)).toList = (List.replicate n 0).map (Value.int .i8) := by
  rw [Nat.mul_one]
  apply List.ext_getElem (by simp [size_madeCells])
  intro i h1 h2
  simp [madeCells, Value.cells, Nat.mod_one]

set_option maxHeartbeats 400000 in
theorem quants_new (y m : Int) (a : Option Addr) (n cap : Nat) (xs : List Int) (w : World) (h : Elems .i32 w a n xs) (hn : n ≤ 16777216) (hy1 : -2147483648 ≤ y) (hy2 : y ≤ 2147483647) :
    Calls Tryd.prog 79 #[.int .i32 y, .int .i64 m, .slice a n cap] w fun e w' => ∃ g, e = .returned (.slice (some ⟨g, 0, none⟩) n n) ∧ w.heap.size ≤ g ∧ Elems .i8 w' (some ⟨g, 0, none⟩) n (xs.map (qua · y m)) ∧ Below w.heap.size w w' := by
  have hmk := run_make_row' (P := Tryd.prog) 24 89 (.int .i8 0) 1 Tryd.underlying24 info_int8 rfl .i64 .i64 n (by omega) (by omega)
  go_enter Tryd.func79, Tryd.ntmps79
  go_wp2
  go_loopw [15] (fun i wr => ∃ (k : Nat) (cs : List Int), k ≤ n ∧ i = .int .i64 k ∧ wr.ownsRow w.heap.size 89 1 (.slice (some ⟨w.heap.size, 0, none⟩) n n) n (cs.map (.int .i8)) ∧ Below w.heap.size w wr ∧ Hid (Filled xs y m n k cs)) (fun i _ => n - (intOf i).toNat)
  case atStart =>
    have hown := World.ownsRow_lit (e := 89) (size := 1) w (madeCells #[Value.int .i8 0] n) n (Nat.le_refl _) (by unfold maxLen; omega) (by rw [size_madeCells, Nat.mul_one])
    refine ⟨0, List.replicate n 0, by omega, rfl, ?_, (Below.refl _ _).alloc (Nat.le_refl _) _, Lib.hid (filled_start xs y m n)⟩
    rw [← make_zero n, Nat.mul_one]
    exact hown
  case round =>
    obtain ⟨k, cs, hk, rfl, hown, hbel, hfil⟩ := hrel
    by_cases hlt : k < n
    · have hE := h.below hbel
      obtain ⟨b, off, v, rfl, hc, hv, wv⟩ := hE.at_ hlt
      obtain ⟨v1, v2⟩ := wf32 wv
      have hf := hown.frozenAt k
      have hold : wr.cell? ⟨w.heap.size, k, none⟩ = some (.int .i8 (cs.getD k 0)) := by
        have hl := hfil.out.1
        rw [hown.cellAt k (by omega), List.getElem?_map, List.getD_eq_getElem?_getD, List.getElem?_eq_getElem (by omega)]; rfl
      obtain ⟨c, hcc⟩ : ∃ c, cs.getD k 0 = c := ⟨_, rfl⟩
      rw [hcc] at hold
      clear hcc
      have hq : ∀ w, Calls Tryd.prog 92 #[.int .i32 v, .int .i32 y, .int .i64 m] w fun e w' => e = .returned (.int .i8 (qua v y m)) ∧ w = w' := fun w => quant v y m v1 v2 hy1 hy2 w
      have hnew := (hown.stored k (.int .i8 (qua v y m))).1
      have hbel' := hbel.setCell (p := ⟨w.heap.size, k, none⟩) (Nat.le_refl _) (.int .i8 (qua v y m))
      have hfil' : Hid (Filled xs y m n (k + 1) (cs.set k (qua v y m))) := Lib.hid (by have := filled_step hfil.out hlt; rwa [hv.out] at this)
      rw [← List.map_set] at hnew
      clear hv hfil hE h hown hbel
      go_wp2_with (go_at_call 92; (with_reducible refine (hq _).mono ?_); rintro e w' ⟨rfl, rfl⟩)
      go_roundw
      case rel => exact ⟨k + 1, cs.set k (qua v y m), by omega, by go_num, hnew, hbel', hfil'⟩
      case measure => simp [intOf]; omega
    · obtain rfl : k = n := by omega
      have hl := h.1
      clear h
      go_wp2
      go_ret
      exact ⟨w.heap.size, rfl, Nat.le_refl _, by rw [← filled_end hfil.out hl]; exact own_elems hown (by omega) (by rw [filled_end hfil.out hl]; intro c hc; obtain ⟨x, _, rfl⟩ := List.mem_map.1 hc; exact qua_wf _ _ _), hbel⟩

theorem quants (y m : Int) (a : Option Addr) (n cap : Nat) (xs : List Int) (w : World) (h : Elems .i32 w a n xs) (hn : n ≤ 16777216) (hy1 : -2147483648 ≤ y) (hy2 : y ≤ 2147483647) :
    Calls Tryd.prog 79 #[.int .i32 y, .int .i64 m, .slice a n cap] w fun e w' => ∃ g, e = .returned (.slice (some ⟨g, 0, none⟩) n n) ∧ Elems .i8 w' (some ⟨g, 0, none⟩) n (xs.map (qua · y m)) ∧ Below w.heap.size w w' :=
  (quants_new y m a n cap xs w h hn hy1 hy2).mono fun _ _ ⟨g, h1, _, h3, h4⟩ => ⟨g, h1, h3, h4⟩

end Go.Proofs.YtdclfcfdadkmeaaDoor

/-
  Contracts of Root and Inverse and of the document's: each returns the greatest r with r times r not above its number; memory stays as it was.
-/
namespace Go.Proofs.YtdclfcfdadkmeaaDoor
open Go.RowKit
set_option linter.unusedVariables false

/-- r is the whole root of n -/
def IsRoot (n r : Int) : Prop := 0 ≤ r ∧ r * r ≤ n ∧ n < (r + 1) * (r + 1)

theorem sq_le {a b : Int} (h0 : 0 ≤ a) (h : a ≤ b) : a * a ≤ b * b := Int.mul_le_mul h h h0 (by omega)

theorem IsRoot.unique {n r s : Int} (h : IsRoot n r) (g : IsRoot n s) : r = s := by
  rcases Int.lt_or_le r s with h1 | h1
  · have := sq_le (a := r + 1) (b := s) (by have := h.1; omega) (by omega)
    have := h.2.2; have := g.2.1; omega
  · rcases Int.lt_or_le s r with h2 | h2
    · have := sq_le (a := s + 1) (b := r) (by have := g.1; omega) (by omega)
      have := g.2.2; have := h.2.1; omega
    · omega

theorem ofInt_nat (x : Nat) (h : x ≤ 18446744073709551615) : (BitVec.ofInt 64 (x : Int)).toNat = x := by
  rw [BitVec.toNat_ofInt]
  have : (((2 ^ 64 : Nat) : Int)) = 18446744073709551616 := by decide
  rw [this]; omega

theorem or_bit (m j : Nat) (hj : j ≤ 31) (hm : 2 ^ (j + 1) * m + 2 ^ j ≤ 4294967295) : bits .or .u64 ((2 ^ (j + 1) * m : Nat) : Int) ((2 ^ j : Nat) : Int) = ((2 ^ (j + 1) * m + 2 ^ j : Nat) : Int) := by
  have hb : bits .or .u64 ((2 ^ (j + 1) * m : Nat) : Int) ((2 ^ j : Nat) : Int) = IntKind.u64.wrap (((BitVec.ofInt 64 ((2 ^ (j + 1) * m : Nat) : Int)) ||| (BitVec.ofInt 64 ((2 ^ j : Nat) : Int))).toNat : Nat) := rfl
  have hlt : 2 ^ j < 2 ^ (j + 1) := by rw [Nat.pow_succ]; have := Nat.two_pow_pos j; omega
  have e3 := Nat.two_pow_add_eq_or_of_lt hlt m
  rw [hb, BitVec.toNat_or, ofInt_nat _ (by omega), ofInt_nat _ (by omega), ← e3]
  exact IntWalk.u64_in _ ⟨by omega, by omega⟩

/-- behind the k lowest bits' rounds: the root's upper bits stand -/
def Upper (n : Int) (k : Nat) (r b : Int) : Prop :=
  ∃ m : Nat, r = ((2 ^ k * m : Nat) : Int) ∧ b = ((2 ^ k / 2 : Nat) : Int) ∧ k ≤ 32 ∧ 2 ^ k * m + 2 ^ k ≤ 4294967296 ∧ r * r ≤ n ∧ n < (r + ((2 ^ k : Nat) : Int)) * (r + ((2 ^ k : Nat) : Int))

theorem Upper.done {n r b : Int} (h : Upper n 0 r b) : b = 0 ∧ IsRoot n r ∧ r ≤ 4294967295 := by
  obtain ⟨m, hr, hb, _, hm, h1, h2⟩ := h
  simp only [Nat.pow_zero, Nat.one_mul] at hr hb hm h2
  refine ⟨by simpa using hb, ⟨by omega, h1, h2⟩, by omega⟩

theorem Upper.step {n r b : Int} {k : Nat} (h : Upper n k r b) (hk : k ≠ 0) :
    ∃ x, bits .or .u64 r b = x ∧ 0 ≤ r ∧ r ≤ 4294967295 ∧ 0 < b ∧ b ≤ 2147483648 ∧ 0 ≤ x ∧ x ≤ 4294967295 ∧ 0 ≤ x * x ∧ x * x ≤ 18446744065119617025 ∧ (x * x ≤ n → Upper n (k - 1) x (b / 2)) ∧ (¬ x * x ≤ n → Upper n (k - 1) r (b / 2)) := by
  obtain ⟨m, hr, hb, hk2, hm, h1, h2⟩ := h
  obtain ⟨j, rfl⟩ : ∃ j, k = j + 1 := ⟨k - 1, by omega⟩
  have hp := Nat.two_pow_pos j
  have hps : 2 ^ (j + 1) = 2 * 2 ^ j := by rw [Nat.pow_succ]; omega
  have hj31 : 2 ^ j ≤ 2 ^ 31 := Nat.pow_le_pow_right (by decide) (by omega)
  have h31 : (2 : Nat) ^ 31 = 2147483648 := by decide
  have hor := or_bit m j (by omega) (by omega)
  have hb' : b = ((2 ^ j : Nat) : Int) := by rw [hb, hps]; congr 1; omega
  have hq : b / 2 = ((2 ^ j / 2 : Nat) : Int) := by rw [hb']; omega
  rw [← hr, ← hb'] at hor
  have hx0 : (0 : Int) ≤ ((2 ^ (j + 1) * m + 2 ^ j : Nat) : Int) ∧ ((2 ^ (j + 1) * m + 2 ^ j : Nat) : Int) ≤ 4294967295 := by omega
  have hxr : ((2 ^ (j + 1) * m + 2 ^ j : Nat) : Int) = r + ((2 ^ j : Nat) : Int) := by rw [hr]; omega
  refine ⟨_, hor, by omega, by omega, by omega, by omega, hx0.1, hx0.2, Int.mul_nonneg hx0.1 hx0.1, ?_, ?_, ?_⟩
  · have := sq_le hx0.1 hx0.2; omega
  · intro hle
    refine ⟨2 * m + 1, ?_, hq, by omega, ?_, hle, ?_⟩
    · congr 1; rw [hps, Nat.mul_assoc, Nat.add_sub_cancel, Nat.mul_add, Nat.mul_left_comm]; omega
    · rw [Nat.add_sub_cancel, Nat.mul_add, Nat.mul_left_comm]; rw [hps, Nat.mul_assoc] at hm; omega
    · rw [Nat.add_sub_cancel, hxr, Int.add_assoc]
      have : ((2 ^ j : Nat) : Int) + ((2 ^ j : Nat) : Int) = ((2 ^ (j + 1) : Nat) : Int) := by rw [hps]; omega
      rw [this]; exact h2
  · intro hgt
    refine ⟨2 * m, ?_, hq, by omega, ?_, h1, ?_⟩
    · rw [hr]; congr 1; rw [hps, Nat.add_sub_cancel, Nat.mul_assoc, Nat.mul_left_comm]
    · rw [Nat.add_sub_cancel, Nat.mul_left_comm]; rw [hps, Nat.mul_assoc] at hm; omega
    · rw [Nat.add_sub_cancel, ← hxr]; omega

theorem root (n : Int) (h0 : 0 ≤ n) (h1 : n ≤ 18446744073709551615) (w : World) :
    Calls Tryd.prog 88 #[.int .u64 n] w fun e w' => (∃ r, e = .returned (.int .u64 r) ∧ IsRoot n r ∧ r ≤ 4294967295) ∧ w = w' := by
  have hU : Upper n 32 0 2147483648 := ⟨0, by decide, by decide, by omega, by decide, by omega, by
    have : ((0 : Int) + ((2 ^ 32 : Nat) : Int)) * ((0 : Int) + ((2 ^ 32 : Nat) : Int)) = 18446744073709551616 := by decide
    rw [this]; omega⟩
  have HU := Lib.hid hU
  clear hU
  go_enter Tryd.func88, Tryd.ntmps88
  go_wp2
  go_loop [3, 4] (fun r b => ∃ (k : Nat) (rr bb : Int), r = .int .u64 rr ∧ b = .int .u64 bb ∧ Hid (Upper n k rr bb)) (fun _ b => (intOf b).toNat)
  case atStart => exact ⟨32, 0, 2147483648, rfl, rfl, HU⟩
  case round =>
    obtain ⟨k, rr, bb, rfl, rfl, hU⟩ := hrel
    clear HU
    by_cases hz : k = 0
    · subst hz
      obtain ⟨rfl, hR, hr2⟩ := hU.out.done
      have HR := Lib.hid hR
      clear hU hR
      go_wp2
      go_ret
      exact ⟨⟨_, rfl, HR.out, hr2⟩, rfl⟩
    · obtain ⟨x, hor, r0, r1, b0, b1, x0, x1, p0, p1, hyes, hno⟩ := hU.out.step hz
      have HY := Lib.hid hyes
      have HN := Lib.hid hno
      clear hU hyes hno hz
      by_cases hc : x * x ≤ n
      · go_wp2
        go_round
        case rel => exact ⟨k - 1, x, bb / 2, rfl, rfl, Lib.hid (HY.out hc)⟩
        case measure => simp [intOf]; omega
      · go_wp2
        go_round
        case rel => exact ⟨k - 1, rr, bb / 2, rfl, rfl, Lib.hid (HN.out hc)⟩
        case measure => simp [intOf]; omega

/-- n, or 1 -/
def one_of (n : Int) : Int := if n = 0 then 1 else n

theorem inverse (n : Int) (h0 : 0 ≤ n) (h1 : n ≤ 18446744073709551615) (w : World) :
    Calls Tryd.prog 70 #[.int .u64 n] w fun e w' => (∃ r, e = .returned (.int .u64 r) ∧ IsRoot (281474976710656 / one_of n) r ∧ r ≤ 4294967295) ∧ w = w' := by
  have hb : 1 ≤ one_of n ∧ one_of n ≤ 18446744073709551615 := by unfold one_of; split <;> omega
  have hq0 : 0 ≤ 281474976710656 / one_of n := Int.ediv_nonneg (by decide) (by omega)
  have hq1 : 281474976710656 / one_of n ≤ 281474976710656 := Int.ediv_le_self _ (by decide)
  have hr := root (281474976710656 / one_of n) hq0 (by omega) w
  by_cases c : n = 0
  · subst c
    have e : one_of 0 = 1 := rfl
    rw [e] at hr ⊢
    go_enter Tryd.func70, Tryd.ntmps70
    go_wp2_with fail
    refine hr.mono ?_
    rintro e w' ⟨⟨r, rfl, hR⟩, rfl⟩
    have HR := Lib.hid hR
    clear hR
    go_wp2
    go_ret
    exact ⟨⟨_, rfl, HR.out⟩, rfl⟩
  · have e : one_of n = n := by unfold one_of; rw [if_neg c]
    rw [e] at hr hq0 hq1 ⊢
    have c1 : 1 ≤ n := by omega
    clear hb e
    go_enter Tryd.func70, Tryd.ntmps70
    go_wp2_with fail
    refine hr.mono ?_
    rintro e w' ⟨⟨r, rfl, hR⟩, rfl⟩
    have HR := Lib.hid hR
    clear hR
    go_wp2
    go_ret
    exact ⟨⟨_, rfl, HR.out⟩, rfl⟩

end Go.Proofs.YtdclfcfdadkmeaaDoor

/-
  Contracts of layer 5's near and meanSquare: a number brought to its range; the mean of the squares of a row, without its rest. They read memory alone.
-/
namespace Go.Proofs.YtdclfcfdadkmeaaDoor
open Go.RowKit
set_option linter.unusedVariables false

/-- a number, brought to the range of a row -/
def nr (x : Int) : Int := near x (-8388608) 8388607
theorem nr_bd (x : Int) : -8388608 ≤ nr x ∧ nr x ≤ 8388607 := near_in x _ _ (by decide)
theorem nr_sq (x : Int) : 0 ≤ nr x * nr x ∧ nr x * nr x ≤ 70368744177664 := by
  have h := nr_bd x
  have h1 : (nr x * nr x).natAbs ≤ 8388608 * 8388608 := by rw [Int.natAbs_mul]; exact Nat.mul_le_mul (by omega) (by omega)
  have h2 : 0 ≤ nr x * nr x := by
    rcases Int.le_total 0 (nr x) with h0 | h0
    · exact Int.mul_nonneg h0 h0
    · exact Int.mul_nonneg_of_nonpos_of_nonpos h0 h0
  omega
/-- the sum of the squares -/
def sqs (xs : List Int) : Int := (xs.map fun x => nr x * nr x).sum
theorem sqs_step (xs : List Int) (k : Nat) (hk : k < xs.length) : sqs (xs.take (k + 1)) = sqs (xs.take k) + nr (xs.getD k 0) * nr (xs.getD k 0) := by
  unfold sqs
  rw [List.take_add_one, List.map_append, List.sum_append]
  simp [List.getD, List.getElem?_eq_getElem hk]
theorem sqs_bd (xs : List Int) : 0 ≤ sqs xs ∧ sqs xs ≤ xs.length * 70368744177664 := by
  induction xs with
  | nil => simp [sqs]
  | cons x xs ih =>
    have e : sqs (x :: xs) = nr x * nr x + sqs xs := by simp [sqs]
    have h := nr_sq x
    rw [e, List.length_cons]; push_cast; omega
/-- the mean square -/
def msq (xs : List Int) : Int := sqs xs / (xs.length : Int)
theorem msq_bd (xs : List Int) : 0 ≤ msq xs ∧ msq xs ≤ 70368744177664 := by
  have h := sqs_bd xs
  unfold msq
  refine ⟨Int.ediv_nonneg h.1 (by omega), ?_⟩
  by_cases h0 : xs.length = 0
  · rw [h0]; simp
  · exact Int.ediv_le_of_le_mul (by omega) (by rw [Int.mul_comm]; exact h.2)

/-- there is a root of every number -/
theorem root_ex (n : Nat) : ∃ r : Int, IsRoot n r := by
  induction n with
  | zero => exact ⟨0, by unfold IsRoot; decide⟩
  | succ n ih =>
    obtain ⟨r, h0, h1, h2⟩ := ih
    by_cases c : (r + 1) * (r + 1) ≤ ((n + 1 : Nat) : Int)
    · refine ⟨r + 1, by omega, c, ?_⟩
      rw [Int.add_mul (r + 1) 1 (r + 1 + 1), Int.mul_add (r + 1) (r + 1) 1]
      push_cast; omega
    · exact ⟨r, h0, by push_cast; omega, by omega⟩
/-- I is the number that a row of mean square m is brought to its size by -/
def IsInv (m I : Int) : Prop := IsRoot (281474976710656 / one_of m) I
theorem inv_ex (m : Int) (h : 0 ≤ m) : ∃ I, IsInv m I := by
  obtain ⟨r, hr⟩ := root_ex (281474976710656 / one_of m).toNat
  refine ⟨r, ?_⟩
  have h1 : 0 ≤ 281474976710656 / one_of m := Int.ediv_nonneg (by decide) (by unfold one_of; split <;> omega)
  rw [Int.toNat_of_nonneg h1] at hr
  exact hr
theorem inv_bd {m I : Int} (h : 0 ≤ m) (hI : IsInv m I) : 0 ≤ I ∧ I ≤ 16777216 := by
  refine ⟨hI.1, ?_⟩
  have h1 : 281474976710656 / one_of m ≤ 281474976710656 := Int.ediv_le_self _ (by decide)
  rcases Int.lt_or_le 16777216 I with h2 | h2
  · exfalso
    have h3 : 16777217 * 16777217 ≤ I * I := Int.mul_le_mul (by omega) (by omega) (by decide) (by omega)
    have := hI.2.1
    omega
  · exact h2
theorem inverse_is (m I : Int) (h0 : 0 ≤ m) (h1 : m ≤ 18446744073709551615) (hI : IsInv m I) (w : World) :
    Calls Tryd.prog 70 #[.int .u64 m] w fun e w' => e = .returned (.int .u64 I) ∧ w = w' :=
  (inverse m h0 h1 w).mono (by rintro e w' ⟨⟨s, rfl, hs, _⟩, rfl⟩; exact ⟨by rw [hs.unique hI], rfl⟩)

theorem near5 (x : Int) (h1 : -2147483648 ≤ x) (h2 : x ≤ 2147483647) (w : World) :
    Calls Tryd.prog 74 #[.int .i32 x] w fun e w' => e = .returned (.int .i64 (nr x)) ∧ w = w' := by
  by_cases c1 : x < -8388608
  · go_enter Tryd.func74, Tryd.ntmps74
    go_wp2
    go_ret
    exact ⟨ret_int (by unfold nr near; omega), rfl⟩
  · by_cases c2 : x ≤ 8388607
    · go_enter Tryd.func74, Tryd.ntmps74
      go_wp2
      go_ret
      exact ⟨ret_int (by unfold nr near; omega), rfl⟩
    · go_enter Tryd.func74, Tryd.ntmps74
      go_wp2
      go_ret
      exact ⟨ret_int (by unfold nr near; omega), rfl⟩

theorem mean_square (a : Option Addr) (n cap : Nat) (xs : List Int) (w : World) (h : Elems .i32 w a n xs) (h0 : 0 < n) (hn : n ≤ 4096) :
    Calls Tryd.prog 71 #[.slice a n cap] w fun e w' => e = .returned (.int .u64 (msq xs)) ∧ w = w' := by
  have HL := Lib.hid h.1
  go_enter Tryd.func71, Tryd.ntmps71
  go_wp2
  go_loop [3, 9] (fun s i => ∃ (k : Nat) (q : Int), k ≤ n ∧ i = .int .i64 k ∧ s = .int .u64 q ∧ Hid (q = sqs (xs.take k)) ∧ 0 ≤ q ∧ q ≤ k * 70368744177664) (fun _ i => n - (intOf i).toNat)
  case atStart => exact ⟨0, 0, by omega, rfl, rfl, Lib.hid (by simp [sqs]), by omega, by omega⟩
  case round =>
    obtain ⟨k, q, hk, rfl, rfl, hq, q0, q1⟩ := hrel
    by_cases hlt : k < n
    · obtain ⟨b, off, v, rfl, hc, hv, wv⟩ := h.at_ hlt
      have hst : Hid (q + nr v * nr v = sqs (xs.take (k + 1))) := Lib.hid (by rw [sqs_step xs k (by rw [HL.out]; exact hlt), hq.out, hv.out])
      have hb := nr_sq v
      obtain ⟨v1, v2⟩ := wf32 wv
      have hnr := near5 v v1 v2
      obtain ⟨y, hy⟩ : ∃ y, nr v = y := ⟨_, rfl⟩
      rw [hy] at hst hb hnr
      obtain ⟨p0, p1⟩ := hb
      clear h hv wv hq hy
      go_wp2_with (go_at_call 74; refine (hnr _).mono ?_; rintro e w' ⟨rfl, rfl⟩)
      go_round
      case rel => exact ⟨k + 1, q + y * y, by omega, by go_num, rfl, hst, by omega, by push_cast; omega⟩
      case measure => simp [intOf]; omega
    · obtain rfl : k = n := by omega
      have hq2 : Hid (q / (k : Int) = msq xs) := Lib.hid (by unfold msq; rw [HL.out, hq.out, List.take_of_length_le (by rw [HL.out]; omega)])
      have hz : ((k : Int) == 0) = false := by simp; omega
      clear h hq
      go_wp2
      go_ret
      exact ⟨ret_int hq2.out, rfl⟩

end Go.Proofs.YtdclfcfdadkmeaaDoor

/-
  Contract of Norm: a row brought to one size, in new memory; nothing else turns.
-/
namespace Go.Proofs.YtdclfcfdadkmeaaDoor
open Go.RowKit
set_option linter.unusedVariables false

theorem filledBy_range {f : Nat → Int} {n : Nat} {cs : List Int} (h : FilledBy f n n cs) : cs = (List.range n).map f := by
  apply List.ext_getElem (by rw [h.1, List.length_map, List.length_range])
  intro i h1 h2
  have h3 := h.2 i (by rw [← h.1]; exact h1)
  rw [if_pos (by rw [← h.1]; exact h1), List.getD_eq_getElem?_getD, List.getElem?_eq_getElem h1] at h3
  simpa using h3

/-- number i of the row, brought to one size -/
def norm1 (I g x : Int) : Int := near (shr (nr x * I * g) 23) (-128) 127
def norms (I : Int) (gs xs : List Int) (n : Nat) : List Int := (List.range n).map fun i => norm1 I (gs.getD i 0) (xs.getD i 0)
theorem norm1_wf (I g x : Int) : (Lit.int .i8 (norm1 I g x)).wf = true := WalkArith.wf_i8 (near_in _ _ _ (by decide))
theorem norms_wf (I : Int) (gs xs : List Int) (n : Nat) : ∀ c ∈ norms I gs xs n, (Lit.int .i8 c).wf = true := by
  intro c hc
  obtain ⟨i, _, rfl⟩ := List.mem_map.1 hc
  exact norm1_wf _ _ _
/-- the products stay within 64 bits -/
theorem norm_bd (y I g : Int) (y1 : -8388608 ≤ y) (y2 : y ≤ 8388607) (i1 : 0 ≤ I) (i2 : I ≤ 16777216) (g1 : -128 ≤ g) (g2 : g ≤ 127) :
    -140737488355328 ≤ y * I ∧ y * I ≤ 140737488355328 ∧ -18014398509481984 ≤ y * I * g ∧ y * I * g ≤ 18014398509481984 := by
  have h1 : (y * I).natAbs ≤ 8388608 * 16777216 := by rw [Int.natAbs_mul]; exact Nat.mul_le_mul (by omega) (by omega)
  have h2 : (y * I * g).natAbs ≤ 8388608 * 16777216 * 128 := by rw [Int.natAbs_mul]; exact Nat.mul_le_mul h1 (by omega)
  omega

theorem norm_len (ga xa : Option Addr) (n m gcap xcap : Nat) (h : n ≠ m) (hn : n ≤ 9223372036854775807) (hm : m ≤ 9223372036854775807) (w : World) :
    Calls Tryd.prog 52 #[.slice ga n gcap, .slice xa m xcap] w fun e w' => e = .returned (.tuple #[.slice none 0 0, .int .i64 30]) ∧ w = w' := by
  have h' : ((n : Int) != (m : Int)) = true := by simp; omega
  clear h
  go_enter Tryd.func52, Tryd.ntmps52
  go_wp2
  go_ret2
  exact ⟨rfl, rfl⟩

theorem norm_none (ga xa : Option Addr) (gcap xcap : Nat) (w : World) :
    Calls Tryd.prog 52 #[.slice ga 0 gcap, .slice xa 0 xcap] w fun e w' => e = .returned (.tuple #[.slice none 0 0, .int .i64 0]) ∧ w = w' := by
  go_enter Tryd.func52, Tryd.ntmps52
  go_wp2
  go_ret2
  exact ⟨rfl, rfl⟩

set_option maxHeartbeats 1000000 in
theorem norm_some (ga xa : Option Addr) (n gcap xcap : Nat) (gs xs : List Int) (I : Int) (w : World) (hg : Elems .i8 w ga n gs) (hx : Elems .i32 w xa n xs) (h0 : 0 < n) (hn : n ≤ 1000) (hI : IsInv (msq xs) I) :
    Calls Tryd.prog 52 #[.slice ga n gcap, .slice xa n xcap] w fun e w' => (∃ g, e = .returned (.tuple #[.slice (some ⟨g, 0, none⟩) n n, .int .i64 0]) ∧ Elems .i8 w' (some ⟨g, 0, none⟩) n (norms I gs xs n)) ∧ Below w.heap.size w w' := by
  have hmk := run_make_row' (P := Tryd.prog) 24 89 (.int .i8 0) 1 Tryd.underlying24 info8 rfl .i64 .i64 n (by omega) (by omega)
  have hms := mean_square xa n xcap xs w hx h0 (by omega)
  have hmb := msq_bd xs
  have hinv := inverse_is (msq xs) I hmb.1 (by omega) hI
  obtain ⟨i0, i1⟩ := inv_bd hmb.1 hI
  have hne : ((n : Int) != (n : Int)) = false := by simp
  have hz : ((n : Int) == 0) = false := by simp; omega
  generalize msq xs = M at hms hmb hinv hI
  clear hmb hI
  go_enter Tryd.func52, Tryd.ntmps52
  go_wp2_with fail
  refine hms.mono ?_
  rintro e w' ⟨rfl, rfl⟩
  go_wp2_with fail
  refine (hinv _).mono ?_
  rintro e w' ⟨rfl, rfl⟩
  clear hms hinv hne hz
  go_wp2
  go_loopw [32] (fun i wr => ∃ (k : Nat) (cs : List Int), k ≤ n ∧ i = .int .i64 k ∧ MineK .i8 wr w.heap.size 89 cs ∧ Below w.heap.size w wr ∧ Hid (FilledBy (fun i => norm1 I (gs.getD i 0) (xs.getD i 0)) n k cs)) (fun i _ => n - (intOf i).toNat)
  case atStart => exact ⟨0, List.replicate n 0, by omega, rfl, mine_made .i8 w 89 n rfl, (Below.refl _ _).alloc (Nat.le_refl _) _, Lib.hid (filledBy_start _ n)⟩
  case round =>
    obtain ⟨k, cs, hk, rfl, hmine, hbel, hfil⟩ := hrel
    by_cases hlt : k < n
    · obtain ⟨b, off, v, rfl, hc, hv, wv⟩ := (hx.below hbel).at_ hlt
      obtain ⟨b2, off2, u, rfl, hc2, hu, wu⟩ := (hg.below hbel).at_ hlt
      obtain ⟨v1, v2⟩ := wf32 wv
      obtain ⟨u1, u2⟩ := wf8 wu
      have hl := hfil.out.1
      have hold := hmine.cell (k := k) (by omega)
      have hf := hmine.frozen k
      have hfil' : Hid (FilledBy (fun i => norm1 I (gs.getD i 0) (xs.getD i 0)) n (k + 1) (cs.set k (norm1 I u v))) := Lib.hid (by have := filledBy_step hfil.out hlt; simp only [hu.out, hv.out] at this; exact this)
      have hnew := hmine.set k (norm1 I u v)
      have hbel' := hbel.setCell (p := ⟨w.heap.size, k, none⟩) (Nat.le_refl _) (.int .i8 (norm1 I u v))
      have hn1 := near5 v v1 v2
      have hyb := nr_bd v
      have hval : norm1 I u v = near (shr (nr v * I * u) 23) (-128) 127 := rfl
      generalize cs.getD k 0 = c at hold
      generalize nr v = y at hn1 hyb hval
      obtain ⟨p1, p2, p3, p4⟩ := norm_bd y I u hyb.1 hyb.2 i0 i1 u1 u2
      have hsh : ∀ w, Calls Tryd.prog 73 #[.int .i64 (y * I * u), .int .i64 23] w fun e w' => e = .returned (.int .i64 (shr (y * I * u) 23)) ∧ w = w' := fun w => shift _ _ (by omega) (by omega) w
      have hsa := sat8 (shr (y * I * u) 23)
      rw [← hval] at hsa
      generalize norm1 I u v = z at hfil' hnew hbel' hsa hval
      generalize shr (y * I * u) 23 = s at hsh hsa
      have e0 : IntKind.i64.wrap u = u := IntWalk.i64_in _ (by omega)
      have e1 : IntKind.i64.wrap (y * I) = y * I := IntWalk.i64_in _ (by omega)
      have e2 : IntKind.i64.wrap (y * I * u) = y * I * u := IntWalk.i64_in _ (by omega)
      have hb2 : b2 < w.heap.size := hg.blk _ rfl (by omega)
      have hkp : ∀ z, (wr.setCell ⟨w.heap.size, k, none⟩ (.int .i8 z)).drew.cell? ⟨b2, off2 + k, none⟩ = some (.int .i8 u) := fun z =>
        (World.cell?_setCell_other wr ⟨w.heap.size, k, none⟩ ⟨b2, off2 + k, none⟩ _ (by first | (simp; done) | (simp; omega))).trans hc2
      have hkp' := hkp z
      clear hv hu hl hfil hval hmine hbel hmk hb2 hkp
      go_wp2_with fail
      go_region_held3 (fun w' => w'.cell? ⟨b2, off2 + k, none⟩ = some (.int .i8 u)) (first | go_keep | assumption)
        (first
          | (go_at_call 74; (with_reducible refine (hn1 _).mono ?_); rintro e w' ⟨rfl, rfl⟩)
          | (go_at_call 73; (with_reducible refine (hsh _).mono ?_); rintro e w' ⟨rfl, rfl⟩)
          | (go_at_call 72; (with_reducible refine (hsa _).mono ?_); rintro e w' ⟨rfl, rfl⟩))
      clear e0 e1 e2 hn1 hsh hsa hkp'
      go_wp2
      go_roundw
      case rel => exact ⟨k + 1, cs.set k z, by omega, by go_num, hnew, hbel'.drew, hfil'⟩
      case measure => simp [intOf]; omega
    · obtain rfl : k = n := by omega
      have he := filledBy_range hfil.out
      have hE := hmine.elems (n := k) (by rw [he]; simp) (by omega) (by rw [he]; exact norms_wf I gs xs k)
      rw [he] at hE
      have HE := Lib.hid hE
      clear hg hx he hE hmine hfil
      go_wp2
      go_ret2
      exact ⟨⟨_, rfl, HE.out⟩, hbel⟩

theorem norm_any (ga xa : Option Addr) (n gcap xcap : Nat) (gs xs : List Int) (I : Int) (w : World) (hg : Elems .i8 w ga n gs) (hx : Elems .i32 w xa n xs) (hn : n ≤ 1000) (hI : IsInv (msq xs) I) :
    Calls Tryd.prog 52 #[.slice ga n gcap, .slice xa n xcap] w fun e w' => (∃ b c, e = .returned (.tuple #[.slice b n c, .int .i64 0]) ∧ Elems .i8 w' b n (norms I gs xs n)) ∧ Below w.heap.size w w' := by
  by_cases h0 : n = 0
  · subst h0
    exact (norm_none ga xa gcap xcap w).mono (by rintro e w' ⟨rfl, rfl⟩; exact ⟨⟨none, 0, rfl, Elems.nil_ _ _ _⟩, Below.refl _ _⟩)
  · exact (norm_some ga xa n gcap xcap gs xs I w hg hx (by omega) hn hI).mono (by rintro e w' ⟨⟨g, rfl, hE⟩, hb⟩; exact ⟨⟨_, _, rfl, hE⟩, hb⟩)

end Go.Proofs.YtdclfcfdadkmeaaDoor

/-
  Contracts of between and Exp: in a world whose table holds the document's numbers Exp returns E(x) and makes no memory.
-/
namespace Go.Proofs.YtdclfcfdadkmeaaDoor
open Go.RowKit
set_option linter.unusedVariables false

theorem between (f : Int) (h0 : 0 ≤ f) (h1 : f < 65536) (w : World) (hT : Tab w) :
    Calls Tryd.prog 112 #[.int .i64 f] w fun e w' => e = .returned (.int .i64 (btw f)) ∧ ∃ d, w' = w.drewN d := by
  obtain ⟨i, hi⟩ : ∃ i : Nat, f / 2048 = (i : Int) := ⟨(f / 2048).toNat, by omega⟩
  have hi2 : i < 32 := by omega
  have hm : bits .and .i64 f 2047 = f % 2048 := by have := and_mask f 11 (by decide); simpa using this
  have ha := hT i (by omega)
  have hb := hT (i + 1) (by omega)
  have a1 := tab_bd i (by omega)
  have a2 := tab_falls i hi2
  have hbt : btw f = ptab.getD i 0 - half ((ptab.getD i 0 - ptab.getD (i + 1) 0) * (f % 2048)) 2048 := by unfold btw; rw [hi]; rfl
  rw [hbt]
  clear hbt hT
  obtain ⟨p, hp⟩ : ∃ p, ptab.getD i 0 = p := ⟨_, rfl⟩
  obtain ⟨q, hq⟩ : ∃ q, ptab.getD (i + 1) 0 = q := ⟨_, rfl⟩
  obtain ⟨r, hr⟩ : ∃ r, f % 2048 = r := ⟨_, rfl⟩
  have r0 : 0 ≤ r ∧ r < 2048 := by omega
  rw [hp] at ha a1 a2 ⊢
  rw [hq] at hb a2 ⊢
  rw [hr] at hm ⊢
  obtain ⟨m0, m1, m2, m3⟩ := off_bd (p - q) r a2.1 r0.1 r0.2
  have hs : ∀ w, Calls Tryd.prog 73 #[.int .i64 ((p - q) * r), .int .i64 11] w fun e w' => e = .returned (.int .i64 (half ((p - q) * r) 2048)) ∧ w' = w := fun w => (by
    rw [← shr_eleven]; exact (shift _ _ (by omega) (by omega) w).mono (fun e w' h => ⟨h.1, h.2.symm⟩))
  clear hp hq hr
  go_enter Tryd.func112, Tryd.ntmps112
  go_wp2
  go_quiet (first | (go_at_call 73; refine Calls.quiet_of_same (hs _)))
  go_wp2
  go_ret
  exact ⟨rfl, _, rfl⟩

/-- E(x) -/
def E (x : Int) : Int := if 0 < x then 65536 else if x ≤ -1453643 then 0 else shr (btw (-x * 94548 / 65536 % 65536)) (-x * 94548 / 65536 / 65536)

theorem half_nonneg (x P : Int) (hx : 0 ≤ x) (hP : 1 ≤ P) : 0 ≤ half x P := by
  have h := half_bd x P
  have := Int.ediv_nonneg hx (show 0 ≤ P by omega)
  omega
theorem half_le (x P : Int) (hx : 0 ≤ x) (hP : 2 ≤ P) : half x P ≤ x := by
  have h := half_bd x P
  rcases Int.lt_or_le x 1 with h1 | h1
  · obtain rfl : x = 0 := by omega
    unfold half
    rw [Int.zero_emod, Int.zero_ediv, if_neg (by omega)]; omega
  · have : x / P < x := Int.ediv_lt_self_of_pos_of_ne_one (by omega) (by omega)
    omega
theorem shr_bd (v q : Int) (hv : 0 ≤ v) : 0 ≤ shr v q ∧ shr v q ≤ v := by
  unfold shr
  obtain ⟨n1, n2⟩ := near_in q 0 62 (by decide)
  split
  · omega
  · rename_i hne
    have h1 := pow_bounds (near q 0 62) n1 n2
    have h2 := pow_half (near q 0 62) (by omega)
    have h3 : (1 : Int) ≤ 2 ^ ((near q 0 62).toNat - 1) := by
      have := pow_bounds (near q 0 62 - 1) (by omega) (by omega)
      rw [show (near q 0 62 - 1).toNat = (near q 0 62).toNat - 1 by omega] at this
      exact this.1
    exact ⟨half_nonneg _ _ hv h1.1, half_le _ _ hv (by omega)⟩

theorem E_bd (x : Int) : 0 ≤ E x ∧ E x ≤ 65536 := by
  unfold E
  split
  · omega
  · split
    · omega
    · have h1 := btw_bd (-x * 94548 / 65536 % 65536) (by omega) (by omega)
      have h2 := shr_bd (btw (-x * 94548 / 65536 % 65536)) (-x * 94548 / 65536 / 65536) (by omega)
      omega

theorem exp (x : Int) (h1 : -9223372036854775808 ≤ x) (h2 : x ≤ 9223372036854775807) (w : World) (hT : Tab w) :
    Calls Tryd.prog 109 #[.int .i64 x] w fun e w' => e = .returned (.int .i32 (E x)) ∧ ∃ d, w' = w.drewN d := by
  by_cases c0 : 0 < x
  · have hE : E x = 65536 := by unfold E; rw [if_pos c0]
    rw [hE]
    go_enter Tryd.func109, Tryd.ntmps109
    go_wp2
    go_ret
    exact ⟨rfl, 0, rfl⟩
  · by_cases c1 : x ≤ -1453643
    · have hE : E x = 0 := by unfold E; rw [if_neg c0, if_pos c1]
      rw [hE]
      go_enter Tryd.func109, Tryd.ntmps109
      go_wp2
      go_ret
      exact ⟨rfl, 0, rfl⟩
    · have hE : E x = shr (btw (-x * 94548 / 65536 % 65536)) (-x * 94548 / 65536 / 65536) := by unfold E; rw [if_neg c0, if_neg c1]
      have hB := btw_bd (-x * 94548 / 65536 % 65536) (by omega) (by omega)
      have hS := shr_bd (btw (-x * 94548 / 65536 % 65536)) (-x * 94548 / 65536 / 65536) (by omega)
      rw [hE]
      clear hE
      obtain ⟨t, ht⟩ : ∃ t, -x * 94548 / 65536 = t := ⟨_, rfl⟩
      have t0 : 0 ≤ t ∧ t < 2097152 := by omega
      rw [ht] at hB hS ⊢
      have hm : bits .and .i64 t 65535 = t % 65536 := by have := and_mask t 16 (by decide); simpa using this
      have hb := between (t % 65536) (by omega) (by omega) w hT
      have hsh : ∀ d, Calls Tryd.prog 73 #[.int .i64 (btw (t % 65536)), .int .i64 (t / 65536)] (w.drewN d) fun e w' => e = .returned (.int .i64 (shr (btw (t % 65536)) (t / 65536))) ∧ w.drewN d = w' := fun d => shift _ _ (by omega) (by omega) _
      obtain ⟨v, hv⟩ : ∃ v, btw (t % 65536) = v := ⟨_, rfl⟩
      rw [hv] at hB hS hsh hb ⊢
      obtain ⟨s, hs⟩ : ∃ s, shr v (t / 65536) = s := ⟨_, rfl⟩
      rw [hs] at hS hsh ⊢
      clear hv hs hT
      go_enter Tryd.func109, Tryd.ntmps109
      go_wp2_with fail
      refine hb.mono ?_
      rintro e w' ⟨rfl, d, rfl⟩
      go_wp2_with fail
      refine (hsh _).mono ?_
      rintro e w' ⟨rfl, rfl⟩
      go_wp2
      go_ret
      exact ⟨rfl, _, rfl⟩

end Go.Proofs.YtdclfcfdadkmeaaDoor

/-
  Contract of Exps: for every list of up to 1000 numbers it returns a new slice of E of each; what was in memory stays.
-/
namespace Go.Proofs.YtdclfcfdadkmeaaDoor
open Go.RowKit
set_option linter.unusedVariables false

theorem E_wf (x : Int) : (Lit.int .i32 (E x)).wf = true := by have := E_bd x; exact WalkArith.wf_i32 ⟨by omega, by omega⟩

set_option maxHeartbeats 800000 in
theorem exps (a : Option Addr) (n cap : Nat) (xs : List Int) (w : World) (h : Elems .i64 w a n xs) (hn : n ≤ 1000) (hT : Tab w) :
    Calls Tryd.prog 101 #[.slice a n cap] w fun e w' => ∃ g, e = .returned (.slice (some ⟨g, 0, none⟩) n n) ∧ Elems .i32 w' (some ⟨g, 0, none⟩) n (xs.map E) ∧ Below w.heap.size w w' := by
  have hmk := run_make_row' (P := Tryd.prog) 39 21 (.int .i32 0) 4 Tryd.underlying39 info_int32 rfl .i64 .i64 n (by omega) (by omega)
  go_enter Tryd.func101, Tryd.ntmps101
  go_wp2
  go_loopw [11] (fun i wr => ∃ (k : Nat) (cs : List Int), k ≤ n ∧ i = .int .i64 k ∧ wr.ownsRow w.heap.size 21 1 (.slice (some ⟨w.heap.size, 0, none⟩) n n) n (cs.map (.int .i32)) ∧ Below w.heap.size w wr ∧ Hid (FilledBy (fun i => E (xs.getD i 0)) n k cs)) (fun i _ => n - (intOf i).toNat)
  case atStart =>
    have hown := World.ownsRow_lit (e := 21) (size := 1) w (madeCells #[Value.int .i32 0] n) n (Nat.le_refl _) (by unfold maxLen; omega) (by rw [size_madeCells, Nat.mul_one])
    refine ⟨0, List.replicate n 0, by omega, rfl, ?_, (Below.refl _ _).alloc (Nat.le_refl _) _, Lib.hid (filledBy_start _ n)⟩
    rw [← made_zeros .i32 n, Nat.mul_one]
    exact hown
  case round =>
    obtain ⟨k, cs, hk, rfl, hown, hbel, hfil⟩ := hrel
    by_cases hlt : k < n
    · have hE := h.below hbel
      obtain ⟨b, off, v, rfl, hc, hv, wv⟩ := hE.at_ hlt
      obtain ⟨v1, v2⟩ := wf64 wv
      have hf := hown.frozenAt k
      have hold : wr.cell? ⟨w.heap.size, k, none⟩ = some (.int .i32 (cs.getD k 0)) := by
        have hl := hfil.out.1
        rw [hown.cellAt k (by omega), List.getElem?_map, List.getD_eq_getElem?_getD, List.getElem?_eq_getElem (by omega)]; rfl
      obtain ⟨c, hcc⟩ : ∃ c, cs.getD k 0 = c := ⟨_, rfl⟩
      rw [hcc] at hold
      clear hcc
      have hq := exp v v1 v2 wr (hT.below hbel)
      have hfil' : Hid (FilledBy (fun i => E (xs.getD i 0)) n (k + 1) (cs.set k (E v))) := Lib.hid (by have := filledBy_step hfil.out hlt; rwa [hv.out] at this)
      have hnew : ∀ d, ((wr.drewN d).setCell ⟨w.heap.size, k, none⟩ (.int .i32 (E v))).ownsRow w.heap.size 21 1 (.slice (some ⟨w.heap.size, 0, none⟩) n n) n ((cs.set k (E v)).map (.int .i32)) := fun d => by
        have hown' : (wr.drewN d).ownsRow w.heap.size 21 1 (.slice (some ⟨w.heap.size, 0, none⟩) n n) n (cs.map (.int .i32)) := hown
        have := (hown'.stored k (.int .i32 (E v))).1
        rwa [← List.map_set] at this
      have hbel' : ∀ d, Below w.heap.size w ((wr.drewN d).setCell ⟨w.heap.size, k, none⟩ (.int .i32 (E v))) := fun d => (below_drewN hbel d).setCell (p := ⟨w.heap.size, k, none⟩) (Nat.le_refl _) _
      obtain ⟨y, hy⟩ : ∃ y, E v = y := ⟨_, rfl⟩
      rw [hy] at hq hfil' hnew hbel'
      clear hv hfil hE h hown hbel hT hy
      go_wp2_with fail
      refine hq.mono ?_
      rintro e w' ⟨rfl, d, rfl⟩
      go_wp2
      go_roundw
      case rel => exact ⟨k + 1, cs.set k y, by omega, by go_num, hnew d, hbel' d, hfil'⟩
      case measure => simp [intOf]; omega
    · obtain rfl : k = n := by omega
      have he := filledBy_end (g := E) hfil.out h.1 (fun i _ => rfl)
      have HE := Lib.hid he
      clear h he hT
      go_wp2
      go_ret
      exact ⟨w.heap.size, rfl, by rw [← HE.out]; exact own_elems hown (by omega) (by rw [HE.out]; intro c hc; obtain ⟨x, _, rfl⟩ := List.mem_map.1 hc; exact E_wf x), hbel⟩

end Go.Proofs.YtdclfcfdadkmeaaDoor
