/-
  Contract of Quants: for every list of up to 2^24 numbers it returns a new slice that holds Quant of each; what was in memory stays.
-/
import Derived.Test.YtkiedganojaniaaScale
import Derived.Test.YtkiedganojaniaaElems
import Derived.OwnWalk
import Derived.Deep.OwnRows
import Derived.WalkSmall
namespace Go.Proofs.Ytkiedganojaniaa
open Go.RowKit
set_option linter.unusedVariables false

/-- what Quant gives -/
def qua (x y n : Int) : Int := near (shr (x * y) n) (-128) 127

theorem info_int8 : (Try.prog.info? 46).map (fun i => (i.zero, i.size, i.bytes)) = some (some (.int .i8 0), 1, 1) := by kernel_rfl

/-- k of the n numbers are written, the rest is 0 -/
def Filled (xs : List Int) (y m : Int) (n k : Nat) (cs : List Int) : Prop :=
  cs.length = n ∧ ∀ i, i < n → cs.getD i 0 = if i < k then qua (xs.getD i 0) y m else 0

theorem filled_start (xs : List Int) (y m : Int) (n : Nat) : Filled xs y m n 0 (List.replicate n 0) := by
  refine ⟨by simp, fun i hi => ?_⟩
  rw [if_neg (by omega), List.getD_eq_getElem?_getD, List.getElem?_replicate, if_pos hi]; rfl
theorem filled_step {xs : List Int} {y m : Int} {n k : Nat} {cs : List Int} (h : Filled xs y m n k cs) (hk : k < n) : Filled xs y m n (k + 1) (cs.set k (qua (xs.getD k 0) y m)) := by
  refine ⟨by simpa using h.1, fun i hi => ?_⟩
  rw [List.getD_eq_getElem?_getD, List.getElem?_set]
  by_cases e : k = i
  · subst e
    rw [if_pos rfl, if_pos (by rw [h.1]; exact hk), if_pos (by omega)]; rfl
  · rw [if_neg e, ← List.getD_eq_getElem?_getD, h.2 i hi]
    by_cases h2 : i < k
    · rw [if_pos h2, if_pos (by omega)]
    · rw [if_neg h2, if_neg (by omega)]
theorem filled_end {xs : List Int} {y m : Int} {n : Nat} {cs : List Int} (h : Filled xs y m n n cs) (hx : xs.length = n) : cs = xs.map (qua · y m) := by
  apply List.ext_getElem (by rw [h.1, List.length_map, hx])
  intro i h1 h2
  have h3 := h.2 i (by rw [← h.1]; exact h1)
  rw [if_pos (by rw [← h.1]; exact h1), List.getD_eq_getElem?_getD, List.getD_eq_getElem?_getD, List.getElem?_eq_getElem h1, List.getElem?_eq_getElem (by simpa using h2)] at h3
  simpa using h3
theorem qua_wf (x y n : Int) : (Lit.int .i8 (qua x y n)).wf = true := WalkArith.wf_i8 (near_in _ _ _ (by decide))

theorem make_zero (n : Nat) : (madeCells (Value.int .i8 0).cells (n * 1)).toList = (List.replicate n 0).map (Value.int .i8) := by
  rw [Nat.mul_one]
  apply List.ext_getElem (by simp [size_madeCells])
  intro i h1 h2
  simp [madeCells, Value.cells, Nat.mod_one]

set_option maxHeartbeats 400000 in
theorem quants_new (y m : Int) (a : Option Addr) (n cap : Nat) (xs : List Int) (w : World) (h : Elems .i32 w a n xs) (hn : n ≤ 16777216) (hy1 : -2147483648 ≤ y) (hy2 : y ≤ 2147483647) :
    Calls Try.prog 37 #[.int .i32 y, .int .i64 m, .slice a n cap] w fun e w' => ∃ g, e = .returned (.slice (some ⟨g, 0, none⟩) n n) ∧ w.heap.size ≤ g ∧ Elems .i8 w' (some ⟨g, 0, none⟩) n (xs.map (qua · y m)) ∧ Below w.heap.size w w' := by
  have hmk := run_make_row' (P := Try.prog) 22 46 (.int .i8 0) 1 Try.underlying22 info_int8 rfl .i64 .i64 n (by omega) (by omega)
  go_enter Try.func37, Try.ntmps37
  go_wp2
  go_loopw [15] (fun i wr => ∃ (k : Nat) (cs : List Int), k ≤ n ∧ i = .int .i64 k ∧ wr.ownsRow w.heap.size 46 1 (.slice (some ⟨w.heap.size, 0, none⟩) n n) n (cs.map (.int .i8)) ∧ Below w.heap.size w wr ∧ Hid (Filled xs y m n k cs)) (fun i _ => n - (intOf i).toNat)
  case atStart =>
    have hown := World.ownsRow_lit (e := 46) (size := 1) w (madeCells #[Value.int .i8 0] n) n (Nat.le_refl _) (by unfold maxLen; omega) (by rw [size_madeCells, Nat.mul_one])
    refine ⟨0, List.replicate n 0, by omega, rfl, ?_, (Below.refl _ _).alloc (Nat.le_refl _) _, Lib.hid (filled_start xs y m n)⟩
    rw [← make_zero n, Nat.mul_one]
    exact hown
  case round =>
    obtain ⟨k, cs, hk, rfl, hown, hbel, hfil⟩ := hrel
    by_cases hlt : k < n
    · have hE := h.below hbel
      obtain ⟨b, off, v, rfl, hc, hv, wv⟩ := hE.at_ hlt
      obtain ⟨v1, v2⟩ := wf32 wv
      have hf := hown.frozenAt k
      have hold : wr.cell? ⟨w.heap.size, k, none⟩ = some (.int .i8 (cs.getD k 0)) := by
        have hl := hfil.out.1
        rw [hown.cellAt k (by omega), List.getElem?_map, List.getD_eq_getElem?_getD, List.getElem?_eq_getElem (by omega)]; rfl
      obtain ⟨c, hcc⟩ : ∃ c, cs.getD k 0 = c := ⟨_, rfl⟩
      rw [hcc] at hold
      clear hcc
      have hq : ∀ w, Calls Try.prog 45 #[.int .i32 v, .int .i32 y, .int .i64 m] w fun e w' => e = .returned (.int .i8 (qua v y m)) ∧ w = w' := fun w => quant v y m v1 v2 hy1 hy2 w
      have hnew := (hown.stored k (.int .i8 (qua v y m))).1
      have hbel' := hbel.setCell (p := ⟨w.heap.size, k, none⟩) (Nat.le_refl _) (.int .i8 (qua v y m))
      have hfil' : Hid (Filled xs y m n (k + 1) (cs.set k (qua v y m))) := Lib.hid (by have := filled_step hfil.out hlt; rwa [hv.out] at this)
      rw [← List.map_set] at hnew
      clear hv hfil hE h hown hbel
      go_wp2_with (go_at_call 45; (with_reducible refine (hq _).mono ?_); rintro e w' ⟨rfl, rfl⟩)
      go_roundw
      case rel => exact ⟨k + 1, cs.set k (qua v y m), by omega, by go_num, hnew, hbel', hfil'⟩
      case measure => simp [intOf]; omega
    · obtain rfl : k = n := by omega
      have hl := h.1
      clear h
      go_wp2
      go_ret
      exact ⟨w.heap.size, rfl, Nat.le_refl _, by rw [← filled_end hfil.out hl]; exact own_elems hown (by omega) (by rw [filled_end hfil.out hl]; intro c hc; obtain ⟨x, _, rfl⟩ := List.mem_map.1 hc; exact qua_wf _ _ _), hbel⟩

theorem quants (y m : Int) (a : Option Addr) (n cap : Nat) (xs : List Int) (w : World) (h : Elems .i32 w a n xs) (hn : n ≤ 16777216) (hy1 : -2147483648 ≤ y) (hy2 : y ≤ 2147483647) :
    Calls Try.prog 37 #[.int .i32 y, .int .i64 m, .slice a n cap] w fun e w' => ∃ g, e = .returned (.slice (some ⟨g, 0, none⟩) n n) ∧ Elems .i8 w' (some ⟨g, 0, none⟩) n (xs.map (qua · y m)) ∧ Below w.heap.size w w' :=
  (quants_new y m a n cap xs w h hn hy1 hy2).mono fun _ _ ⟨g, h1, _, h3, h4⟩ => ⟨g, h1, h3, h4⟩

end Go.Proofs.Ytkiedganojaniaa
