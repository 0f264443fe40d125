/-
  Contracts of line (a row of a right grid, where it lies), inside, and the document's Cell.
-/
import Derived.Test.YtocjcfblpifdhaaGrids
namespace Go.Proofs.Ytocjcfblpifdhaa
open Go.RowKit
set_option linter.unusedVariables false

/-- where row i of a grid of C columns at a lies -/
theorem rowOf_elems {w : World} {b off R C i : Nat} {xs : List Int} (h : Elems .i32 w (some ⟨b, off, none⟩) (R * C) xs) (hi : i < R) : Elems .i32 w (some ⟨b, off + i * C, none⟩) C (rowOf xs C i) := by
  have hl := row_le (C := C) hi
  have := (h.drop (i * C) (by omega)).take C (by omega)
  exact this

theorem line_any (R C i : Nat) (b off cap : Nat) (w : World) (hcap : R * C ≤ cap) (hcap2 : cap ≤ 9223372036854775807) (hR : R ≤ 4096) (hC : C ≤ 4096) (hC0 : 0 < C) (hi : i < R) :
    Calls Try.prog 37 #[.agg #[.int .i64 R, .int .i64 C, .slice (some ⟨b, off, none⟩) (R * C : Nat) cap], .int .i64 i] w fun e w' => e = .returned (.slice (some ⟨b, off + i * C, none⟩) C (cap - i * C)) ∧ Below w.heap.size w w' := by
  have hl := row_le (C := C) hi
  have p1 : R * C ≤ 4096 * 4096 := Nat.mul_le_mul hR hC
  have p2 : i * C ≤ 4096 * 4096 := Nat.mul_le_mul (by omega) hC
  obtain ⟨m, hm⟩ : ∃ m, m = i * C := ⟨_, rfl⟩
  have e1 : (i : Int) * (C : Int) = (m : Int) := by rw [hm]; push_cast; rfl
  rw [← hm] at hl p2 ⊢
  obtain ⟨n, hn⟩ : ∃ n, n = R * C := ⟨_, rfl⟩
  rw [← hn] at hl p1 hcap ⊢
  clear hm hn
  go_enter Try.func37, Try.ntmps37
  go_wp2_with fail
  go_quiet (fail)
  go_wp2
  go_ret
  exact ⟨rfl, below_drewN ((Below.refl _ _).alloc (Nat.le_refl _) _) _⟩

/-- a row of a grid of no columns -/
theorem line_zero (R i : Nat) (a : Option Addr) (cap : Nat) (w : World) (hcap2 : cap ≤ 9223372036854775807) (ha : a = none → cap = 0) :
    Calls Try.prog 37 #[.agg #[.int .i64 R, .int .i64 0, .slice a 0 cap], .int .i64 i] w fun e w' => e = .returned (.slice a 0 cap) ∧ Below w.heap.size w w' := by
  cases a with
  | none =>
    obtain rfl := ha rfl
    go_enter Try.func37, Try.ntmps37
    go_wp2_with fail
    go_quiet (fail)
    go_wp2
    go_ret
    exact ⟨rfl, below_drewN ((Below.refl _ _).alloc (Nat.le_refl _) _) _⟩
  | some x =>
    clear ha
    go_enter Try.func37, Try.ntmps37
    go_wp2_with fail
    go_quiet (fail)
    go_wp2
    go_ret
    exact ⟨rfl, below_drewN ((Below.refl _ _).alloc (Nat.le_refl _) _) _⟩

/-- a row, wherever the grid lies -/
theorem line_at (R C i : Nat) (a : Option Addr) (cap : Nat) (w : World) (hcap : R * C ≤ cap) (hcap2 : cap ≤ 9223372036854775807) (ha : a = none → cap = 0) (ha2 : ∀ x, a = some x → 0 < R * C → x.spot = none) (hR : R ≤ 4096) (hC : C ≤ 4096) (hi : i < R) :
    Calls Try.prog 37 #[.agg #[.int .i64 R, .int .i64 C, .slice a (R * C : Nat) cap], .int .i64 i] w fun e w' => (∃ a' cap', e = .returned (.slice a' C cap') ∧ C ≤ cap' ∧ cap' ≤ 9223372036854775807 ∧ (0 < C → ∃ b off, a = some ⟨b, off, none⟩ ∧ a' = some ⟨b, off + i * C, none⟩)) ∧ Below w.heap.size w w' := by
  by_cases hC0 : 0 < C
  · have hl := row_le (C := C) hi
    cases a with
    | none => have := ha rfl; omega
    | some x =>
      obtain ⟨b, off, spot⟩ := x
      have hs := ha2 _ rfl (by omega)
      simp only at hs
      subst hs
      exact (line_any R C i b off cap w hcap hcap2 hR hC hC0 hi).mono fun e w' ⟨he, hb⟩ => ⟨⟨_, _, he, by omega, by omega, fun _ => ⟨b, off, rfl, rfl⟩⟩, hb⟩
  · obtain rfl : C = 0 := by omega
    exact (line_zero R i a cap w hcap2 ha).mono fun e w' ⟨he, hb⟩ => ⟨⟨a, cap, he, by omega, hcap2, fun h => absurd h (by omega)⟩, hb⟩

theorem inside_any (p q s : Int) (x : Bool) (hx : decide (0 ≤ p ∧ p ≤ q ∧ q ≤ s) = x) (w : World) :
    Calls Try.prog 40 #[.int .i64 p, .int .i64 q, .int .i64 s] w fun e w' => e = .returned (.bool x) ∧ w = w' := by
  by_cases h1 : 0 ≤ p
  · by_cases h2 : p ≤ q
    · by_cases h3 : q ≤ s
      · obtain rfl : x = true := by rw [← hx]; exact decide_eq_true ⟨h1, h2, h3⟩
        clear hx
        go_enter Try.func40, Try.ntmps40
        go_wp2
        go_ret
        exact ⟨rfl, rfl⟩
      · obtain rfl : x = false := by rw [← hx]; exact decide_eq_false (by omega)
        clear hx
        go_enter Try.func40, Try.ntmps40
        go_wp2
        go_ret
        exact ⟨rfl, rfl⟩
    · obtain rfl : x = false := by rw [← hx]; exact decide_eq_false (by omega)
      clear hx
      go_enter Try.func40, Try.ntmps40
      go_wp2
      go_ret
      exact ⟨rfl, rfl⟩
  · obtain rfl : x = false := by rw [← hx]; exact decide_eq_false (by omega)
    clear hx
    go_enter Try.func40, Try.ntmps40
    go_wp2
    go_ret
    exact ⟨rfl, rfl⟩

/-- a cell of a right grid -/
theorem ref_cell (R C i j : Nat) (a : Option Addr) (cap : Nat) (xs : List Int) (w : World) (h : Elems .i32 w a (R * C) xs) (hR : R ≤ 4096) (hC : C ≤ 4096) (hi : i < R) (hj : j < C) :
    Calls Try.prog 17 #[.agg #[.int .i64 R, .int .i64 C, .slice a (R * C : Nat) cap], .int .i64 i, .int .i64 j] w fun e w' => e = .returned (.int .i32 (xs.getD (i * C + j) 0)) ∧ Below w.heap.size w w' := by
  have hk := row_lt hi hj
  have p1 : R * C ≤ 4096 * 4096 := Nat.mul_le_mul hR hC
  obtain ⟨b, off, v, rfl, hc, hv, wv⟩ := (h.below ((Below.refl _ w).alloc (Nat.le_refl _) (Obj.cells #[.int .i64 R, .int .i64 C, .slice a (R * C : Nat) cap] 24))).at_ hk
  obtain ⟨m, hm⟩ : ∃ m, m = i * C := ⟨_, rfl⟩
  have e1 : (i : Int) * (C : Int) = (m : Int) := by rw [hm]; push_cast; rfl
  rw [← hm] at hk hv hc ⊢
  obtain ⟨n, hn⟩ : ∃ n, n = R * C := ⟨_, rfl⟩
  rw [← hn] at hk p1 hc ⊢
  obtain ⟨k, hk2⟩ : ∃ k, k = m + j := ⟨_, rfl⟩
  have e2 : (m : Int) + (j : Int) = (k : Int) := by rw [hk2]; push_cast; rfl
  rw [← hk2] at hk hv hc ⊢
  clear h hm hn wv hk2
  go_enter Try.func17, Try.ntmps17
  go_wp2
  go_ret
  exact ⟨ret_int hv.out.symm, (Below.refl _ _).alloc (Nat.le_refl _) _⟩

end Go.Proofs.Ytocjcfblpifdhaa
