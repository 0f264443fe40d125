/-
  Contracts of Argmax and of the document's Argmax: for every list of numbers each returns the first place of a greatest one, -1 of none; they read memory alone.
-/
import Derived.Test.YthblniakghfchaaDoorElems
import Derived.WalkSmall
namespace Go.Proofs.YthblniakghfchaaDoor
open Go.RowKit
set_option linter.unusedVariables false

/-- b is the first place of a greatest one among the first k numbers, -1 of none -/
def Best (xs : List Int) (k : Nat) (b : Int) : Prop :=
  (k = 0 ∧ b = -1) ∨ ∃ j : Nat, b = j ∧ j < k ∧ (∀ i, i < k → xs.getD i 0 ≤ xs.getD j 0) ∧ ∀ i, i < j → xs.getD i 0 < xs.getD j 0

theorem best_uniq {xs : List Int} {k : Nat} {b c : Int} (h : Best xs k b) (h' : Best xs k c) : b = c := by
  rcases h with ⟨h0, rfl⟩ | ⟨j, rfl, hj, h1, h2⟩
  · rcases h' with ⟨_, rfl⟩ | ⟨j, _, hj, _⟩
    · rfl
    · omega
  · rcases h' with ⟨h0, _⟩ | ⟨i, rfl, hi, h3, h4⟩
    · omega
    · rcases Nat.lt_trichotomy i j with hlt | rfl | hgt
      · have := h2 i hlt; have := h3 j hj; omega
      · rfl
      · have := h4 j hgt; have := h1 i hi; omega

theorem best_start (xs : List Int) : Best xs 0 (-1) := .inl ⟨rfl, rfl⟩
theorem best_first {xs : List Int} {b : Int} (h : Best xs 0 b) : Best xs 1 0 := by
  refine .inr ⟨0, rfl, by omega, fun i hi => ?_, fun i hi => by omega⟩
  obtain rfl : i = 0 := by omega
  exact Int.le_refl _
theorem best_new {xs : List Int} {k j : Nat} (h : Best xs k j) (hlt : xs.getD j 0 < xs.getD k 0) : Best xs (k + 1) k := by
  rcases h with ⟨_, h0⟩ | ⟨j', he, hj, h1, h2⟩
  · omega
  · obtain rfl : j' = j := by omega
    refine .inr ⟨k, rfl, by omega, fun i hi => ?_, fun i hi => ?_⟩
    · rcases Nat.lt_or_ge i k with h | h
      · have := h1 i h; omega
      · obtain rfl : i = k := by omega
        exact Int.le_refl _
    · have := h1 i hi; omega
theorem best_old {xs : List Int} {k j : Nat} (h : Best xs k j) (hle : ¬ xs.getD j 0 < xs.getD k 0) : Best xs (k + 1) j := by
  rcases h with ⟨_, h0⟩ | ⟨j', he, hj, h1, h2⟩
  · omega
  · obtain rfl : j' = j := by omega
    refine .inr ⟨j', rfl, by omega, fun i hi => ?_, h2⟩
    rcases Nat.lt_or_ge i k with h | h
    · exact h1 i h
    · obtain rfl : i = k := by omega
      omega
theorem best_is {xs : List Int} {k : Nat} {b : Int} (h : Best xs k b) (hk : k ≠ 0) : ∃ j : Nat, b = j ∧ j < k := by
  rcases h with ⟨h0, _⟩ | ⟨j, he, hj, _⟩
  · exact absurd h0 hk
  · exact ⟨j, he, hj⟩
theorem best_exists (xs : List Int) (k : Nat) : ∃ b, Best xs k b := by
  induction k with
  | zero => exact ⟨-1, best_start xs⟩
  | succ k ih =>
    obtain ⟨b, hb⟩ := ih
    by_cases h0 : k = 0
    · subst h0; exact ⟨0, best_first hb⟩
    · obtain ⟨j, rfl, hj⟩ := best_is hb h0
      by_cases hlt : xs.getD j 0 < xs.getD k 0
      · exact ⟨k, best_new hb hlt⟩
      · exact ⟨j, best_old hb hlt⟩

set_option maxHeartbeats 400000 in
theorem argmax (a : Option Addr) (n cap : Nat) (xs : List Int) (w : World) (h : Elems .i32 w a n xs) (B : Int) (hB : Best xs n B) :
    Calls Tryd.prog 30 #[.slice a n cap] w fun e w' => e = .returned (.int .i64 B) ∧ w = w' := by
  have hn := h.2.1
  have HB := Lib.hid hB
  clear hB
  go_enter Tryd.func30, Tryd.ntmps30
  go_wp2
  go_loop [3, 8] (fun s i => ∃ (k : Nat) (b : Int), k ≤ n ∧ i = .int .i64 k ∧ s = .int .i64 b ∧ Hid (Best xs k b)) (fun _ i => n - (intOf i).toNat)
  case atStart => exact ⟨0, -1, by omega, rfl, rfl, Lib.hid (best_start xs)⟩
  case round =>
    obtain ⟨k, b, hk, rfl, rfl, hb⟩ := hrel
    by_cases hlt : k < n
    · by_cases h0 : k = 0
      · obtain ⟨g, off, v, rfl, hc, hv, wv⟩ := h.at_ hlt
        subst h0
        rw [Nat.add_zero] at hc
        have T := Lib.hid (best_first hb.out)
        obtain rfl : b = -1 := best_uniq hb.out (best_start xs)
        clear hv wv h hb
        go_wp2
        go_round
        case rel => exact ⟨1, 0, by omega, rfl, rfl, T⟩
        case measure => simp [intOf]; omega
      · obtain ⟨j, rfl, hj⟩ := best_is hb.out h0
        obtain ⟨g, off, v, rfl, hc, hv, wv⟩ := h.at_ hlt
        obtain ⟨g', off', u, he, hc', hu, wu⟩ := h.at_ (i := j) (by omega)
        simp only [Option.some.injEq, Addr.mk.injEq] at he
        obtain ⟨rfl, rfl, _⟩ := he
        by_cases hgt : u < v
        · have T := Lib.hid (best_new hb.out (by rw [hu.out, hv.out]; exact hgt))
          clear hv wv h hb hu wu
          go_wp2
          go_round
          case rel => exact ⟨k + 1, k, by omega, by go_num, rfl, T⟩
          case measure => simp [intOf]; omega
        · have T := Lib.hid (best_old hb.out (by rw [hu.out, hv.out]; exact hgt))
          clear hv wv h hb hu wu
          go_wp2
          go_round
          case rel => exact ⟨k + 1, j, by omega, by go_num, rfl, T⟩
          case measure => simp [intOf]; omega
    · obtain rfl : k = n := by omega
      clear h
      go_wp2
      go_ret
      exact ⟨ret_int (best_uniq hb.out HB.out), rfl⟩

end Go.Proofs.YthblniakghfchaaDoor
