/-
  Contract of the document's Argmax: for every list of numbers it returns the first place of a greatest one, -1 of none; it reads memory alone.
-/
import Derived.Test.YthkehkjoaelmaaaArgmax
import Derived.Deep.QuietTactic
import Derived.BigQuiet
namespace Go.Proofs.Ythkehkjoaelmaaa
open Go.RowKit
set_option linter.unusedVariables false

/-- no number among the first m is greater than the one at i -/
def Top (xs : List Int) (i m : Nat) : Prop := ∀ j, j < m → xs.getD j 0 ≤ xs.getD i 0

theorem top_zero (xs : List Int) (i : Nat) : Top xs i 0 := fun j hj => by omega
theorem top_more {xs : List Int} {i m : Nat} : Top xs i (m + 1) ↔ Top xs i m ∧ xs.getD m 0 ≤ xs.getD i 0 := by
  constructor
  · intro h; exact ⟨fun j hj => h j (by omega), h m (by omega)⟩
  · rintro ⟨h1, h2⟩ j hj
    rcases Nat.lt_or_ge j m with h | h
    · exact h1 j h
    · obtain rfl : j = m := by omega
      exact h2
theorem best_of_top {xs : List Int} {i n : Nat} (hi : i < n) (h : Top xs i n) (hno : ∀ j, j < i → ¬ Top xs j n) : Best xs n i := by
  refine .inr ⟨i, rfl, hi, h, fun j hj => ?_⟩
  have h1 := h j (by omega)
  rcases Int.lt_or_eq_of_le h1 with h2 | h2
  · exact h2
  · exact absurd (fun m hm => by rw [h2]; exact h m hm) (hno j hj)
theorem best_of_none {xs : List Int} {n : Nat} (hno : ∀ j, j < n → ¬ Top xs j n) : Best xs n (-1) := by
  by_cases h0 : n = 0
  · exact .inl ⟨h0, rfl⟩
  · obtain ⟨b, hb⟩ := best_exists xs n
    rcases hb with ⟨h, _⟩ | ⟨j, rfl, hj, h1, _⟩
    · exact absurd h h0
    · exact absurd h1 (hno j hj)

set_option maxHeartbeats 800000 in
theorem ref_argmax (a : Option Addr) (n cap : Nat) (xs : List Int) (w : World) (h : Elems .i32 w a n xs) (B : Int) (hB : Best xs n B) :
    Calls Try.prog 28 #[.slice a n cap] w fun e w' => e = .returned (.int .i64 B) ∧ ∃ d, w' = w.drewN d := by
  have hn := h.2.1
  have HB := Lib.hid hB
  clear hB
  go_enter Try.func28, Try.ntmps28
  go_wp2
  go_loopw [3] (fun i wr => ∃ (k : Nat) (d : Nat), k ≤ n ∧ i = .int .i64 k ∧ wr = w.drewN d ∧ Hid (∀ j, j < k → ¬ Top xs j n)) (fun i _ => n - (intOf i).toNat)
  case atStart => exact ⟨0, 0, by omega, rfl, rfl, Lib.hid (fun j hj => by omega)⟩
  case round =>
    obtain ⟨k, d, hk, rfl, rfl, hno⟩ := hrel
    by_cases hlt : k < n
    · have hlt' : (k : Int) < (n : Int) := by omega
      obtain ⟨b, off, v, rfl, hc, hv, wv⟩ := h.at_ hlt
      go_wp2
      go_loopw [4, 5] (fun t i wr => ∃ (q : Nat) (d' : Nat) (bb : Bool), q ≤ n ∧ i = .int .i64 q ∧ wr = w.drewN d' ∧ t = .bool bb ∧ Hid (bb = true ↔ Top xs k q)) (fun _ i _ => n - (intOf i).toNat)
      case atStart => exact ⟨0, d, true, by omega, rfl, rfl, rfl, Lib.hid ⟨fun _ => top_zero xs k, fun _ => rfl⟩⟩
      case round =>
        obtain ⟨q, d', bb, hq, rfl, rfl, rfl, hbb⟩ := hrel
        by_cases hlt2 : q < n
        · have hlt2' : (q : Int) < (n : Int) := by omega
          obtain ⟨b', off', u, he, hc', hu, wu⟩ := h.at_ hlt2
          simp only [Option.some.injEq, Addr.mk.injEq] at he
          obtain ⟨rfl, rfl, _⟩ := he
          by_cases hgt : v < u
          · have T : Hid (false = true ↔ Top xs k (q + 1)) := Lib.hid (by rw [top_more, hu.out, hv.out]; simp; omega)
            clear hv wv hu wu h hbb hno
            go_wp2
            go_quiet (fail)
            go_wp2
            go_roundw
            case rel => exact ⟨q + 1, _, false, by omega, by go_num, rfl, rfl, T⟩
            case measure => simp [intOf]; omega
          · have T : Hid (bb = true ↔ Top xs k (q + 1)) := Lib.hid (by rw [top_more, hu.out, hv.out, ← hbb.out]; simp; omega)
            clear hv wv hu wu h hbb hno
            go_wp2
            go_quiet (fail)
            go_wp2
            go_roundw
            case rel => exact ⟨q + 1, _, bb, by omega, by go_num, rfl, rfl, T⟩
            case measure => simp [intOf]; omega
        · obtain rfl : q = n := by omega
          clear h hv wv
          cases bb with
          | true =>
            have hT := Lib.hid (best_of_top hlt (hbb.out.1 rfl) hno.out)
            clear hbb hno
            go_wp2
            go_ret
            exact ⟨ret_int (best_uniq hT.out HB.out), _, rfl⟩
          | false =>
            have T : Hid (∀ j, j < k + 1 → ¬ Top xs j q) := Lib.hid (fun j hj => by
              rcases Nat.lt_or_ge j k with h | h
              · exact hno.out j h
              · obtain rfl : j = k := by omega
                intro ht; exact absurd (hbb.out.2 ht) (by simp))
            clear hbb hno
            go_wp2
            go_roundw
            case rel => exact ⟨k + 1, _, by omega, by go_num, rfl, T⟩
            case measure => simp [intOf]; omega
    · obtain rfl : k = n := by omega
      have hT := Lib.hid (best_of_none hno.out)
      clear h hno
      go_wp2
      go_ret
      exact ⟨ret_int (best_uniq hT.out HB.out), _, rfl⟩

end Go.Proofs.Ythkehkjoaelmaaa
