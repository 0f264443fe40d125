/-
  Bytes as strings, and compared as such.
-/
import Derived.Test.YtkinbngikmcpeaaAppRow
import Derived.Test.YtkinbngikmcpeaaBaList
import Derived.Laws.BytesArg
namespace Go.Proofs.Ytkinbngikmcpeaa
open Go.RowKit
set_option linter.unusedVariables false

theorem wfu8b {n : Int} (h : (Lit.int .u8 n).wf = true) : 0 ≤ n ∧ n ≤ 255 := by
  simp [Lit.wf, IntKind.min, IntKind.max, IntKind.signed, IntKind.bits] at h; omega
/-- a row of bytes as a string -/
theorem conv_u8 {w : World} {a : Option Addr} {n cap : Nat} {xs : List Int} (h : Elems .u8 w a n xs) : Sem.run Try.prog (convert 37 9 (.slice a n cap)) w = .ok (.string (strOfNums xs)) w := by
  by_cases h0 : 0 < n
  · obtain ⟨b, off, rfl, hc⟩ := h.2.2.2 h0
    exact run_convert_bytes_arg (P := Try.prog) w 37 5 Try.underlying37 Try.underlying5 b off n cap xs h.1 hc 9 Try.underlying9
  · obtain rfl : n = 0 := by omega
    obtain rfl : xs = [] := List.length_eq_zero_iff.1 h.1
    cases a with
    | none => exact run_convert_bytes_nil (P := Try.prog) (w := w) 37 5 Try.underlying37 Try.underlying5 0 cap 9 Try.underlying9
    | some x =>
      rw [run_convert_bytes_string w _ _ _ _ _ _ Try.underlying37 Try.underlying5 Try.underlying9]
      exact run_bytesToString (P := Try.prog) w x 0 cap [] (run_loadCells_list (P := Try.prog) w x [] (fun j v hj => by simp at hj))
theorem str14_inj {xs ys : List Int} (hx : ∀ x ∈ xs, (Lit.int .u8 x).wf = true) (hy : ∀ x ∈ ys, (Lit.int .u8 x).wf = true) (h : (strOfNums xs).toList = (strOfNums ys).toList) : xs = ys := by
  rw [ba_toList, ba_toList, strOfNums_data, strOfNums_data] at h
  exact bytes_back xs ys (fun x hm => by have := wfu8b (hx x hm); omega) (fun y hm => by have := wfu8b (hy y hm); omega) h
/-- two such strings compared -/
theorem str14_eq {xs ys : List Int} (hx : ∀ x ∈ xs, (Lit.int .u8 x).wf = true) (hy : ∀ x ∈ ys, (Lit.int .u8 x).wf = true) : ((strOfNums xs).toList == (strOfNums ys).toList) = decide (xs = ys) := by
  by_cases h : xs = ys
  · rw [decide_eq_true h, h]; simp
  · rw [decide_eq_false h]
    apply Bool.eq_false_iff.mpr
    intro h2
    exact h (str14_inj hx hy (eq_of_beq h2))


end Go.Proofs.Ytkinbngikmcpeaa
