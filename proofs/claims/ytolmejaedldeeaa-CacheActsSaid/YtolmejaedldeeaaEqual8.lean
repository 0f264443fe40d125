/-
  Are two rows of bytes alike: the library's answer, the document's.
-/
import Derived.Test.YtolmejaedldeeaaSame1
import Derived.BigQuiet
namespace Go.Proofs.Ytolmejaedldeeaa
open Go.RowKit
set_option linter.unusedVariables false

theorem take_next1 {xs ys : List Int} {k : Nat} (h1 : k < xs.length) (h2 : k < ys.length) (h : xs.take k = ys.take k) (he : xs.getD k 0 = ys.getD k 0) : xs.take (k + 1) = ys.take (k + 1) := by
  rw [List.getD_eq_getElem?_getD, List.getElem?_eq_getElem h1, List.getD_eq_getElem?_getD, List.getElem?_eq_getElem h2] at he
  rw [List.take_add_one (l := xs), List.take_add_one (l := ys), h, List.getElem?_eq_getElem h1, List.getElem?_eq_getElem h2]
  simp at he
  simp [he]

set_option maxHeartbeats 800000 in
set_option maxRecDepth 100000 in
theorem equal8 (a b : Option Addr) (n m cap cap' : Nat) (xs ys : List Int) (w : World) (hX : Elems .i8 w a n xs) (hY : Elems .i8 w b m ys) :
    Calls Try.prog 29 #[.slice a n cap, .slice b m cap'] w fun e w' => e = .returned (.bool (decide (xs = ys))) ∧ Below w.heap.size w w' := by
  have hn := hX.2.1
  have HX := Lib.hid hX
  have HY := Lib.hid hY
  by_cases hnm : n = m
  · subst hnm
    clear hX hY
    go_enter Try.func29, Try.ntmps29
    go_wp2_with fail
    go_loopw [13] (fun i wr => ∃ (k d : Nat), k ≤ n ∧ i = .int .i64 k ∧ Hid (xs.take k = ys.take k) ∧ wr = w.drewN d) (fun i _ => n - (intOf i).toNat)
    case atStart => exact ⟨0, 0, by omega, rfl, Lib.hid rfl, rfl⟩
    case round =>
      obtain ⟨k, d, hk, rfl, hT, rfl⟩ := hrel
      by_cases hlt : k < n
      · obtain ⟨p, o, v, rfl, hc, hv, wv⟩ := HX.out.at_ hlt
        obtain ⟨p', o', u, rfl, hc', hu, wu⟩ := HY.out.at_ hlt
        have l1 : k < xs.length := by rw [HX.out.1]; exact hlt
        have l2 : k < ys.length := by rw [HY.out.1]; exact hlt
        clear wv wu
        by_cases hvu : v = u
        · subst hvu
          have hst : Hid (xs.take (k + 1) = ys.take (k + 1)) := Lib.hid (take_next1 l1 l2 hT.out (by rw [hv.out, hu.out]))
          go_wp2
          go_quiet (fail)
          go_wp2
          go_roundw
          case rel => exact ⟨k + 1, _, by omega, by go_num, hst, rfl⟩
          case measure => simp [intOf]; omega
        · have hne : Hid (decide (xs = ys) = false) := Lib.hid (by
            apply decide_eq_false
            rintro rfl
            exact hvu (by rw [← hv.out, ← hu.out]))
          have hbne : (v == u) = false := by simpa using hvu
          go_wp2
          go_quiet (fail)
          go_wp2
          go_ret
          exact ⟨ret_bool hne.out.symm, below_drewN (below_drewN (Below.refl _ _) _) _⟩
      · obtain rfl : k = n := by omega
        have he : Hid (decide (xs = ys) = true) := Lib.hid (by
          apply decide_eq_true
          have := hT.out
          rwa [List.take_of_length_le (by rw [HX.out.1]; exact Nat.le_refl _), List.take_of_length_le (by rw [HY.out.1]; exact Nat.le_refl _)] at this)
        go_wp2
        go_ret
        exact ⟨ret_bool he.out.symm, below_drewN (Below.refl _ _) _⟩
  · have hne : Hid (decide (xs = ys) = false) := Lib.hid (by
      apply decide_eq_false
      rintro rfl
      exact hnm (by rw [← HX.out.1, ← HY.out.1]))
    have hb : ((n : Int) == (m : Int)) = false := by simp; omega
    clear hX hY
    go_enter Try.func29, Try.ntmps29
    go_wp2
    go_ret
    exact ⟨ret_bool hne.out.symm, Below.refl _ _⟩

set_option maxHeartbeats 800000 in
set_option maxRecDepth 100000 in
theorem bytes_any (a b : Option Addr) (n m cap cap' : Nat) (xs ys : List Int) (w : World) (hX : Elems .i8 w a n xs) (hY : Elems .i8 w b m ys) :
    Calls Try.prog 15 #[.slice a n cap, .slice b m cap'] w fun e w' => e = .returned (.bool (decide (xs = ys))) ∧ Below w.heap.size w w' := by
  have hn := hX.2.1
  have HX := Lib.hid hX
  have HY := Lib.hid hY
  by_cases hnm : n = m
  · subst hnm
    clear hX hY
    go_enter Try.func15, Try.ntmps15
    go_wp2_with fail
    go_loopw [5] (fun i wr => ∃ (k d : Nat), k ≤ n ∧ i = .int .i64 k ∧ Hid (xs.take k = ys.take k) ∧ wr = w.drewN d) (fun i _ => n - (intOf i).toNat)
    case atStart => exact ⟨0, 0, by omega, rfl, Lib.hid rfl, rfl⟩
    case round =>
      obtain ⟨k, d, hk, rfl, hT, rfl⟩ := hrel
      by_cases hlt : k < n
      · obtain ⟨p, o, v, rfl, hc, hv, wv⟩ := HX.out.at_ hlt
        obtain ⟨p', o', u, rfl, hc', hu, wu⟩ := HY.out.at_ hlt
        have l1 : k < xs.length := by rw [HX.out.1]; exact hlt
        have l2 : k < ys.length := by rw [HY.out.1]; exact hlt
        clear wv wu
        by_cases hvu : v = u
        · subst hvu
          have hst : Hid (xs.take (k + 1) = ys.take (k + 1)) := Lib.hid (take_next1 l1 l2 hT.out (by rw [hv.out, hu.out]))
          go_wp2
          go_quiet (fail)
          go_wp2
          go_roundw
          case rel => exact ⟨k + 1, _, by omega, by go_num, hst, rfl⟩
          case measure => simp [intOf]; omega
        · have hne : Hid (decide (xs = ys) = false) := Lib.hid (by
            apply decide_eq_false
            rintro rfl
            exact hvu (by rw [← hv.out, ← hu.out]))
          have hbne : (v == u) = false := by simpa using hvu
          go_wp2
          go_quiet (fail)
          go_wp2
          go_ret
          exact ⟨ret_bool hne.out.symm, below_drewN (below_drewN (Below.refl _ _) _) _⟩
      · obtain rfl : k = n := by omega
        have he : Hid (decide (xs = ys) = true) := Lib.hid (by
          apply decide_eq_true
          have := hT.out
          rwa [List.take_of_length_le (by rw [HX.out.1]; exact Nat.le_refl _), List.take_of_length_le (by rw [HY.out.1]; exact Nat.le_refl _)] at this)
        go_wp2
        go_ret
        exact ⟨ret_bool he.out.symm, below_drewN (Below.refl _ _) _⟩
  · have hne : Hid (decide (xs = ys) = false) := Lib.hid (by
      apply decide_eq_false
      rintro rfl
      exact hnm (by rw [← HX.out.1, ← HY.out.1]))
    have hb : ((n : Int) == (m : Int)) = false := by simp; omega
    clear hX hY
    go_enter Try.func15, Try.ntmps15
    go_wp2
    go_ret
    exact ⟨ret_bool hne.out.symm, Below.refl _ _⟩

end Go.Proofs.Ytolmejaedldeeaa
