/-
  Contracts of Dot and of the document's Dot: for every two rows of 8 bits each returns the sum of the products as far as both go, wrapped to 32 bits.
-/
import Derived.Test.YtkiedganojaniaaSums
import Derived.Test.YtkiedganojaniaaOwn
import Derived.Deep.QuietTactic
import Derived.BigQuiet
import Derived.Deep.RegionHeld3
import Derived.Deep.AppendLies
namespace Go.Proofs.Ytkiedganojaniaa
open Go.RowKit
set_option linter.unusedVariables false

/-- the products, as far as both rows go -/
def prods (xs ys : List Int) : List Int := List.zipWith (· * ·) xs ys

theorem prods_len (xs ys : List Int) : (prods xs ys).length = min xs.length ys.length := by simp [prods]
theorem prods_at (xs ys : List Int) (k : Nat) (hx : k < xs.length) (hy : k < ys.length) : (prods xs ys).getD k 0 = xs.getD k 0 * ys.getD k 0 := by
  simp [prods, List.getD, List.getElem?_eq_getElem hx, List.getElem?_eq_getElem hy, List.getElem?_zipWith]

theorem prods_comm (xs ys : List Int) : prods xs ys = prods ys xs := by
  unfold prods
  rw [List.zipWith_comm]
  congr 1
  funext a b
  exact Int.mul_comm _ _
theorem pieces {xs ys : List Int} {l m n k : Nat} (hx : xs.length = l) (hy : ys.length = m) (hn : n = min l m) (hk : k ≤ n) :
    wrap32 (wsum (prods (xs.take k) (ys.take k)) + wsum (prods ((xs.drop k).take (n - k)) ((ys.drop k).take (n - k)))) = wsum (prods xs ys) := by
  unfold wsum
  rw [wrap32_add2, sum_rest (prods xs ys) k]
  have e1 : prods (xs.take k) (ys.take k) = (prods xs ys).take k := by unfold prods; rw [List.take_zipWith]
  have e2 : prods ((xs.drop k).take (n - k)) ((ys.drop k).take (n - k)) = (prods xs ys).drop k := by
    unfold prods
    rw [List.drop_zipWith, ← List.take_zipWith, List.take_of_length_le]
    rw [List.length_zipWith, List.length_drop, List.length_drop]; omega
  rw [e1, e2]

theorem prod8 (x y : Int) (hx : -128 ≤ x ∧ x ≤ 127) (hy : -128 ≤ y ∧ y ≤ 127) : -16384 ≤ x * y ∧ x * y ≤ 16384 := by
  have ha : (x * y).natAbs ≤ 128 * 128 := by
    rw [Int.natAbs_mul]
    exact Nat.mul_le_mul (by omega) (by omega)
  omega

theorem prods_wf {w w' : World} {a b : Option Addr} {n m : Nat} {xs ys : List Int} (hX : Elems .i8 w a n xs) (hY : Elems .i8 w' b m ys) : ∀ c ∈ prods xs ys, (Lit.int .i64 c).wf = true := by
  intro c hc
  obtain ⟨i, hi, rfl⟩ := List.mem_iff_getElem.1 hc
  have hl := prods_len xs ys
  have h1 := wf8 (hX.2.2.1 _ (getD_mem (i := i) (by omega)))
  have h2 := wf8 (hY.2.2.1 _ (getD_mem (i := i) (by omega)))
  have h3 := prods_at xs ys i (by omega) (by omega)
  rw [List.getD_eq_getElem?_getD, List.getElem?_eq_getElem hi] at h3
  simp only [Option.getD_some] at h3
  rw [h3]
  have := prod8 _ _ h1 h2
  exact WalkArith.wf_i64 (by omega)

set_option maxHeartbeats 400000 in
theorem dot (a : Option Addr) (n cap : Nat) (xs : List Int) (b : Option Addr) (m cap' : Nat) (ys : List Int) (w : World) (hX : Elems .i8 w a n xs) (hY : Elems .i8 w b m ys) :
    Calls Try.prog 42 #[.slice a n cap, .slice b m cap'] w fun e w' => e = .returned (.int .i32 (wsum (prods xs ys))) ∧ ∃ d, w' = w.drewN d := by
  have hn := hX.2.1
  have hm := hY.2.1
  by_cases hmn : (m : Int) < (n : Int)
  all_goals
    go_enter Try.func42, Try.ntmps42
    go_wp2
    go_loopw [5, 12] (fun s i wr => ∃ (k : Nat) (t : Int) (d : Nat), k ≤ n ∧ k ≤ m ∧ i = .int .i64 k ∧ s = .int .i32 t ∧ Hid (t = wrap32 ((prods xs ys).take k).sum) ∧ wr = w.drewN d) (fun _ i _ => min n m - (intOf i).toNat)
    case atStart => exact ⟨0, 0, 0, by omega, by omega, rfl, rfl, Lib.hid (by simp [wrap32]), rfl⟩
    case round =>
      obtain ⟨k, t, d, hk1, hk2, rfl, rfl, ht, rfl⟩ := hrel
      by_cases hlt : k < n ∧ k < m
      · obtain ⟨g, off, v, rfl, hc, hv, wv⟩ := hX.at_ hlt.1
        obtain ⟨g', off', u, rfl, hc', hu, wu⟩ := hY.at_ hlt.2
        have v0 := wf8 wv
        have u0 := wf8 wu
        obtain ⟨p1, p2⟩ := prod8 v u v0 u0
        have T : Hid (wrap32 (t + v * u) = wrap32 ((prods xs ys).take (k + 1)).sum) := Lib.hid (by
          have h1 := hX.1
          have h2 := hY.1
          rw [sum_step _ k (by rw [prods_len]; omega), prods_at xs ys k (by omega) (by omega), hv.out, hu.out, ht.out, wrap32_add])
        obtain ⟨t', ht'⟩ : ∃ t', wrap32 (t + v * u) = t' := ⟨_, rfl⟩
        rw [ht'] at T
        have e1 : IntKind.i32.wrap v = v := IntWalk.i32_in _ (by omega)
        have e2 : IntKind.i32.wrap u = u := IntWalk.i32_in _ (by omega)
        have e3 : IntKind.i32.wrap (v * u) = v * u := IntWalk.i32_in _ (by omega)
        obtain ⟨v1, v2⟩ := v0
        obtain ⟨u1, u2⟩ := u0
        obtain ⟨l1, l2⟩ := hlt
        have l1' : (k : Int) < (n : Int) := by omega
        have l2' : (k : Int) < (m : Int) := by omega
        clear ht hv wv hu wu hX hY
        go_wp2
        go_quiet (fail)
        go_wp2
        go_roundw
        case rel => exact ⟨k + 1, t', _, by omega, by omega, by go_num, by rw [ht'], T, rfl⟩
        case measure => simp [intOf]; omega
      · have h1 := hX.1
        have h2 := hY.1
        clear hX hY
        go_wp2
        go_ret
        exact ⟨ret_int (by rw [ht.out, sum_all _ k (by rw [prods_len]; omega)]; rfl), _, rfl⟩


end Go.Proofs.Ytkiedganojaniaa
