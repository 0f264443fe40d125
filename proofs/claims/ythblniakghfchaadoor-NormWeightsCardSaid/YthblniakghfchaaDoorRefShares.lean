/-
  Contract of the document's Shares: for every total and every list of up to 1000 numbers it returns a slice of the shares; what was in memory stays.
-/
import Derived.Test.YthblniakghfchaaDoorShares
import Derived.Maps.AppendAt
namespace Go.Proofs.YthblniakghfchaaDoor
open Go.RowKit
set_option linter.unusedVariables false

/-- one share, as the document reckons it -/
theorem share_as {t x : Int} {xs : List Int} (hx : ∀ x ∈ xs, x ≤ 2147483647) (hm : x ∈ xs) (ht2 : t ≤ 2147483647) :
    (¬ (0 < x ∧ 0 < t) → share t (tot xs) x = 0) ∧ (0 < x → 0 < t → 0 < tot xs ∧ share t (tot xs) x = x * t / tot xs ∧ 0 ≤ x * t ∧ x * t ≤ 4611686014132420609 ∧ 0 ≤ x * t / tot xs ∧ x * t / tot xs ≤ 2147483647) := by
  have h1 := pos_bd x (hx x hm)
  have h2 := pos_le_tot xs hx x hm
  have h3 := tot_bd xs hx
  constructor
  · intro hn
    unfold share
    split
    · rfl
    · rename_i hne
      have : pos x * t = 0 := by
        by_cases h0 : 0 < x
        · have : t = 0 := by omega
          rw [this, Int.mul_zero]
        · have : pos x = 0 := by unfold pos; rw [if_neg h0]
          rw [this, Int.zero_mul]
      rw [this, Int.zero_ediv]
  · intro h0 ht
    have e : pos x = x := by unfold pos; rw [if_pos h0]
    rw [e] at h1 h2
    have hS : 0 < tot xs := by omega
    have hb := share_bd (t := t) (S := tot xs) (p := x) hS (by omega) ht2 (by omega) h1.2 h2
    refine ⟨hS, ?_, hb.1, hb.2.1, hb.2.2.1, by omega⟩
    unfold share
    rw [if_neg (by omega), e]

set_option maxHeartbeats 800000 in
theorem ref_shares (t : Int) (a : Option Addr) (n cap : Nat) (xs : List Int) (w : World) (h : Elems .i32 w a n xs) (hn : n ≤ 1000) (ht1 : -2147483648 ≤ t) (ht2 : t ≤ 2147483647) :
    Calls Tryd.prog 34 #[.int .i32 t, .slice a n cap] w fun e w' => ∃ b c, e = .returned (.slice b n c) ∧ Elems .i32 w' b n (xs.map (share t (tot xs))) ∧ Below w.heap.size w w' := by
  have hx : ∀ x ∈ xs, x ≤ 2147483647 := fun x hm => (wf32 (h.2.2.1 x hm)).2
  have hT := tot_bd xs hx
  have hlen := h.1
  rw [hlen] at hT
  have HX := Lib.hid hx
  have HL := Lib.hid hlen
  have HWF := Lib.hid (share_wf (t := t) hx ht2)
  obtain ⟨i0, hi, hj⟩ := Option.map_eq_some_iff.1 info_int32
  obtain ⟨hz0, hz1, hz2⟩ : i0.zero = some (.int .i32 0) ∧ i0.size = 1 ∧ i0.bytes = 4 := by simpa using hj
  clear hj hlen
  go_enter Tryd.func34, Tryd.ntmps34
  go_wp2
  go_loop [5, 6] (fun s i => ∃ (k : Nat) (q : Int), k ≤ n ∧ i = .int .i64 k ∧ s = .int .i64 q ∧ Hid (q = tot (xs.take k)) ∧ 0 ≤ q ∧ q ≤ k * 2147483647) (fun _ i => n - (intOf i).toNat)
  case atStart => exact ⟨0, 0, by omega, rfl, rfl, Lib.hid (by simp [tot]), by omega, by omega⟩
  case round =>
    obtain ⟨k, q, hk, rfl, rfl, hq, q0, q1⟩ := hrel
    by_cases hlt : k < n
    · obtain ⟨b, off, v, rfl, hc, hv, wv⟩ := h.at_ hlt
      obtain ⟨v1, v2⟩ := wf32 wv
      have hst : Hid (q + pos v = tot (xs.take (k + 1))) := Lib.hid (by rw [tot_step xs k (by rw [HL.out]; exact hlt), hq.out, hv.out])
      clear h hx hT hv wv hq
      by_cases hp : 0 < v
      · have e : pos v = v := by unfold pos; rw [if_pos hp]
        rw [e] at hst
        clear e
        go_wp2
        go_round
        case rel => exact ⟨k + 1, q + v, by omega, by go_num, rfl, hst, by omega, by push_cast; omega⟩
        case measure => simp [intOf]; omega
      · have e : pos v = 0 := by unfold pos; rw [if_neg hp]
        rw [e] at hst
        clear e
        go_wp2
        go_round
        case rel => exact ⟨k + 1, q, by omega, by go_num, rfl, Lib.hid (by have := hst.out; omega), by omega, by push_cast; omega⟩
        case measure => simp [intOf]; omega
    · obtain rfl : k = n := by omega
      obtain rfl : q = tot xs := by rw [hq.out, List.take_of_length_le (by rw [HL.out]; omega)]
      obtain ⟨S, hSe⟩ : ∃ S, tot xs = S := ⟨_, rfl⟩
      rw [hSe] at q0 q1 hT ⊢
      have HS := Lib.hid hSe
      clear hSe hx hq hT
      go_wp2
      go_loopw [7, 8] (fun o i wr => ∃ (j : Nat) (cs : List Int), j ≤ k ∧ i = .int .i64 j ∧ wr.ownsRow w.heap.size 21 1 o j (cs.map (.int .i32)) ∧ Below w.heap.size w wr ∧ Hid (cs = (xs.take j).map (share t S))) (fun _ i _ => k - (intOf i).toNat)
      case atStart => exact ⟨0, [], by omega, rfl, own_nil w w.heap.size 21, Below.refl _ _, Lib.hid (by simp)⟩
      case round =>
        obtain ⟨j, cs, hj, rfl, hown, hbel, hcs⟩ := hrel
        by_cases hlt2 : j < k
        · obtain ⟨b, off, v, rfl, hc, hv, wv⟩ := (h.below hbel).at_ hlt2
          obtain ⟨v1, v2⟩ := wf32 wv
          have hmem : v ∈ xs := by rw [← hv.out]; exact getD_mem (by rw [HL.out]; exact hlt2)
          obtain ⟨hno, hyes⟩ := share_as (t := t) HX.out hmem ht2
          rw [HS.out] at hno hyes
          have hs := hbel.size
          have hnext : Hid (cs ++ [share t S v] = (xs.take (j + 1)).map (share t S)) := Lib.hid (by
            rw [hcs.out, List.take_add_one, List.map_append]
            have : xs[j]?.toList = [v] := by
              rw [← hv.out]; simp [List.getD, List.getElem?_eq_getElem (show j < xs.length by rw [HL.out]; exact hlt2)]
            rw [this]; rfl)
          clear hmem hv h hcs
          by_cases hp : 0 < v
          · by_cases ht : 0 < t
            · obtain ⟨hS, hsh, b0, b1, b2, b3⟩ := hyes hp ht
              have hz : (S == 0) = false := by simp; omega
              rw [hsh] at hnext
              clear hno hyes hsh
              go_wp2_with (at_builtin; refine wpList_append_own _ rfl _ _ 23 rfl w.heap.size 21 i0 (.int .i32 0) 1 4 Tryd.underlying23 hi hz0 hz1 hz2 rfl (by decide) _ _ _ rfl (hown.alloc _) ⟨wr.heap.size, 0, none⟩ 1 1 [.int .i32 (v * t / S)] rfl rfl (cell_one_new _ _ _) one_cell (by unfold maxLen; omega) (by omega) (by simp; omega) ?_)
              intro v' w' hown' hgrow _
              have hown2 : w'.ownsRow w.heap.size 21 1 v' (j + 1) ((cs ++ [v * t / S]).map (.int .i32)) := by rw [List.map_append]; exact hown'
              have hbel2 := (hbel.alloc hs (.cells #[.int .i32 (v * t / S)] 21)).grown hgrow (by simp; omega) (own_lt hown)
              clear hown' hgrow hown hbel hc wv hs
              go_wp2
              go_roundw
              case rel => exact ⟨j + 1, _, by omega, by go_num, hown2, hbel2, hnext⟩
              case measure => simp [intOf]; omega
            · have hsh := hno (by omega)
              rw [hsh] at hnext
              clear hno hyes hsh
              go_wp2_with (at_builtin; refine wpList_append_own _ rfl _ _ 23 rfl w.heap.size 21 i0 (.int .i32 0) 1 4 Tryd.underlying23 hi hz0 hz1 hz2 rfl (by decide) _ _ _ rfl (hown.alloc _) ⟨wr.heap.size, 0, none⟩ 1 1 [.int .i32 0] rfl rfl (cell_one_new _ _ _) one_cell (by unfold maxLen; omega) (by omega) (by simp; omega) ?_)
              intro v' w' hown' hgrow _
              have hown2 : w'.ownsRow w.heap.size 21 1 v' (j + 1) ((cs ++ [0]).map (.int .i32)) := by rw [List.map_append]; exact hown'
              have hbel2 := (hbel.alloc hs (.cells #[.int .i32 0] 21)).grown hgrow (by simp; omega) (own_lt hown)
              clear hown' hgrow hown hbel hc wv hs
              go_wp2
              go_roundw
              case rel => exact ⟨j + 1, _, by omega, by go_num, hown2, hbel2, hnext⟩
              case measure => simp [intOf]; omega
          · have hsh := hno (by omega)
            rw [hsh] at hnext
            clear hno hyes hsh
            go_wp2_with (at_builtin; refine wpList_append_own _ rfl _ _ 23 rfl w.heap.size 21 i0 (.int .i32 0) 1 4 Tryd.underlying23 hi hz0 hz1 hz2 rfl (by decide) _ _ _ rfl (hown.alloc _) ⟨wr.heap.size, 0, none⟩ 1 1 [.int .i32 0] rfl rfl (cell_one_new _ _ _) one_cell (by unfold maxLen; omega) (by omega) (by simp; omega) ?_)
            intro v' w' hown' hgrow _
            have hown2 : w'.ownsRow w.heap.size 21 1 v' (j + 1) ((cs ++ [0]).map (.int .i32)) := by rw [List.map_append]; exact hown'
            have hbel2 := (hbel.alloc hs (.cells #[.int .i32 0] 21)).grown hgrow (by simp; omega) (own_lt hown)
            clear hown' hgrow hown hbel hc wv hs
            go_wp2
            go_roundw
            case rel => exact ⟨j + 1, _, by omega, by go_num, hown2, hbel2, hnext⟩
            case measure => simp [intOf]; omega
        · obtain rfl : j = k := by omega
          have hce := hcs.out
          rw [List.take_of_length_le (by rw [HL.out]; omega)] at hce
          subst hce
          obtain ⟨aS, capS, hvS, hE⟩ := own_form hown (by omega) (by have := HWF.out; rwa [HS.out] at this)
          subst hvS
          have HE := Lib.hid hE
          clear h hown hE hcs
          go_wp2
          go_ret
          exact ⟨_, _, rfl, by rw [HS.out]; exact HE.out, hbel⟩

end Go.Proofs.YthblniakghfchaaDoor
