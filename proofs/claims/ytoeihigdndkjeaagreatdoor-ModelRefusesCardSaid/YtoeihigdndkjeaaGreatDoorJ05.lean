import Derived.Test.YtoeihigdndkjeaaGreatDoorJ02
import Derived.Deep.QuietTactic
import Derived.BigQuiet
import Derived.Test.YtoeihigdndkjeaaGreatDoorJ01
import Derived.Maps.AppendAt
import Derived.Test.YtoeihigdndkjeaaGreatDoorJ03
import Derived.Lib.SmallJoins
import Derived.Deep.Slices
import Derived.Deep.Strs
import Derived.ChangeSlices
import Derived.ChangeArms
import Derived.WideShapes
import Derived.OpenShut
import Derived.WideKeyArr
/-
  Contract of the document's Argmax: for every list of numbers it returns the first place of a greatest one, -1 of none; it reads memory alone.
-/
namespace Go.Proofs.YtoeihigdndkjeaaGreatDoor
open Go.RowKit
set_option linter.unusedVariables false

/-- no number among the first m is greater than the one at i -/
def Top (xs : List Int) (i m : Nat) : Prop := ∀ j, j < m → xs.getD j 0 ≤ xs.getD i 0

theorem top_zero (xs : List Int) (i : Nat) : Top xs i 0 := fun j hj => by omega
theorem top_more {xs : List Int} {i m : Nat} : Top xs i (m + 1) ↔ Top xs i m ∧ xs.getD m 0 ≤ xs.getD i 0 := by
  constructor
  · intro h; exact ⟨fun j hj => h j (by omega), h m (by omega)⟩
  · rintro ⟨h1, h2⟩ j hj
    rcases Nat.lt_or_ge j m with h | h
    · exact h1 j h
    · obtain rfl : j = m := by omega
      exact h2
theorem best_of_top {xs : List Int} {i n : Nat} (hi : i < n) (h : Top xs i n) (hno : ∀ j, j < i → ¬ Top xs j n) : Best xs n i := by
  refine .inr ⟨i, rfl, hi, h, fun j hj => ?_⟩
  have h1 := h j (by omega)
  rcases Int.lt_or_eq_of_le h1 with h2 | h2
  · exact h2
  · exact absurd (fun m hm => by rw [h2]; exact h m hm) (hno j hj)
theorem best_of_none {xs : List Int} {n : Nat} (hno : ∀ j, j < n → ¬ Top xs j n) : Best xs n (-1) := by
  by_cases h0 : n = 0
  · exact .inl ⟨h0, rfl⟩
  · obtain ⟨b, hb⟩ := best_exists xs n
    rcases hb with ⟨h, _⟩ | ⟨j, rfl, hj, h1, _⟩
    · exact absurd h h0
    · exact absurd h1 (hno j hj)

set_option maxHeartbeats 800000 in
theorem ref_argmax (a : Option Addr) (n cap : Nat) (xs : List Int) (w : World) (h : Elems .i32 w a n xs) (B : Int) (hB : Best xs n B) :
    Calls Tryz.prog 56 #[.slice a n cap] w fun e w' => e = .returned (.int .i64 B) ∧ ∃ d, w' = w.drewN d := by
  have hn := h.2.1
  have HB := Lib.hid hB
  clear hB
  go_enter Tryz.func56, Tryz.ntmps56
  go_wp2
  go_loopw [3] (fun i wr => ∃ (k : Nat) (d : Nat), k ≤ n ∧ i = .int .i64 k ∧ wr = w.drewN d ∧ Hid (∀ j, j < k → ¬ Top xs j n)) (fun i _ => n - (intOf i).toNat)
  case atStart => exact ⟨0, 0, by omega, rfl, rfl, Lib.hid (fun j hj => by omega)⟩
  case round =>
    obtain ⟨k, d, hk, rfl, rfl, hno⟩ := hrel
    by_cases hlt : k < n
    · have hlt' : (k : Int) < (n : Int) := by omega
      obtain ⟨b, off, v, rfl, hc, hv, wv⟩ := h.at_ hlt
      go_wp2
      go_loopw [4, 5] (fun t i wr => ∃ (q : Nat) (d' : Nat) (bb : Bool), q ≤ n ∧ i = .int .i64 q ∧ wr = w.drewN d' ∧ t = .bool bb ∧ Hid (bb = true ↔ Top xs k q)) (fun _ i _ => n - (intOf i).toNat)
      case atStart => exact ⟨0, d, true, by omega, rfl, rfl, rfl, Lib.hid ⟨fun _ => top_zero xs k, fun _ => rfl⟩⟩
      case round =>
        obtain ⟨q, d', bb, hq, rfl, rfl, rfl, hbb⟩ := hrel
        by_cases hlt2 : q < n
        · have hlt2' : (q : Int) < (n : Int) := by omega
          obtain ⟨b', off', u, he, hc', hu, wu⟩ := h.at_ hlt2
          simp only [Option.some.injEq, Addr.mk.injEq] at he
          obtain ⟨rfl, rfl, _⟩ := he
          by_cases hgt : v < u
          · have T : Hid (false = true ↔ Top xs k (q + 1)) := Lib.hid (by rw [top_more, hu.out, hv.out]; simp; omega)
            clear hv wv hu wu h hbb hno
            go_wp2
            go_quiet (fail)
            go_wp2
            go_roundw
            case rel => exact ⟨q + 1, _, false, by omega, by go_num, rfl, rfl, T⟩
            case measure => simp [intOf]; omega
          · have T : Hid (bb = true ↔ Top xs k (q + 1)) := Lib.hid (by rw [top_more, hu.out, hv.out, ← hbb.out]; simp; omega)
            clear hv wv hu wu h hbb hno
            go_wp2
            go_quiet (fail)
            go_wp2
            go_roundw
            case rel => exact ⟨q + 1, _, bb, by omega, by go_num, rfl, rfl, T⟩
            case measure => simp [intOf]; omega
        · obtain rfl : q = n := by omega
          clear h hv wv
          cases bb with
          | true =>
            have hT := Lib.hid (best_of_top hlt (hbb.out.1 rfl) hno.out)
            clear hbb hno
            go_wp2
            go_ret
            exact ⟨ret_int (best_uniq hT.out HB.out), _, rfl⟩
          | false =>
            have T : Hid (∀ j, j < k + 1 → ¬ Top xs j q) := Lib.hid (fun j hj => by
              rcases Nat.lt_or_ge j k with h | h
              · exact hno.out j h
              · obtain rfl : j = k := by omega
                intro ht; exact absurd (hbb.out.2 ht) (by simp))
            clear hbb hno
            go_wp2
            go_roundw
            case rel => exact ⟨k + 1, _, by omega, by go_num, rfl, T⟩
            case measure => simp [intOf]; omega
    · obtain rfl : k = n := by omega
      have hT := Lib.hid (best_of_none hno.out)
      clear h hno
      go_wp2
      go_ret
      exact ⟨ret_int (best_uniq hT.out HB.out), _, rfl⟩

end Go.Proofs.YtoeihigdndkjeaaGreatDoor

/-
  Contracts of the document's T and Exp: T returns the table's number, Exp returns E(x); both make new blocks alone.
-/
namespace Go.Proofs.YtoeihigdndkjeaaGreatDoor
open Go.RowKit
set_option linter.unusedVariables false

theorem ref_T (i : Nat) (hi : i < 33) (w : World) :
    Calls Tryz.prog 105 #[.int .i64 (i : Int)] w fun e w' => e = .returned (.int .i64 (ptab.getD i 0)) ∧ Below w.heap.size w w' := by
  go_enter Tryz.func105, Tryz.ntmps105
  go_wp2
  go_ret
  refine ⟨?_, (Below.refl _ _).alloc (Nat.le_refl _) _⟩
  show Ending.returned ((ptab.map (Value.int .i64))[i]'(by rw [List.length_map]; exact hi)) = _
  rw [List.getElem_map, List.getD_eq_getElem?_getD, List.getElem?_eq_getElem (show i < ptab.length from hi)]
  rfl


/-- E(x), where x is not above 0, as the document reckons it: 0 where q is above 31 -/
theorem E_low (x : Int) (h : x ≤ 0) : E x = if 31 < -x * 94548 / 65536 / 65536 then 0 else shr (btw (-x * 94548 / 65536 % 65536)) (-x * 94548 / 65536 / 65536) := by
  unfold E
  rw [if_neg (by omega)]
  by_cases c : x ≤ -1453643
  · rw [if_pos c, if_pos (by omega)]
  · rw [if_neg c, if_neg (by omega)]

set_option maxHeartbeats 800000 in
theorem ref_exp (x : Int) (h1 : -9223372036854775808 ≤ x) (h2 : x ≤ 9223372036854775807) (w : World) :
    Calls Tryz.prog 76 #[.int .i64 x] w fun e w' => e = .returned (.int .i32 (E x)) ∧ Below w.heap.size w w' := by
  by_cases c0 : 0 < x
  · have hE : E x = 65536 := by unfold E; rw [if_pos c0]
    rw [hE]
    go_enter Tryz.func76, Tryz.ntmps76
    go_wp2
    go_ret
    exact ⟨rfl, Below.refl _ _⟩
  · by_cases c1 : x < -10000000
    · have hE : E x = 0 := by unfold E; rw [if_neg c0, if_pos (by omega)]
      rw [hE]
      go_enter Tryz.func76, Tryz.ntmps76
      go_wp2
      go_ret
      exact ⟨rfl, Below.refl _ _⟩
    · rw [E_low x (by omega)]
      have hB := btw_bd (-x * 94548 / 65536 % 65536) (by omega) (by omega)
      have hS := shr_bd (btw (-x * 94548 / 65536 % 65536)) (-x * 94548 / 65536 / 65536) (by omega)
      obtain ⟨t, ht⟩ : ∃ t, -x * 94548 / 65536 = t := ⟨_, rfl⟩
      have t0 : 0 ≤ t ∧ t < 15000000 := by omega
      rw [ht] at hB hS ⊢
      obtain ⟨f, hf⟩ : ∃ f, t % 65536 = f := ⟨_, rfl⟩
      have f0 : 0 ≤ f ∧ f < 65536 := by omega
      rw [hf] at hB hS ⊢
      obtain ⟨i, hi⟩ : ∃ i : Nat, f / 2048 = (i : Int) := ⟨(f / 2048).toNat, by omega⟩
      have hi2 : i < 32 := by omega
      have hbt : btw f = ptab.getD i 0 - half ((ptab.getD i 0 - ptab.getD (i + 1) 0) * (f % 2048)) 2048 := by unfold btw; rw [hi]; rfl
      obtain ⟨v, hv⟩ : ∃ v, btw f = v := ⟨_, rfl⟩
      rw [hv] at hbt hB hS ⊢
      have T1 := fun w => ref_T i (by omega) w
      have T2 := fun w => ref_T (i + 1) (by omega) w
      have a1 := tab_bd i (by omega)
      have a2 := tab_falls i hi2
      obtain ⟨p, hp⟩ : ∃ p, ptab.getD i 0 = p := ⟨_, rfl⟩
      obtain ⟨q, hq⟩ : ∃ q, ptab.getD (i + 1) 0 = q := ⟨_, rfl⟩
      obtain ⟨r, hr⟩ : ∃ r, f % 2048 = r := ⟨_, rfl⟩
      have r0 : 0 ≤ r ∧ r < 2048 := by omega
      rw [hp] at a1 a2 hbt T1
      rw [hq] at a2 hbt T2
      rw [hr] at hbt
      obtain ⟨m0, m1, m2, m3⟩ := off_bd (p - q) r a2.1 r0.1 r0.2
      have hs : ∀ w, Calls Tryz.prog 72 #[.int .i64 ((p - q) * r), .int .i64 11] w fun e w' => e = .returned (.int .i64 (half ((p - q) * r) 2048)) ∧ w = w' := fun w => by
        rw [← shr_eleven]; exact ref_shift _ _ (by omega) (by omega) w
      have HS := fun w => ref_shift v (t / 65536) (by omega) (by omega) w
      obtain ⟨s, hs2⟩ : ∃ s, shr v (t / 65536) = s := ⟨_, rfl⟩
      rw [hs2] at hS HS ⊢
      obtain ⟨h, hh⟩ : ∃ h, half ((p - q) * r) 2048 = h := ⟨_, rfl⟩
      rw [hh] at hbt m2 m3 hs
      have HB := Lib.hid hbt
      have hvb : p - h = v := hbt.symm
      push_cast at T2
      clear hs2 hh hp hq hbt HB hv
      by_cases cq : 31 < t / 65536
      · rw [if_pos cq]
        clear HS hS
        go_enter Tryz.func76, Tryz.ntmps76
        go_wp2_with fail
        refine (T1 _).mono ?_
        rintro e wa ⟨rfl, b1⟩
        go_wp2_with fail
        refine (T1 _).mono ?_
        rintro e wb ⟨rfl, b2⟩
        go_wp2_with fail
        refine (T2 _).mono ?_
        rintro e wc ⟨rfl, b3⟩
        go_wp2_with fail
        refine (hs _).mono ?_
        rintro e w' ⟨rfl, rfl⟩
        go_wp2
        go_ret
        exact ⟨rfl, below_two b1 (below_two b2 b3)⟩
      · rw [if_neg cq]
        go_enter Tryz.func76, Tryz.ntmps76
        go_wp2_with fail
        refine (T1 _).mono ?_
        rintro e wa ⟨rfl, b1⟩
        go_wp2_with fail
        refine (T1 _).mono ?_
        rintro e wb ⟨rfl, b2⟩
        go_wp2_with fail
        refine (T2 _).mono ?_
        rintro e wc ⟨rfl, b3⟩
        go_wp2_with fail
        refine (hs _).mono ?_
        rintro e w' ⟨rfl, rfl⟩
        go_wp2_with fail
        refine (HS _).mono ?_
        rintro e w' ⟨rfl, rfl⟩
        go_wp2
        go_ret
        exact ⟨rfl, below_two b1 (below_two b2 b3)⟩

end Go.Proofs.YtoeihigdndkjeaaGreatDoor

/-
  Contract of the document's Shares: for every total and every list of up to 1000 numbers it returns a slice of the shares; what was in memory stays.
-/
namespace Go.Proofs.YtoeihigdndkjeaaGreatDoor
open Go.RowKit
set_option linter.unusedVariables false

/-- one share, as the document reckons it -/
theorem share_as {t x : Int} {xs : List Int} (hx : ∀ x ∈ xs, x ≤ 2147483647) (hm : x ∈ xs) (ht2 : t ≤ 2147483647) :
    (¬ (0 < x ∧ 0 < t) → share t (stot xs) x = 0) ∧ (0 < x → 0 < t → 0 < stot xs ∧ share t (stot xs) x = x * t / stot xs ∧ 0 ≤ x * t ∧ x * t ≤ 4611686014132420609 ∧ 0 ≤ x * t / stot xs ∧ x * t / stot xs ≤ 2147483647) := by
  have h1 := pos_bd x (hx x hm)
  have h2 := pos_le_tot xs hx x hm
  have h3 := tot_bd xs hx
  constructor
  · intro hn
    unfold share
    split
    · rfl
    · rename_i hne
      have : pos x * t = 0 := by
        by_cases h0 : 0 < x
        · have : t = 0 := by omega
          rw [this, Int.mul_zero]
        · have : pos x = 0 := by unfold pos; rw [if_neg h0]
          rw [this, Int.zero_mul]
      rw [this, Int.zero_ediv]
  · intro h0 ht
    have e : pos x = x := by unfold pos; rw [if_pos h0]
    rw [e] at h1 h2
    have hS : 0 < stot xs := by omega
    have hb := share_bd (t := t) (S := stot xs) (p := x) hS (by omega) ht2 (by omega) h1.2 h2
    refine ⟨hS, ?_, hb.1, hb.2.1, hb.2.2.1, by omega⟩
    unfold share
    rw [if_neg (by omega), e]

set_option maxHeartbeats 800000 in
theorem ref_shares (t : Int) (a : Option Addr) (n cap : Nat) (xs : List Int) (w : World) (h : Elems .i32 w a n xs) (hn : n ≤ 1000) (ht1 : -2147483648 ≤ t) (ht2 : t ≤ 2147483647) :
    Calls Tryz.prog 77 #[.int .i32 t, .slice a n cap] w fun e w' => ∃ b c, e = .returned (.slice b n c) ∧ Elems .i32 w' b n (xs.map (share t (stot xs))) ∧ Below w.heap.size w w' := by
  have hx : ∀ x ∈ xs, x ≤ 2147483647 := fun x hm => (wf32 (h.2.2.1 x hm)).2
  have hT := tot_bd xs hx
  have hlen := h.1
  rw [hlen] at hT
  have HX := Lib.hid hx
  have HL := Lib.hid hlen
  have HWF := Lib.hid (share_wf (t := t) hx ht2)
  obtain ⟨i0, hi, hj⟩ := Option.map_eq_some_iff.1 info_int32
  obtain ⟨hz0, hz1, hz2⟩ : i0.zero = some (.int .i32 0) ∧ i0.size = 1 ∧ i0.bytes = 4 := by simpa using hj
  clear hj hlen
  go_enter Tryz.func77, Tryz.ntmps77
  go_wp2
  go_loop [5, 6] (fun s i => ∃ (k : Nat) (q : Int), k ≤ n ∧ i = .int .i64 k ∧ s = .int .i64 q ∧ Hid (q = stot (xs.take k)) ∧ 0 ≤ q ∧ q ≤ k * 2147483647) (fun _ i => n - (intOf i).toNat)
  case atStart => exact ⟨0, 0, by omega, rfl, rfl, Lib.hid (by simp [stot]), by omega, by omega⟩
  case round =>
    obtain ⟨k, q, hk, rfl, rfl, hq, q0, q1⟩ := hrel
    by_cases hlt : k < n
    · obtain ⟨b, off, v, rfl, hc, hv, wv⟩ := h.at_ hlt
      obtain ⟨v1, v2⟩ := wf32 wv
      have hst : Hid (q + pos v = stot (xs.take (k + 1))) := Lib.hid (by rw [stot_step xs k (by rw [HL.out]; exact hlt), hq.out, hv.out])
      clear h hx hT hv wv hq
      by_cases hp : 0 < v
      · have e : pos v = v := by unfold pos; rw [if_pos hp]
        rw [e] at hst
        clear e
        go_wp2
        go_round
        case rel => exact ⟨k + 1, q + v, by omega, by go_num, rfl, hst, by omega, by push_cast; omega⟩
        case measure => simp [intOf]; omega
      · have e : pos v = 0 := by unfold pos; rw [if_neg hp]
        rw [e] at hst
        clear e
        go_wp2
        go_round
        case rel => exact ⟨k + 1, q, by omega, by go_num, rfl, Lib.hid (by have := hst.out; omega), by omega, by push_cast; omega⟩
        case measure => simp [intOf]; omega
    · obtain rfl : k = n := by omega
      obtain rfl : q = stot xs := by rw [hq.out, List.take_of_length_le (by rw [HL.out]; omega)]
      obtain ⟨S, hSe⟩ : ∃ S, stot xs = S := ⟨_, rfl⟩
      rw [hSe] at q0 q1 hT ⊢
      have HS := Lib.hid hSe
      clear hSe hx hq hT
      go_wp2
      go_loopw [7, 8] (fun o i wr => ∃ (j : Nat) (cs : List Int), j ≤ k ∧ i = .int .i64 j ∧ wr.ownsRow w.heap.size 21 1 o j (cs.map (.int .i32)) ∧ Below w.heap.size w wr ∧ Hid (cs = (xs.take j).map (share t S))) (fun _ i _ => k - (intOf i).toNat)
      case atStart => exact ⟨0, [], by omega, rfl, own_nil w w.heap.size 21, Below.refl _ _, Lib.hid (by simp)⟩
      case round =>
        obtain ⟨j, cs, hj, rfl, hown, hbel, hcs⟩ := hrel
        by_cases hlt2 : j < k
        · obtain ⟨b, off, v, rfl, hc, hv, wv⟩ := (h.below hbel).at_ hlt2
          obtain ⟨v1, v2⟩ := wf32 wv
          have hmem : v ∈ xs := by rw [← hv.out]; exact getD_mem (by rw [HL.out]; exact hlt2)
          obtain ⟨hno, hyes⟩ := share_as (t := t) HX.out hmem ht2
          rw [HS.out] at hno hyes
          have hs := hbel.size
          have hnext : Hid (cs ++ [share t S v] = (xs.take (j + 1)).map (share t S)) := Lib.hid (by
            rw [hcs.out, List.take_add_one, List.map_append]
            have : xs[j]?.toList = [v] := by
              rw [← hv.out]; simp [List.getD, List.getElem?_eq_getElem (show j < xs.length by rw [HL.out]; exact hlt2)]
            rw [this]; rfl)
          clear hmem hv h hcs
          by_cases hp : 0 < v
          · by_cases ht : 0 < t
            · obtain ⟨hS, hsh, b0, b1, b2, b3⟩ := hyes hp ht
              have hz : (S == 0) = false := by simp; omega
              rw [hsh] at hnext
              clear hno hyes hsh
              go_wp2_with (at_builtin; refine wpList_append_own _ rfl _ _ 36 rfl w.heap.size 21 i0 (.int .i32 0) 1 4 Tryz.underlying36 hi hz0 hz1 hz2 rfl (by decide) _ _ _ rfl (hown.alloc _) ⟨wr.heap.size, 0, none⟩ 1 1 [.int .i32 (v * t / S)] rfl rfl (cell_one_new _ _ _) one_cell (by unfold maxLen; omega) (by omega) (by simp; omega) ?_)
              intro v' w' hown' hgrow _
              have hown2 : w'.ownsRow w.heap.size 21 1 v' (j + 1) ((cs ++ [v * t / S]).map (.int .i32)) := by rw [List.map_append]; exact hown'
              have hbel2 := (hbel.alloc hs (.cells #[.int .i32 (v * t / S)] 21)).grown hgrow (by simp; omega) (own_lt hown)
              clear hown' hgrow hown hbel hc wv hs
              go_wp2
              go_roundw
              case rel => exact ⟨j + 1, _, by omega, by go_num, hown2, hbel2, hnext⟩
              case measure => simp [intOf]; omega
            · have hsh := hno (by omega)
              rw [hsh] at hnext
              clear hno hyes hsh
              go_wp2_with (at_builtin; refine wpList_append_own _ rfl _ _ 36 rfl w.heap.size 21 i0 (.int .i32 0) 1 4 Tryz.underlying36 hi hz0 hz1 hz2 rfl (by decide) _ _ _ rfl (hown.alloc _) ⟨wr.heap.size, 0, none⟩ 1 1 [.int .i32 0] rfl rfl (cell_one_new _ _ _) one_cell (by unfold maxLen; omega) (by omega) (by simp; omega) ?_)
              intro v' w' hown' hgrow _
              have hown2 : w'.ownsRow w.heap.size 21 1 v' (j + 1) ((cs ++ [0]).map (.int .i32)) := by rw [List.map_append]; exact hown'
              have hbel2 := (hbel.alloc hs (.cells #[.int .i32 0] 21)).grown hgrow (by simp; omega) (own_lt hown)
              clear hown' hgrow hown hbel hc wv hs
              go_wp2
              go_roundw
              case rel => exact ⟨j + 1, _, by omega, by go_num, hown2, hbel2, hnext⟩
              case measure => simp [intOf]; omega
          · have hsh := hno (by omega)
            rw [hsh] at hnext
            clear hno hyes hsh
            go_wp2_with (at_builtin; refine wpList_append_own _ rfl _ _ 36 rfl w.heap.size 21 i0 (.int .i32 0) 1 4 Tryz.underlying36 hi hz0 hz1 hz2 rfl (by decide) _ _ _ rfl (hown.alloc _) ⟨wr.heap.size, 0, none⟩ 1 1 [.int .i32 0] rfl rfl (cell_one_new _ _ _) one_cell (by unfold maxLen; omega) (by omega) (by simp; omega) ?_)
            intro v' w' hown' hgrow _
            have hown2 : w'.ownsRow w.heap.size 21 1 v' (j + 1) ((cs ++ [0]).map (.int .i32)) := by rw [List.map_append]; exact hown'
            have hbel2 := (hbel.alloc hs (.cells #[.int .i32 0] 21)).grown hgrow (by simp; omega) (own_lt hown)
            clear hown' hgrow hown hbel hc wv hs
            go_wp2
            go_roundw
            case rel => exact ⟨j + 1, _, by omega, by go_num, hown2, hbel2, hnext⟩
            case measure => simp [intOf]; omega
        · obtain rfl : j = k := by omega
          have hce := hcs.out
          rw [List.take_of_length_le (by rw [HL.out]; omega)] at hce
          subst hce
          obtain ⟨aS, capS, hvS, hE⟩ := own_form hown (by omega) (by have := HWF.out; rwa [HS.out] at this)
          subst hvS
          have HE := Lib.hid hE
          clear h hown hE hcs
          go_wp2
          go_ret
          exact ⟨_, _, rfl, by rw [HS.out]; exact HE.out, hbel⟩

end Go.Proofs.YtoeihigdndkjeaaGreatDoor

/-
  Contract of the document's Softmax: the same weights as layer 5's, in new memory; nothing else turns.
-/
namespace Go.Proofs.YtoeihigdndkjeaaGreatDoor
open Go.RowKit
set_option linter.unusedVariables false

/-- among the first k numbers none is above t, which is one of the row -/
def TopTo (xs : List Int) (k : Nat) (t : Int) : Prop := t ∈ xs ∧ ∀ i, i < k → xs.getD i 0 ≤ t
theorem topTo_old {xs : List Int} {k : Nat} {t : Int} (h : TopTo xs k t) (hle : ¬ t < xs.getD k 0) : TopTo xs (k + 1) t := by
  refine ⟨h.1, fun i hi => ?_⟩
  rcases Nat.lt_or_ge i k with h1 | h1
  · exact h.2 i h1
  · obtain rfl : i = k := by omega
    omega
theorem topTo_new {xs : List Int} {k : Nat} {t : Int} (h : TopTo xs k t) (hk : k < xs.length) (hlt : t < xs.getD k 0) : TopTo xs (k + 1) (xs.getD k 0) := by
  refine ⟨getD_mem hk, fun i hi => ?_⟩
  rcases Nat.lt_or_ge i k with h1 | h1
  · have := h.2 i h1; omega
  · obtain rfl : i = k := by omega
    omega
theorem topTo_end {xs : List Int} {n : Nat} {t : Int} (h : TopTo xs n t) (hl : xs.length = n) : IsTop xs t := by
  refine ⟨h.1, fun x hx => ?_⟩
  obtain ⟨k, hk, rfl⟩ := List.getElem_of_mem hx
  have := h.2 k (by omega)
  simpa [List.getD, hk] using this
theorem pows_snoc (b s m : Int) (xs : List Int) (k : Nat) (hk : k < xs.length) : pows b s m (xs.take k) ++ [E (dif b s m (xs.getD k 0))] = pows b s m (xs.take (k + 1)) := by
  unfold pows
  rw [List.take_add_one, List.map_append]
  simp [List.getD, List.getElem?_eq_getElem hk]
theorem pows_wf (b s m : Int) (xs : List Int) : ∀ p ∈ pows b s m xs, (Lit.int .i32 p).wf = true := by
  intro p hp
  obtain ⟨x, _, rfl⟩ := List.mem_map.1 hp
  exact E_wf _

set_option maxHeartbeats 1000000 in
theorem ref_softmax (b s m : Int) (a : Option Addr) (n cap : Nat) (xs : List Int) (w : World) (h : Elems .i32 w a n xs) (hn : n ≤ 1000) (b1 : -2147483648 ≤ b) (b2 : b ≤ 2147483647) (hm : 0 < n → IsTop xs m) :
    Calls Tryz.prog 49 #[.int .i32 b, .int .i64 s, .slice a n cap] w fun e w' => (∃ a cap, e = .returned (.slice a n cap) ∧ Elems .i32 w' a n (soft b s m xs)) ∧ Below w.heap.size w w' := by
  obtain ⟨i0, hi, hz0, hz1, hz2⟩ := info32_parts'
  have HL := Lib.hid h.1
  have HM := Lib.hid hm
  clear hm
  go_enter Tryz.func49, Tryz.ntmps49
  go_wp2
  go_loopw [7, 8] (fun o i wr => ∃ (j : Nat), j ≤ n ∧ i = .int .i64 j ∧ wr.ownsRow w.heap.size 21 1 o j ((pows b s m (xs.take j)).map (.int .i32)) ∧ Below w.heap.size w wr) (fun _ i _ => n - (intOf i).toNat)
  case atStart => exact ⟨0, by omega, rfl, own_nil w w.heap.size 21, Below.refl _ _⟩
  case round =>
    obtain ⟨j, hj, rfl, hown, hbel⟩ := hrel
    by_cases hlt : j < n
    · obtain ⟨b', off, v, rfl, hc, hv, wv⟩ := (h.below hbel).at_ hlt
      obtain ⟨v1, v2⟩ := wf32 wv
      have hE := h.below hbel
      have HT := Lib.hid (show TopTo xs 0 v from ⟨by rw [← hv.out]; exact getD_mem (by rw [HL.out]; exact hlt), fun i hi => by omega⟩)
      clear h
      go_wp2
      go_loop [9, 10] (fun t i => ∃ (k : Nat) (q : Int), k ≤ n ∧ i = .int .i64 k ∧ t = .int .i32 q ∧ Hid (TopTo xs k q)) (fun _ i => n - (intOf i).toNat)
      case atStart => exact ⟨0, v, by omega, rfl, rfl, HT⟩
      case round =>
        clear HT
        obtain ⟨k, q, hk, rfl, rfl, ht⟩ := hrel
        by_cases hlt2 : k < n
        · obtain ⟨b2', off2, u, he, hc2, hu, wu⟩ := hE.at_ hlt2
          cases he
          by_cases hq : q < u
          · have HT2 := Lib.hid (topTo_new ht.out (by rw [HL.out]; exact hlt2) (by rw [hu.out]; exact hq))
            rw [hu.out] at HT2
            clear ht hu hE hv
            go_wp2
            go_round
            case rel => exact ⟨k + 1, u, by omega, by go_num, rfl, HT2⟩
            case measure => simp [intOf]; omega
          · have HT2 := Lib.hid (topTo_old ht.out (by rw [hu.out]; exact hq))
            clear ht hu hE hv
            go_wp2
            go_round
            case rel => exact ⟨k + 1, q, by omega, by go_num, rfl, HT2⟩
            case measure => simp [intOf]; omega
        · obtain rfl : k = n := by omega
          have htop := topTo_end ht.out HL.out
          obtain rfl : q = m := htop.unique (HM.out (by omega))
          obtain ⟨m1, m2⟩ := wf32 (hE.2.2.1 _ htop.1)
          obtain ⟨d1, d2, p1, p2, p3, p4⟩ := dif_bd b s q v b1 b2 m1 m2 v1 v2
          have hsh : ∀ w, Calls Tryz.prog 72 #[.int .i64 ((v - q) * b), .int .i64 s] w fun e w' => e = .returned (.int .i64 (dif b s q v)) ∧ w = w' := fun w => ref_shift _ _ (by omega) (by omega) w
          have hex : ∀ w, Calls Tryz.prog 76 #[.int .i64 (dif b s q v)] w fun e w' => e = .returned (.int .i32 (E (dif b s q v))) ∧ Below w.heap.size w w' := fun w => ref_exp _ (by omega) (by omega) w
          have hnext : Hid (pows b s q (xs.take j) ++ [E (dif b s q v)] = pows b s q (xs.take (j + 1))) := Lib.hid (by rw [← pows_snoc _ _ _ _ _ (by rw [HL.out]; exact hlt), hv.out])
          have hs := hbel.size
          have HE := Lib.hid hE
          generalize E (dif b s q v) = y at hex hnext
          generalize dif b s q v = z at hsh hex p3 p4
          generalize pows b s q (xs.take j) = cs at hown hnext
          clear ht htop hE hv
          go_wp2_with (first
            | (go_at_call 72; (with_reducible refine (hsh _).mono ?_); rintro e w' ⟨rfl, rfl⟩)
            | (go_at_call 76; (with_reducible refine (hex _).mono ?_); rintro e wb ⟨rfl, hb2⟩; have hown2 := own_below hown hb2; have hbel2 := below_two hbel hb2; have hs2 := hbel2.size)
            | (at_builtin; refine wpList_append_own _ rfl _ _ 36 rfl w.heap.size 21 i0 (.int .i32 0) 1 4 Tryz.underlying36 hi hz0 hz1 hz2 rfl (by decide) _ _ _ rfl (hown2.alloc _) ⟨wb.heap.size, 0, none⟩ 1 1 [.int .i32 y] rfl rfl (cell_one_new _ _ _) one_cell (by unfold maxLen; omega) (by omega) (by simp; omega) ?_))
          intro v' w' hown' hgrow _
          have hown3 : w'.ownsRow w.heap.size 21 1 v' (j + 1) ((cs ++ [y]).map (.int .i32)) := by rw [List.map_append]; exact hown'
          have hbel3 := (hbel2.alloc hs2 (.cells #[.int .i32 y] 21)).grown hgrow (by simp; omega) (own_lt hown2)
          rw [hnext.out] at hown3
          clear hown' hgrow hown hown2 hbel hbel2 hc wv hs hs2 hsh hex hb2 HE
          go_wp2
          go_roundw
          case rel => exact ⟨j + 1, by omega, by go_num, hown3, hbel3⟩
          case measure => simp [intOf]; omega
    · obtain rfl : j = n := by omega
      rw [List.take_of_length_le (by rw [HL.out]; omega)] at hown
      obtain ⟨aS, capS, hvS, hE⟩ := own_form hown (by omega) (pows_wf b s m xs)
      subst hvS
      have hso : (pows b s m xs).map (share 65536 (stot (pows b s m xs))) = soft b s m xs := rfl
      have HSO := Lib.hid hso
      clear h hown hso
      go_wp2_with fail
      refine (ref_shares 65536 _ j capS (pows b s m xs) wr hE hn (by decide) (by decide)).mono ?_
      rintro e wc ⟨g2, c2, rfl, hE3, hb4⟩
      rw [HSO.out] at hE3
      have hb5 := below_two hbel hb4
      clear hE hb4 hbel
      go_wp2
      go_ret
      exact ⟨⟨_, _, rfl, hE3⟩, hb5⟩

end Go.Proofs.YtoeihigdndkjeaaGreatDoor

/-
  Contract of the document's Join: the same row as layer 5's, in new memory.
-/
namespace Go.Proofs.YtoeihigdndkjeaaGreatDoor
open Go.RowKit
set_option linter.unusedVariables false

set_option maxHeartbeats 2000000 in
theorem ref_join (xa ya : Option Addr) (n xcap ycap : Nat) (b s : Int) (xs ys : List Int) (w : World) (hx : Elems .i32 w xa n xs) (hy : Elems .i32 w ya n ys) (hn : n ≤ 1000) (b1 : -2147483648 ≤ b) (b2 : b ≤ 2147483647) :
    Calls Tryz.prog 51 #[.slice xa n xcap, .slice ya n ycap, .int .i32 b, .int .i64 s] w fun e w' => (∃ a cap, e = .returned (.slice a n cap) ∧ Elems .i32 w' a n (joinL b s xs ys n)) ∧ Below w.heap.size w w' := by
  go_enter Tryz.func51, Tryz.ntmps51
  go_wp2
  go_loopw [9, 10] (fun o i wr => ∃ (j : Nat), j ≤ n ∧ i = .int .i64 j ∧ wr.ownsRow w.heap.size 21 1 o j ((joinL b s xs ys j).map (.int .i32)) ∧ Below w.heap.size w wr) (fun _ i _ => n - (intOf i).toNat)
  case atStart => exact ⟨0, by omega, rfl, own_nil w w.heap.size 21, Below.refl _ _⟩
  case round =>
    obtain ⟨k, hk, rfl, hown, hbel⟩ := hrel
    by_cases hlt : k < n
    · obtain ⟨bx, ox, v, rfl, hc, hv, wv⟩ := (hx.below hbel).at_ hlt
      obtain ⟨bY, oY, u, rfl, hc2, hu, wu⟩ := (hy.below hbel).at_ hlt
      obtain ⟨v1, v2⟩ := wf32 wv
      obtain ⟨u1, u2⟩ := wf32 wu
      have hsz := hbel.size
      have hnext : Hid (joinL b s xs ys k ++ [join1 b s v u] = joinL b s xs ys (k + 1)) := Lib.hid (by
        rw [← hu.out, ← hv.out]; exact range_snoc (fun i => join1 b s (xs.getD i 0) (ys.getD i 0)) k)
      have hz := scl_bd b s u
      have hsc : ∀ w, Calls Tryz.prog 74 #[.int .i32 u, .int .i32 b, .int .i64 s, .int .i64 (-2147483648), .int .i64 2147483647] w fun e w' => e = .returned (.int .i64 (scl b s u)) ∧ w = w' := fun w => ref_scale u b s _ _ u1 u2 b1 b2 w
      have hval : join1 b s v u = wsum [v, scl b s u] := by unfold join1 wsum; simp
      generalize scl b s u = z at hsc hz hval
      have hsu : ∀ (W : World) (g : Nat), W.cell? ⟨g, 0, none⟩ = some (.int .i64 v) → W.cell? ⟨g, 1, none⟩ = some (.int .i64 z) → Calls Tryz.prog 75 #[.slice (some ⟨g, 0, none⟩) 2 2] W fun e w' => e = .returned (.int .i32 (wsum [v, z])) ∧ W = w' := fun W g h0 h1 =>
        ref_wrap (some ⟨g, 0, none⟩) 2 2 [v, z] W (pair_elems h0 h1 (WalkArith.wf_i64 ⟨by omega, by omega⟩) (WalkArith.wf_i64 ⟨by omega, by omega⟩))
      rw [← hval] at hsu
      generalize join1 b s v u = y at hnext hsu hval
      generalize joinL b s xs ys k = cs at hown hnext
      have e0 : IntKind.i64.wrap v = v := IntWalk.i64_in _ (by omega)
      have hownA : (wr.alloc (.cells #[.int .i64 v, .int .i64 z] 2)).drew.ownsRow w.heap.size 21 1 u9 k (cs.map (.int .i32)) := hown.alloc _
      have hbelA := (hbel.alloc hsz (.cells #[.int .i64 v, .int .i64 z] 2)).drew
      obtain ⟨g, cap3, w3, hrun, hown3, hgr3, hlt3⟩ := run_append_one (wr.alloc (.cells #[.int .i64 v, .int .i64 z] 2)).drew w.heap.size u9 k cs y hownA (by omega) hbelA.size
      have hrunD : Sem.run Tryz.prog (Builtin.append_ #[36, 36] 36 #[u9, .slice (some ⟨wr.heap.size + 1, 0, none⟩) 1 1]) ((wr.alloc (.cells #[.int .i64 v, .int .i64 z] 2)).alloc (.cells #[.int .i32 y] 21)).drew = .ok (.slice (some ⟨g, 0, none⟩) (k + 1) cap3) w3 := by
        have h := hrun
        rw [show (wr.alloc (.cells #[.int .i64 v, .int .i64 z] 2)).drew.heap.size = wr.heap.size + 1 by simp [World.drew]] at h
        exact h
      have hbel3 := hbelA.grown hgr3 hbelA.size (own_lt hownA)
      have hE1 := hx.below hbel3
      have hE2 := hy.below hbel3
      rw [hnext.out] at hown3
      have hN : ∀ (k2 : Nat), wr.heap.size ≤ k2 → bx ≠ k2 ∧ bY ≠ k2 := fun k2 hk2 => by
        have := hx.blk _ rfl (by omega)
        have := hy.blk _ rfl (by omega)
        simp only at *
        omega
      have m1 : w3.cell? ⟨bx, ox + k, none⟩ = some (.int .i32 v) := by
        obtain ⟨b', o', v', he, hc', hv', _⟩ := hE1.at_ hlt
        cases he
        rw [hc', ← hv'.out, hv.out]
      have m2 : w3.cell? ⟨bY, oY + k, none⟩ = some (.int .i32 u) := by
        obtain ⟨b', o', v', he, hc', hv', _⟩ := hE2.at_ hlt
        cases he
        rw [hc', ← hv'.out, hu.out]
      clear hv hu hval hE1 hE2 hown hN hbelA hgr3 hrun
      go_wp2_with fail
      go_region_held3 (fun w' => w'.cell? ⟨bx, ox + k, none⟩ = some (.int .i32 v) ∧ w'.cell? ⟨bY, oY + k, none⟩ = some (.int .i32 u))
        (first | go_keep | (go_split_ands; refine ⟨?_, ?_⟩ <;> assumption))
        (first
          | (go_at_call 74; (with_reducible refine (hsc _).mono ?_); rintro e w' ⟨rfl, rfl⟩)
          | (go_at_call 75; (refine (hsu _ _ (by simp) (by simp)).mono ?_); rintro e w' ⟨rfl, rfl⟩)
          | ((with_reducible refine step_append_run ?_ (.tmp 17) (.tmp 32) 36 ?_ _ _ ?_ ?_ hrunD ?_); rfl; rfl; rfl; rfl))
      clear hsc hsu m1 m2 hrunD
      all_goals go_wp2
      all_goals
        go_roundw
        case rel => exact ⟨k + 1, by omega, by go_num, hown3, hbel3⟩
        case measure => simp [intOf]; omega
    · obtain rfl : k = n := by omega
      obtain ⟨aS, capS, hvS, hE⟩ := own_form hown (by omega) (joinL_wf b s xs ys k)
      subst hvS
      clear hx hy hown
      go_wp2
      go_ret
      exact ⟨⟨_, _, rfl, hE⟩, hbel⟩

end Go.Proofs.YtoeihigdndkjeaaGreatDoor

/-
  A row of numbers of whatever kind, and a slice of such rows, that come in as a row's arguments: what the walk is told of them.
-/
namespace Go.Proofs.YtoeihigdndkjeaaGreatDoor
open Go.RowKit Go.ChangeShapes Go.WideShapes Go.Deep Go.Joins
set_option linter.unusedVariables false

/-- what the kit's shell says of a slice of numbers that came in, as a row -/
theorem rw_of_row {k : IntKind} {w : World} {a : Option Addr} {len cap : Nat} {zs : List Int}
    (h : (a = none ∧ len = 0 ∧ cap = 0 ∧ zs = []) ∨ ∃ x, a = some x ∧ len ≤ cap ∧ cap ≤ maxLen ∧ zs.length = cap ∧ (∀ i, i < zs.length → w.cell? (x.add i) = some (.int k (zs.getD i 0))) ∧ ∀ n ∈ zs, (Lit.int k n).wf = true) :
    ∃ xs, Rw.In k w ⟨a, len, cap, xs⟩ := by
  obtain ⟨⟨xs, hE⟩, h1, h2⟩ := elems_of_row h
  refine ⟨xs, hE, h1, h2, ?_⟩
  rcases h with ⟨rfl, _, rfl, _⟩ | ⟨x, rfl, _, _, hz, hc, _⟩
  · exact ⟨fun _ => rfl, fun x e => by cases e⟩
  · refine ⟨fun e => (by cases e), fun y e h0 => ?_⟩
    cases e
    have h00 := hc 0 (by rw [hz]; exact h0)
    simpa [Addr.add] using World.cell?_spot h00

section
variable {H : Type} {enc : TypeId × Value → H} {w : World}

/-- the cells of a row of numbers, read -/
theorem rw_of_reads {k : IntKind} {t e : TypeId} (ht : Tryz.prog.underlying t = some (.slice e)) (he : Tryz.prog.underlying e = some (.int k)) (hc : Tryz.prog.cellsOf e = 1) {n2 : Nat} {v2 : Value} {y2 : DataW H × List MemPlace} (h2 : DataW.trod enc Tryz.prog w 0 (fun _ => true) true n2 t [v2] = some y2) :
    ∃ q : Rw, v2 = .slice q.a q.n q.cap ∧ q.In k w := by
  rcases open_ints ht he hc h2 with ⟨hcs, _⟩ | ⟨x, l, cap, zs, hcs, _, hl, hm, hz, _, hcell, hwz⟩
  · simp only [List.cons.injEq, and_true] at hcs
    exact ⟨⟨none, 0, 0, []⟩, hcs, Elems.nil_ _ _ _, Nat.le_refl _, by show (0 : Nat) ≤ _; omega, ⟨fun _ => rfl, fun x e => (by cases e)⟩⟩
  · simp only [List.cons.injEq, and_true] at hcs
    have hzc : zs.length = cap := by simpa using hz
    obtain ⟨⟨xs, hE⟩, _, hmax⟩ := elems_of_row (k := k) (w := w) (a := some x) (len := l) (cap := cap) (zs := zs) (.inr ⟨x, rfl, hl, hm, hzc, hcell, hwz⟩)
    refine ⟨⟨some x, l, cap, xs⟩, hcs, hE, hl, hmax, ⟨fun e => (by cases e), fun y e hc => ?_⟩⟩
    cases e
    have h00 := hcell 0 (by show 0 < zs.length; rw [hzc]; exact hc)
    simpa [Addr.add] using World.cell?_spot h00

set_option maxRecDepth 100000 in
theorem open_rw {k : IntKind} {t e : TypeId} (ht : Tryz.prog.underlying t = some (.slice e)) (he : Tryz.prog.underlying e = some (.int k)) (hc : Tryz.prog.cellsOf e = 1) {r : Reach} {b0 : Nat} {v : Value} {d : DataW H} {p : List MemPlace} (hv : Value.okWide Tryz.prog w r b0 t v) (h : DataW.Trod enc Tryz.prog w 0 (fun _ => true) true t v d p) :
    ∃ q : Rw, v = .slice q.a q.n q.cap ∧ q.In k w := by
  obtain ⟨a, n, cap, rfl⟩ := okWide_slice ht hv
  obtain ⟨fuel, hf⟩ := h
  have hf2 : DataW.trod enc Tryz.prog w 0 (fun _ => true) true fuel t [.slice a n cap] = some (d, p) := by simpa [Value.cells] using hf
  exact rw_of_reads ht he hc hf2

set_option maxRecDepth 100000 in
theorem open_rws {kd : IntKind} {tt t e : TypeId} (htt : Tryz.prog.underlying tt = some (.slice t)) (hct : Tryz.prog.cellsOf t = 1) (ht : Tryz.prog.underlying t = some (.slice e)) (he : Tryz.prog.underlying e = some (.int kd)) (hc : Tryz.prog.cellsOf e = 1) {r : Reach} {b0 : Nat} {v : Value} {d : DataW H} {p : List MemPlace}
    (hv : Value.okWide Tryz.prog w r b0 tt v) (h : DataW.Trod enc Tryz.prog w 0 (fun _ => true) true tt v d p) :
    ∃ (a : Option Addr) (n cap : Nat) (qs : List Rw), v = .slice a n cap ∧ Rws kd w a n qs ∧ n ≤ cap ∧ cap ≤ 9223372036854775807 ∧ Sl a cap := by
  obtain ⟨a, n, cap, rfl⟩ := okWide_slice htt hv
  refine ⟨a, n, cap, ?_⟩
  obtain ⟨fuel, hf⟩ := h
  rcases open_slice htt hf with ⟨hcs, _⟩ | ⟨x, l, cp, m, k, D, Pl, hcs, _, hl, hm, hmm, _, hi⟩
  · simp [Value.cells] at hcs
    obtain ⟨rfl, rfl, rfl⟩ := hcs
    exact ⟨[], rfl, Rws.nil_ _ _ _, Nat.le_refl _, by omega, fun _ => rfl, fun x e => (by cases e)⟩
  · simp [Value.cells] at hcs
    obtain ⟨rfl, rfl, rfl⟩ := hcs
    unfold maxLen at hm
    have hml : m = cap := by simpa using hmm
    have hone : ∀ i, i < m → ∃ q : Rw, w.cell? (x.add (i * 1)) = some (.slice q.a q.n q.cap) ∧ q.In kd w := by
      intro i hin
      obtain ⟨cs', hc', ht'⟩ := hi i (by omega)
      rw [hct] at hc'
      obtain ⟨_, hcl, hat⟩ := World.cells?_some hc'
      obtain ⟨c0, rfl⟩ : ∃ c0, cs' = [c0] := by
        match cs', hcl with
        | [c0], _ => exact ⟨_, rfl⟩
      have e0 := hat 0 (by omega)
      obtain ⟨q, rfl, hq⟩ := rw_of_reads ht he hc ht'
      refine ⟨q, ?_, hq⟩
      simpa [Addr.add] using e0
    have hgs : ∃ f : Nat → Rw, ∀ i, i < m → w.cell? (x.add (i * 1)) = some (.slice (f i).a (f i).n (f i).cap) ∧ (f i).In kd w := by
      classical
      exact ⟨fun i => if h : i < m then Classical.choose (hone i h) else default, fun i hin => by simp only [dif_pos hin]; exact Classical.choose_spec (hone i hin)⟩
    obtain ⟨f, hf2⟩ := hgs
    refine ⟨(List.range n).map f, rfl, ⟨by simp, by omega, ?_, fun hn => ?_⟩, hl, by omega, fun e => (by cases e), fun y e h0 => ?_⟩
    · intro g hg
      obtain ⟨i, hin, rfl⟩ := List.mem_map.1 hg
      have := List.mem_range.1 hin
      exact (hf2 i (by omega)).2
    · obtain ⟨b, off, spot⟩ := x
      have h00 := (hf2 0 (by omega)).1
      have hs : spot = none := by simpa [Addr.add] using World.cell?_spot h00
      subst hs
      refine ⟨b, off, rfl, fun i hin => ?_⟩
      obtain ⟨e0, _⟩ := hf2 i (by omega)
      have hd : ((List.range n).map f).getD i default = f i := by simp [List.getD, hin]
      rw [hd]
      simp only [add_plain', Nat.mul_one] at e0
      exact e0
    · cases e
      have h00 := (hf2 0 (by omega)).1
      simpa [Addr.add] using World.cell?_spot h00
end

end Go.Proofs.YtoeihigdndkjeaaGreatDoor

/-
  Arguments of stage 7 as a walk is told of them: a shape, an array of six ints, how a file is turned.
-/
namespace Go.Proofs.YtoeihigdndkjeaaGreatDoor
open Go.RowKit Go.ChangeShapes Go.WideShapes Go.Deep Go.Joins Go.WideMaps
set_option linter.unusedVariables false

/-- six ints of 64 bits -/
def Six (l w h i v p : Int) : Prop := (Lit.int .i64 l).wf = true ∧ (Lit.int .i64 w).wf = true ∧ (Lit.int .i64 h).wf = true ∧ (Lit.int .i64 i).wf = true ∧ (Lit.int .i64 v).wf = true ∧ (Lit.int .i64 p).wf = true

theorem cells_shape : Tryz.prog.cellsOf 45 = 6 := by kernel_rfl
theorem cells_int7 : Tryz.prog.cellsOf 3 = 1 := by kernel_rfl
theorem cells_six : Tryz.prog.cellsOf 22 = 6 := by kernel_rfl

section
variable {H : Type} {enc : TypeId × Value → H} {w : World}

set_option maxRecDepth 100000 in
theorem int_of {n : Nat} {c : Value} {y : DataW H × List MemPlace} (h : DataW.trod enc Tryz.prog w 0 (fun _ => true) true n 3 [c] = some y) : ∃ z : Int, c = .int .i64 z ∧ (Lit.int .i64 z).wf = true := by
  obtain ⟨b, e2, _, wb⟩ := DataW.trod_int Tryz.underlying3 h
  simp only [List.cons.injEq, and_true] at e2
  exact ⟨b, e2, wb⟩

set_option maxRecDepth 100000 in
theorem open_shape {r : Reach} {b0 : Nat} {v : Value} {d : DataW H} {p : List MemPlace} (hv : Value.okWide Tryz.prog w r b0 45 v) (h : DataW.Trod enc Tryz.prog w 0 (fun _ => true) true 45 v d p) :
    ∃ l w0 h0 i v0 p0 : Int, v = .agg #[.int .i64 l, .int .i64 w0, .int .i64 h0, .int .i64 i, .int .i64 v0, .int .i64 p0] ∧ Six l w0 h0 i v0 p0 := by
  obtain ⟨cs, rfl, hsz⟩ := okWide_struct Tryz.underlying45 hv
  obtain ⟨l⟩ := cs
  match l, hsz.trans cells_shape with
  | [c0, c1, c2, c3, c4, c5], _ =>
    obtain ⟨fuel, hf⟩ := h
    obtain ⟨xs, n, _, hx, _, hlen, hg⟩ := DataW.trod_struct Tryz.underlying45 hf
    match xs, hlen with
    | [y0, y1, y2, y3, y4, y5], _ =>
      have g0 : DataW.trod enc Tryz.prog w 0 (fun _ => true) true n 3 (([c0, c1, c2, c3, c4, c5].drop 0).take (Tryz.prog.cellsOf 3)) = some y0 := hg 0 _ rfl
      have g1 : DataW.trod enc Tryz.prog w 0 (fun _ => true) true n 3 (([c0, c1, c2, c3, c4, c5].drop 1).take (Tryz.prog.cellsOf 3)) = some y1 := hg 1 _ rfl
      have g2 : DataW.trod enc Tryz.prog w 0 (fun _ => true) true n 3 (([c0, c1, c2, c3, c4, c5].drop 2).take (Tryz.prog.cellsOf 3)) = some y2 := hg 2 _ rfl
      have g3 : DataW.trod enc Tryz.prog w 0 (fun _ => true) true n 3 (([c0, c1, c2, c3, c4, c5].drop 3).take (Tryz.prog.cellsOf 3)) = some y3 := hg 3 _ rfl
      have g4 : DataW.trod enc Tryz.prog w 0 (fun _ => true) true n 3 (([c0, c1, c2, c3, c4, c5].drop 4).take (Tryz.prog.cellsOf 3)) = some y4 := hg 4 _ rfl
      have g5 : DataW.trod enc Tryz.prog w 0 (fun _ => true) true n 3 (([c0, c1, c2, c3, c4, c5].drop 5).take (Tryz.prog.cellsOf 3)) = some y5 := hg 5 _ rfl
      rw [cells_int7] at g0 g1 g2 g3 g4 g5
      obtain ⟨z0, rfl, w0⟩ := int_of (c := c0) (y := y0) g0
      obtain ⟨z1, rfl, w1⟩ := int_of (c := c1) (y := y1) g1
      obtain ⟨z2, rfl, w2⟩ := int_of (c := c2) (y := y2) g2
      obtain ⟨z3, rfl, w3⟩ := int_of (c := c3) (y := y3) g3
      obtain ⟨z4, rfl, w4⟩ := int_of (c := c4) (y := y4) g4
      obtain ⟨z5, rfl, w5⟩ := int_of (c := c5) (y := y5) g5
      exact ⟨z0, z1, z2, z3, z4, z5, rfl, w0, w1, w2, w3, w4, w5⟩

theorem arr6 : ArrKey Tryz.prog 22 3 6 := ⟨Tryz.underlying22, by kernel_rfl, by kernel_rfl, by kernel_rfl⟩
set_option maxRecDepth 100000 in
theorem open_six {r : Reach} {b0 : Nat} {v : Value} {d : DataW H} {p : List MemPlace} (hv : Value.okWide Tryz.prog w r b0 22 v) (h : DataW.Trod enc Tryz.prog w 0 (fun _ => true) true 22 v d p) :
    ∃ l w0 h0 i v0 p0 : Int, v = .agg #[.int .i64 l, .int .i64 w0, .int .i64 h0, .int .i64 i, .int .i64 v0, .int .i64 p0] ∧ Six l w0 h0 i v0 p0 := by
  have A := arr6
  simp only [Value.okWide, A.hu] at hv
  obtain ⟨cs, rfl, h2, _⟩ := hv
  rw [A.size] at h2
  obtain ⟨l⟩ := cs
  match l, h2 with
  | [c0, c1, c2, c3, c4, c5], _ =>
    obtain ⟨fuel, hf⟩ := h
    cases fuel with
    | zero => simp [DataW.trod] at hf
    | succ n =>
      rw [DataW.trod_step] at hf
      unfold DataW.trodStep at hf
      simp only [A.hu, Value.cells] at hf
      rw [if_pos (by rw [A.size]; rfl)] at hf
      simp only [Option.map_eq_some_iff] at hf
      obtain ⟨xs, hx, e1⟩ := hf
      rw [show List.range 6 = [0, 1, 2, 3, 4, 5] from rfl, List.mapM_cons, List.mapM_cons, List.mapM_cons, List.mapM_cons, List.mapM_cons, List.mapM_cons, List.mapM_nil] at hx
      simp only [bind, Option.bind_eq_some_iff, pure, Option.some.injEq, A.one] at hx
      obtain ⟨y0, g0, _, ⟨y1, g1, _, ⟨y2, g2, _, ⟨y3, g3, _, ⟨y4, g4, _, ⟨y5, g5, _⟩, _⟩, _⟩, _⟩, _⟩, _⟩ := hx
      obtain ⟨z0, rfl, w0⟩ := int_of (c := c0) (y := y0) g0
      obtain ⟨z1, rfl, w1⟩ := int_of (c := c1) (y := y1) g1
      obtain ⟨z2, rfl, w2⟩ := int_of (c := c2) (y := y2) g2
      obtain ⟨z3, rfl, w3⟩ := int_of (c := c3) (y := y3) g3
      obtain ⟨z4, rfl, w4⟩ := int_of (c := c4) (y := y4) g4
      obtain ⟨z5, rfl, w5⟩ := int_of (c := c5) (y := y5) g5
      exact ⟨z0, z1, z2, z3, z4, z5, rfl, w0, w1, w2, w3, w4, w5⟩

end

end Go.Proofs.YtoeihigdndkjeaaGreatDoor

/-
  Which model: a struct of six ints, a number of 64 bits and a row of numbers of 8 bits, as a walk is told of it.
-/
namespace Go.Proofs.YtoeihigdndkjeaaGreatDoor
open Go.RowKit Go.ChangeShapes Go.WideShapes Go.Deep Go.Joins Go.WideMaps
set_option linter.unusedVariables false

section
variable {H : Type} {enc : TypeId × Value → H} {w : World}
set_option maxRecDepth 100000 in
theorem six_of_trod {fuel : Nat} {c0 c1 c2 c3 c4 c5 : Value} {y : DataW H × List MemPlace} (hf : DataW.trod enc Tryz.prog w 0 (fun _ => true) true fuel 22 [c0, c1, c2, c3, c4, c5] = some y) :
    ∃ l w0 h0 i v0 p0 : Int, c0 = .int .i64 l ∧ c1 = .int .i64 w0 ∧ c2 = .int .i64 h0 ∧ c3 = .int .i64 i ∧ c4 = .int .i64 v0 ∧ c5 = .int .i64 p0 ∧ Six l w0 h0 i v0 p0 := by
  have A := arr6
  cases fuel with
  | zero => simp [DataW.trod] at hf
  | succ n =>
    rw [DataW.trod_step] at hf
    unfold DataW.trodStep at hf
    simp only [A.hu] at hf
    rw [if_pos (by rw [A.size]; rfl)] at hf
    simp only [Option.map_eq_some_iff] at hf
    obtain ⟨xs, hx, e1⟩ := hf
    rw [show List.range 6 = [0, 1, 2, 3, 4, 5] from rfl, List.mapM_cons, List.mapM_cons, List.mapM_cons, List.mapM_cons, List.mapM_cons, List.mapM_cons, List.mapM_nil] at hx
    simp only [bind, Option.bind_eq_some_iff, pure, Option.some.injEq, A.one] at hx
    obtain ⟨y0, g0, _, ⟨y1, g1, _, ⟨y2, g2, _, ⟨y3, g3, _, ⟨y4, g4, _, ⟨y5, g5, _⟩, _⟩, _⟩, _⟩, _⟩, _⟩ := hx
    obtain ⟨z0, rfl, w0⟩ := int_of (c := c0) (y := y0) g0
    obtain ⟨z1, rfl, w1⟩ := int_of (c := c1) (y := y1) g1
    obtain ⟨z2, rfl, w2⟩ := int_of (c := c2) (y := y2) g2
    obtain ⟨z3, rfl, w3⟩ := int_of (c := c3) (y := y3) g3
    obtain ⟨z4, rfl, w4⟩ := int_of (c := c4) (y := y4) g4
    obtain ⟨z5, rfl, w5⟩ := int_of (c := c5) (y := y5) g5
    exact ⟨z0, z1, z2, z3, z4, z5, rfl, rfl, rfl, rfl, rfl, rfl, w0, w1, w2, w3, w4, w5⟩

theorem cells_seeds9 : Tryz.prog.cellsOf 73 = 8 := by kernel_rfl
set_option maxRecDepth 100000 in
theorem open_seeds9 {r : Reach} {b0 : Nat} {v : Value} {d : DataW H} {p : List MemPlace} (hv : Value.okWide Tryz.prog w r b0 73 v) (h : DataW.Trod enc Tryz.prog w 0 (fun _ => true) true 73 v d p) :
    ∃ (l w0 h0 i v0 p0 sd : Int) (q : Rw), v = .agg #[.int .i64 l, .int .i64 w0, .int .i64 h0, .int .i64 i, .int .i64 v0, .int .i64 p0, .int .u64 sd, .slice q.a q.n q.cap] ∧ (Six l w0 h0 i v0 p0 ∧ (Lit.int .u64 sd).wf = true ∧ q.In .i8 w) := by
  obtain ⟨cs, rfl, hsz⟩ := okWide_struct Tryz.underlying73 hv
  obtain ⟨l⟩ := cs
  match l, hsz.trans cells_seeds9 with
  | [c0, c1, c2, c3, c4, c5, c6, c7], _ =>
    obtain ⟨fuel, hf⟩ := h
    obtain ⟨xs, n, _, hx, _, hlen, hg⟩ := DataW.trod_struct Tryz.underlying73 hf
    match xs, hlen with
    | [y0, y1, y2], _ =>
      have g0 : DataW.trod enc Tryz.prog w 0 (fun _ => true) true n 22 (([c0, c1, c2, c3, c4, c5, c6, c7].drop 0).take (Tryz.prog.cellsOf 22)) = some y0 := hg 0 _ rfl
      have g1 : DataW.trod enc Tryz.prog w 0 (fun _ => true) true n 23 (([c0, c1, c2, c3, c4, c5, c6, c7].drop 6).take (Tryz.prog.cellsOf 23)) = some y1 := hg 1 _ rfl
      have g2 : DataW.trod enc Tryz.prog w 0 (fun _ => true) true n 24 (([c0, c1, c2, c3, c4, c5, c6, c7].drop 7).take (Tryz.prog.cellsOf 24)) = some y2 := hg 2 _ rfl
      rw [cells_six] at g0
      rw [show Tryz.prog.cellsOf 23 = 1 by kernel_rfl] at g1
      rw [show Tryz.prog.cellsOf 24 = 1 by kernel_rfl] at g2
      obtain ⟨z0, z1, z2, z3, z4, z5, rfl, rfl, rfl, rfl, rfl, rfl, hs⟩ := six_of_trod (c0 := c0) (c1 := c1) (c2 := c2) (c3 := c3) (c4 := c4) (c5 := c5) g0
      obtain ⟨x, e3, _, wx⟩ := DataW.trod_int Tryz.underlying23 (show DataW.trod enc Tryz.prog w 0 (fun _ => true) true n 23 [c6] = some y1 from g1)
      simp only [List.cons.injEq, and_true] at e3
      subst e3
      obtain ⟨q, rfl, hq⟩ := rw_of_reads Tryz.underlying24 Tryz.underlying64 (by kernel_rfl) (show DataW.trod enc Tryz.prog w 0 (fun _ => true) true n 24 [c7] = some y2 from g2)
      exact ⟨z0, z1, z2, z3, z4, z5, x, q, rfl, hs, wx, hq⟩

theorem cells_seeds8 : Tryz.prog.cellsOf 26 = 8 := by kernel_rfl
set_option maxRecDepth 100000 in
theorem open_seeds8 {r : Reach} {b0 : Nat} {v : Value} {d : DataW H} {p : List MemPlace} (hv : Value.okWide Tryz.prog w r b0 26 v) (h : DataW.Trod enc Tryz.prog w 0 (fun _ => true) true 26 v d p) :
    ∃ (l w0 h0 i v0 p0 sd : Int) (q : Rw), v = .agg #[.int .i64 l, .int .i64 w0, .int .i64 h0, .int .i64 i, .int .i64 v0, .int .i64 p0, .int .u64 sd, .slice q.a q.n q.cap] ∧ (Six l w0 h0 i v0 p0 ∧ (Lit.int .u64 sd).wf = true ∧ q.In .i8 w) := by
  obtain ⟨cs, rfl, hsz⟩ := okWide_struct Tryz.underlying26 hv
  obtain ⟨l⟩ := cs
  match l, hsz.trans cells_seeds8 with
  | [c0, c1, c2, c3, c4, c5, c6, c7], _ =>
    obtain ⟨fuel, hf⟩ := h
    obtain ⟨xs, n, _, hx, _, hlen, hg⟩ := DataW.trod_struct Tryz.underlying26 hf
    match xs, hlen with
    | [y0, y1, y2], _ =>
      have g0 : DataW.trod enc Tryz.prog w 0 (fun _ => true) true n 22 (([c0, c1, c2, c3, c4, c5, c6, c7].drop 0).take (Tryz.prog.cellsOf 22)) = some y0 := hg 0 _ rfl
      have g1 : DataW.trod enc Tryz.prog w 0 (fun _ => true) true n 23 (([c0, c1, c2, c3, c4, c5, c6, c7].drop 6).take (Tryz.prog.cellsOf 23)) = some y1 := hg 1 _ rfl
      have g2 : DataW.trod enc Tryz.prog w 0 (fun _ => true) true n 24 (([c0, c1, c2, c3, c4, c5, c6, c7].drop 7).take (Tryz.prog.cellsOf 24)) = some y2 := hg 2 _ rfl
      rw [cells_six] at g0
      rw [show Tryz.prog.cellsOf 23 = 1 by kernel_rfl] at g1
      rw [show Tryz.prog.cellsOf 24 = 1 by kernel_rfl] at g2
      obtain ⟨z0, z1, z2, z3, z4, z5, rfl, rfl, rfl, rfl, rfl, rfl, hs⟩ := six_of_trod (c0 := c0) (c1 := c1) (c2 := c2) (c3 := c3) (c4 := c4) (c5 := c5) g0
      obtain ⟨x, e3, _, wx⟩ := DataW.trod_int Tryz.underlying23 (show DataW.trod enc Tryz.prog w 0 (fun _ => true) true n 23 [c6] = some y1 from g1)
      simp only [List.cons.injEq, and_true] at e3
      subst e3
      obtain ⟨q, rfl, hq⟩ := rw_of_reads Tryz.underlying24 Tryz.underlying64 (by kernel_rfl) (show DataW.trod enc Tryz.prog w 0 (fun _ => true) true n 24 [c7] = some y2 from g2)
      exact ⟨z0, z1, z2, z3, z4, z5, x, q, rfl, hs, wx, hq⟩
end

end Go.Proofs.YtoeihigdndkjeaaGreatDoor
