/-
  Contract of the document's Softmax: the same weights as layer 5's, in new memory; nothing else turns.
-/
import Derived.Test.YthblniakghfchaaDoorSoft
import Derived.Test.YthblniakghfchaaDoorRefExp
import Derived.Test.YthblniakghfchaaDoorRefShares
import Derived.Test.YthblniakghfchaaDoorRefNorm
namespace Go.Proofs.YthblniakghfchaaDoor
open Go.RowKit
set_option linter.unusedVariables false

/-- among the first k numbers none is above t, which is one of the row -/
def TopTo (xs : List Int) (k : Nat) (t : Int) : Prop := t ∈ xs ∧ ∀ i, i < k → xs.getD i 0 ≤ t
theorem topTo_old {xs : List Int} {k : Nat} {t : Int} (h : TopTo xs k t) (hle : ¬ t < xs.getD k 0) : TopTo xs (k + 1) t := by
  refine ⟨h.1, fun i hi => ?_⟩
  rcases Nat.lt_or_ge i k with h1 | h1
  · exact h.2 i h1
  · obtain rfl : i = k := by omega
    omega
theorem topTo_new {xs : List Int} {k : Nat} {t : Int} (h : TopTo xs k t) (hk : k < xs.length) (hlt : t < xs.getD k 0) : TopTo xs (k + 1) (xs.getD k 0) := by
  refine ⟨getD_mem hk, fun i hi => ?_⟩
  rcases Nat.lt_or_ge i k with h1 | h1
  · have := h.2 i h1; omega
  · obtain rfl : i = k := by omega
    omega
theorem topTo_end {xs : List Int} {n : Nat} {t : Int} (h : TopTo xs n t) (hl : xs.length = n) : IsTop xs t := by
  refine ⟨h.1, fun x hx => ?_⟩
  obtain ⟨k, hk, rfl⟩ := List.getElem_of_mem hx
  have := h.2 k (by omega)
  simpa [List.getD, hk] using this
theorem pows_snoc (b s m : Int) (xs : List Int) (k : Nat) (hk : k < xs.length) : pows b s m (xs.take k) ++ [E (dif b s m (xs.getD k 0))] = pows b s m (xs.take (k + 1)) := by
  unfold pows
  rw [List.take_add_one, List.map_append]
  simp [List.getD, List.getElem?_eq_getElem hk]
theorem pows_wf (b s m : Int) (xs : List Int) : ∀ p ∈ pows b s m xs, (Lit.int .i32 p).wf = true := by
  intro p hp
  obtain ⟨x, _, rfl⟩ := List.mem_map.1 hp
  exact E_wf _

set_option maxHeartbeats 1000000 in
theorem ref_softmax (b s m : Int) (a : Option Addr) (n cap : Nat) (xs : List Int) (w : World) (h : Elems .i32 w a n xs) (hn : n ≤ 1000) (b1 : -2147483648 ≤ b) (b2 : b ≤ 2147483647) (hm : 0 < n → IsTop xs m) :
    Calls Tryd.prog 16 #[.int .i32 b, .int .i64 s, .slice a n cap] w fun e w' => (∃ a cap, e = .returned (.slice a n cap) ∧ Elems .i32 w' a n (soft b s m xs)) ∧ Below w.heap.size w w' := by
  obtain ⟨i0, hi, hz0, hz1, hz2⟩ := info32_parts'
  have HL := Lib.hid h.1
  have HM := Lib.hid hm
  clear hm
  go_enter Tryd.func16, Tryd.ntmps16
  go_wp2
  go_loopw [7, 8] (fun o i wr => ∃ (j : Nat), j ≤ n ∧ i = .int .i64 j ∧ wr.ownsRow w.heap.size 21 1 o j ((pows b s m (xs.take j)).map (.int .i32)) ∧ Below w.heap.size w wr) (fun _ i _ => n - (intOf i).toNat)
  case atStart => exact ⟨0, by omega, rfl, own_nil w w.heap.size 21, Below.refl _ _⟩
  case round =>
    obtain ⟨j, hj, rfl, hown, hbel⟩ := hrel
    by_cases hlt : j < n
    · obtain ⟨b', off, v, rfl, hc, hv, wv⟩ := (h.below hbel).at_ hlt
      obtain ⟨v1, v2⟩ := wf32 wv
      have hE := h.below hbel
      have HT := Lib.hid (show TopTo xs 0 v from ⟨by rw [← hv.out]; exact getD_mem (by rw [HL.out]; exact hlt), fun i hi => by omega⟩)
      clear h
      go_wp2
      go_loop [9, 10] (fun t i => ∃ (k : Nat) (q : Int), k ≤ n ∧ i = .int .i64 k ∧ t = .int .i32 q ∧ Hid (TopTo xs k q)) (fun _ i => n - (intOf i).toNat)
      case atStart => exact ⟨0, v, by omega, rfl, rfl, HT⟩
      case round =>
        clear HT
        obtain ⟨k, q, hk, rfl, rfl, ht⟩ := hrel
        by_cases hlt2 : k < n
        · obtain ⟨b2', off2, u, he, hc2, hu, wu⟩ := hE.at_ hlt2
          cases he
          by_cases hq : q < u
          · have HT2 := Lib.hid (topTo_new ht.out (by rw [HL.out]; exact hlt2) (by rw [hu.out]; exact hq))
            rw [hu.out] at HT2
            clear ht hu hE hv
            go_wp2
            go_round
            case rel => exact ⟨k + 1, u, by omega, by go_num, rfl, HT2⟩
            case measure => simp [intOf]; omega
          · have HT2 := Lib.hid (topTo_old ht.out (by rw [hu.out]; exact hq))
            clear ht hu hE hv
            go_wp2
            go_round
            case rel => exact ⟨k + 1, q, by omega, by go_num, rfl, HT2⟩
            case measure => simp [intOf]; omega
        · obtain rfl : k = n := by omega
          have htop := topTo_end ht.out HL.out
          obtain rfl : q = m := htop.unique (HM.out (by omega))
          obtain ⟨m1, m2⟩ := wf32 (hE.2.2.1 _ htop.1)
          obtain ⟨d1, d2, p1, p2, p3, p4⟩ := dif_bd b s q v b1 b2 m1 m2 v1 v2
          have hsh : ∀ w, Calls Tryd.prog 29 #[.int .i64 ((v - q) * b), .int .i64 s] w fun e w' => e = .returned (.int .i64 (dif b s q v)) ∧ w = w' := fun w => ref_shift _ _ (by omega) (by omega) w
          have hex : ∀ w, Calls Tryd.prog 33 #[.int .i64 (dif b s q v)] w fun e w' => e = .returned (.int .i32 (E (dif b s q v))) ∧ Below w.heap.size w w' := fun w => ref_exp _ (by omega) (by omega) w
          have hnext : Hid (pows b s q (xs.take j) ++ [E (dif b s q v)] = pows b s q (xs.take (j + 1))) := Lib.hid (by rw [← pows_snoc _ _ _ _ _ (by rw [HL.out]; exact hlt), hv.out])
          have hs := hbel.size
          have HE := Lib.hid hE
          generalize E (dif b s q v) = y at hex hnext
          generalize dif b s q v = z at hsh hex p3 p4
          generalize pows b s q (xs.take j) = cs at hown hnext
          clear ht htop hE hv
          go_wp2_with (first
            | (go_at_call 29; (with_reducible refine (hsh _).mono ?_); rintro e w' ⟨rfl, rfl⟩)
            | (go_at_call 33; (with_reducible refine (hex _).mono ?_); rintro e wb ⟨rfl, hb2⟩; have hown2 := own_below hown hb2; have hbel2 := below_two hbel hb2; have hs2 := hbel2.size)
            | (at_builtin; refine wpList_append_own _ rfl _ _ 23 rfl w.heap.size 21 i0 (.int .i32 0) 1 4 Tryd.underlying23 hi hz0 hz1 hz2 rfl (by decide) _ _ _ rfl (hown2.alloc _) ⟨wb.heap.size, 0, none⟩ 1 1 [.int .i32 y] rfl rfl (cell_one_new _ _ _) one_cell (by unfold maxLen; omega) (by omega) (by simp; omega) ?_))
          intro v' w' hown' hgrow _
          have hown3 : w'.ownsRow w.heap.size 21 1 v' (j + 1) ((cs ++ [y]).map (.int .i32)) := by rw [List.map_append]; exact hown'
          have hbel3 := (hbel2.alloc hs2 (.cells #[.int .i32 y] 21)).grown hgrow (by simp; omega) (own_lt hown2)
          rw [hnext.out] at hown3
          clear hown' hgrow hown hown2 hbel hbel2 hc wv hs hs2 hsh hex hb2 HE
          go_wp2
          go_roundw
          case rel => exact ⟨j + 1, by omega, by go_num, hown3, hbel3⟩
          case measure => simp [intOf]; omega
    · obtain rfl : j = n := by omega
      rw [List.take_of_length_le (by rw [HL.out]; omega)] at hown
      obtain ⟨aS, capS, hvS, hE⟩ := own_form hown (by omega) (pows_wf b s m xs)
      subst hvS
      have hso : (pows b s m xs).map (share 65536 (tot (pows b s m xs))) = soft b s m xs := rfl
      have HSO := Lib.hid hso
      clear h hown hso
      go_wp2_with fail
      refine (ref_shares 65536 _ j capS (pows b s m xs) wr hE hn (by decide) (by decide)).mono ?_
      rintro e wc ⟨g2, c2, rfl, hE3, hb4⟩
      rw [HSO.out] at hE3
      have hb5 := below_two hbel hb4
      clear hE hb4 hbel
      go_wp2
      go_ret
      exact ⟨⟨_, _, rfl, hE3⟩, hb5⟩

end Go.Proofs.YthblniakghfchaaDoor
