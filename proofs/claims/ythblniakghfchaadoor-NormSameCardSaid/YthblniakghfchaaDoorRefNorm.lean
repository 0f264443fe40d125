/-
  Contract of the document's Norm: the same row as layer 5's, in new memory; nothing else turns.
-/
import Derived.Test.YthblniakghfchaaDoorNorms
import Derived.Test.YthblniakghfchaaDoorRefShift
import Derived.Test.YthblniakghfchaaDoorRefRoots
namespace Go.Proofs.YthblniakghfchaaDoor
open Go.RowKit
set_option linter.unusedVariables false

theorem range_snoc (f : Nat → Int) (j : Nat) : (List.range j).map f ++ [f j] = (List.range (j + 1)).map f := by rw [List.range_succ, List.map_append]; rfl
theorem info8_parts : ∃ i, Tryd.prog.info? 39 = some i ∧ i.zero = some (.int .i8 0) ∧ i.size = 1 ∧ i.bytes = 1 := by
  obtain ⟨i0, hi, hj⟩ := Option.map_eq_some_iff.1 info8
  exact ⟨i0, hi, by simpa using hj⟩
theorem info32_parts' : ∃ i, Tryd.prog.info? 21 = some i ∧ i.zero = some (.int .i32 0) ∧ i.size = 1 ∧ i.bytes = 4 := by
  obtain ⟨i0, hi, hj⟩ := Option.map_eq_some_iff.1 info_int32
  exact ⟨i0, hi, by simpa using hj⟩

theorem ref_inverse_is (m I : Int) (h0 : 0 ≤ m) (h1 : m ≤ 18446744073709551615) (hI : IsInv m I) (w : World) :
    Calls Tryd.prog 28 #[.int .u64 m] w fun e w' => e = .returned (.int .u64 I) ∧ w = w' :=
  (ref_inverse m h0 h1 w).mono (by rintro e w' ⟨⟨s, rfl, hs, _⟩, rfl⟩; exact ⟨by rw [hs.unique hI], rfl⟩)

set_option maxHeartbeats 1000000 in
theorem ref_norm (ga xa : Option Addr) (n gcap xcap : Nat) (gs xs : List Int) (I : Int) (w : World) (hg : Elems .i8 w ga n gs) (hx : Elems .i32 w xa n xs) (hn : n ≤ 1000) (hI : IsInv (msq xs) I) :
    Calls Tryd.prog 14 #[.slice ga n gcap, .slice xa n xcap] w fun e w' => (∃ a cap, e = .returned (.slice a n cap) ∧ Elems .i8 w' a n (norms I gs xs n)) ∧ Below w.heap.size w w' := by
  obtain ⟨i0, hi, hz0, hz1, hz2⟩ := info8_parts
  have HL := Lib.hid hx.1
  have hmb := msq_bd xs
  have hinv := ref_inverse_is (msq xs) I hmb.1 (by omega) hI
  obtain ⟨j0, j1⟩ := inv_bd hmb.1 hI
  have hme : Hid (msq xs = sqs xs / (n : Int)) := Lib.hid (by unfold msq; rw [HL.out])
  generalize msq xs = M at hmb hinv hI hme
  clear hmb hI
  go_enter Tryd.func14, Tryd.ntmps14
  go_wp2
  go_loop [5, 6] (fun s i => ∃ (k : Nat) (q : Int), k ≤ n ∧ i = .int .i64 k ∧ s = .int .u64 q ∧ Hid (q = sqs (xs.take k)) ∧ 0 ≤ q ∧ q ≤ k * 70368744177664) (fun _ i => n - (intOf i).toNat)
  case atStart => exact ⟨0, 0, by omega, rfl, rfl, Lib.hid (by simp [sqs]), by omega, by omega⟩
  case round =>
    obtain ⟨k, q, hk, rfl, rfl, hq, q0, q1⟩ := hrel
    by_cases hlt : k < n
    · obtain ⟨b, off, v, rfl, hc, hv, wv⟩ := hx.at_ hlt
      obtain ⟨v1, v2⟩ := wf32 wv
      have hst : Hid (q + nr v * nr v = sqs (xs.take (k + 1))) := Lib.hid (by rw [sqs_step xs k (by rw [HL.out]; exact hlt), hq.out, hv.out])
      have hb := nr_sq v
      have hnr : ∀ w, Calls Tryd.prog 27 #[.int .i64 v, .int .i64 (-8388608), .int .i64 8388607] w fun e w' => e = .returned (.int .i64 (nr v)) ∧ w = w' := fun w => ref_near v _ _ w
      generalize nr v = y at hst hb hnr
      obtain ⟨p0, p1⟩ := hb
      clear hx hg hv wv hq hinv
      go_wp2_with (go_at_call 27; (with_reducible refine (hnr _).mono ?_); rintro e w' ⟨rfl, rfl⟩)
      go_round
      case rel => exact ⟨k + 1, q + y * y, by omega, by go_num, rfl, hst, by omega, by push_cast; omega⟩
      case measure => simp [intOf]; omega
    · obtain rfl : k = n := by omega
      obtain rfl : q = sqs xs := by rw [hq.out, List.take_of_length_le (by rw [HL.out]; omega)]
      generalize sqs xs = S at q0 q1 hme
      clear hq
      go_wp2
      go_loopw [8, 9] (fun o i wr => ∃ (j : Nat), j ≤ k ∧ i = .int .i64 j ∧ wr.ownsRow w.heap.size 39 1 o j ((norms I gs xs j).map (.int .i8)) ∧ Below w.heap.size w wr) (fun _ i _ => k - (intOf i).toNat)
      case atStart => exact ⟨0, by omega, rfl, own_nil w w.heap.size 39, Below.refl _ _⟩
      case round =>
        obtain ⟨j, hj, rfl, hown, hbel⟩ := hrel
        by_cases hlt2 : j < k
        · obtain ⟨b, off, v, rfl, hc, hv, wv⟩ := (hx.below hbel).at_ hlt2
          obtain ⟨b2, off2, u, rfl, hc2, hu, wu⟩ := (hg.below hbel).at_ hlt2
          obtain ⟨v1, v2⟩ := wf32 wv
          obtain ⟨u1, u2⟩ := wf8 wu
          have hs := hbel.size
          have hz : ((k : Int) == 0) = false := by simp; omega
          have hnr : ∀ w, Calls Tryd.prog 27 #[.int .i64 v, .int .i64 (-8388608), .int .i64 8388607] w fun e w' => e = .returned (.int .i64 (nr v)) ∧ w = w' := fun w => ref_near v _ _ w
          have hnext : Hid (norms I gs xs j ++ [norm1 I u v] = norms I gs xs (j + 1)) := Lib.hid (by
            rw [← hu.out, ← hv.out]; exact range_snoc (fun i => norm1 I (gs.getD i 0) (xs.getD i 0)) j)
          have hyb := nr_bd v
          have hval : norm1 I u v = near (shr (nr v * I * u) 23) (-128) 127 := rfl
          have hzb := wf8 (norm1_wf I u v)
          generalize nr v = y at hnr hyb hval
          obtain ⟨p1, p2, p3, p4⟩ := norm_bd y I u hyb.1 hyb.2 j0 j1 u1 u2
          have hsh : ∀ w, Calls Tryd.prog 29 #[.int .i64 (y * I * u), .int .i64 23] w fun e w' => e = .returned (.int .i64 (shr (y * I * u) 23)) ∧ w = w' := fun w => ref_shift _ _ (by omega) (by omega) w
          have hsa : ∀ w, Calls Tryd.prog 27 #[.int .i64 (shr (y * I * u) 23), .int .i64 (-128), .int .i64 127] w fun e w' => e = .returned (.int .i64 (near (shr (y * I * u) 23) (-128) 127)) ∧ w = w' := fun w => ref_near _ _ _ w
          rw [← hval] at hsa
          generalize norm1 I u v = z at hnext hsa hval hzb
          generalize shr (y * I * u) 23 = s at hsh hsa
          generalize norms I gs xs j = cs at hown hnext
          have hinv2 : ∀ w, Calls Tryd.prog 28 #[.int .u64 (S / (k : Int))] w fun e w' => e = .returned (.int .u64 I) ∧ w = w' := by rw [← hme.out]; exact hinv
          clear hv hu hval hx hg hinv
          go_wp2_with (first
            | (go_at_call 28; (with_reducible refine (hinv2 _).mono ?_); rintro e w' ⟨rfl, rfl⟩)
            | (go_at_call 27; (with_reducible refine (hnr _).mono ?_); rintro e w' ⟨rfl, rfl⟩)
            | (go_at_call 29; (with_reducible refine (hsh _).mono ?_); rintro e w' ⟨rfl, rfl⟩)
            | (go_at_call 27; (with_reducible refine (hsa _).mono ?_); rintro e w' ⟨rfl, rfl⟩)
            | (at_builtin; refine wpList_append_own _ rfl _ _ 22 rfl w.heap.size 39 i0 (.int .i8 0) 1 1 Tryd.underlying22 hi hz0 hz1 hz2 rfl (by decide) _ _ _ rfl (hown.alloc _) ⟨wr.heap.size, 0, none⟩ 1 1 [.int .i8 z] rfl rfl (cell_one_new _ _ _) one_cell (by unfold maxLen; omega) (by omega) (by simp; omega) ?_))
          intro v' w' hown' hgrow _
          have hown2 : w'.ownsRow w.heap.size 39 1 v' (j + 1) ((cs ++ [z]).map (.int .i8)) := by rw [List.map_append]; exact hown'
          have hbel2 := (hbel.alloc hs (.cells #[.int .i8 z] 39)).grown hgrow (by simp; omega) (own_lt hown)
          rw [hnext.out] at hown2
          clear hown' hgrow hown hbel hc hc2 wv wu hs hnr hsh hsa hinv2
          go_wp2
          go_roundw
          case rel => exact ⟨j + 1, by omega, by go_num, hown2, hbel2⟩
          case measure => simp [intOf]; omega
        · obtain rfl : j = k := by omega
          obtain ⟨aS, capS, hvS, hE⟩ := own_form hown (by omega) (norms_wf I gs xs j)
          subst hvS
          clear hx hg hown hinv
          go_wp2
          go_ret
          exact ⟨⟨_, _, rfl, hE⟩, hbel⟩

end Go.Proofs.YthblniakghfchaaDoor
