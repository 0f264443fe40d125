import Derived.Test.YtoeihigdndkjeaaGreatDoorJ02
import Derived.Test.YtoeihigdndkjeaaGreatDoorJ01
import Derived.Deep.RegionHeld3
import Derived.Deep.QuietTactic
import Derived.BigQuiet
import Derived.OwnWalk
import Derived.WalkSmall
import Derived.Deep.AppendLies
/-
  Contract of the document's Norm: the same row as layer 5's, in new memory; nothing else turns.
-/
namespace Go.Proofs.YtoeihigdndkjeaaGreatDoor
open Go.RowKit
set_option linter.unusedVariables false

theorem range_snoc (f : Nat → Int) (j : Nat) : (List.range j).map f ++ [f j] = (List.range (j + 1)).map f := by rw [List.range_succ, List.map_append]; rfl
theorem info8_parts : ∃ i, Tryz.prog.info? 64 = some i ∧ i.zero = some (.int .i8 0) ∧ i.size = 1 ∧ i.bytes = 1 := by
  obtain ⟨i0, hi, hj⟩ := Option.map_eq_some_iff.1 info8
  exact ⟨i0, hi, by simpa using hj⟩
theorem info32_parts' : ∃ i, Tryz.prog.info? 21 = some i ∧ i.zero = some (.int .i32 0) ∧ i.size = 1 ∧ i.bytes = 4 := by
  obtain ⟨i0, hi, hj⟩ := Option.map_eq_some_iff.1 info_int32
  exact ⟨i0, hi, by simpa using hj⟩

theorem ref_inverse_is (m I : Int) (h0 : 0 ≤ m) (h1 : m ≤ 18446744073709551615) (hI : IsInv m I) (w : World) :
    Calls Tryz.prog 71 #[.int .u64 m] w fun e w' => e = .returned (.int .u64 I) ∧ w = w' :=
  (ref_inverse m h0 h1 w).mono (by rintro e w' ⟨⟨s, rfl, hs, _⟩, rfl⟩; exact ⟨by rw [hs.unique hI], rfl⟩)

set_option maxHeartbeats 1000000 in
theorem ref_norm (ga xa : Option Addr) (n gcap xcap : Nat) (gs xs : List Int) (I : Int) (w : World) (hg : Elems .i8 w ga n gs) (hx : Elems .i32 w xa n xs) (hn : n ≤ 1000) (hI : IsInv (msq xs) I) :
    Calls Tryz.prog 44 #[.slice ga n gcap, .slice xa n xcap] w fun e w' => (∃ a cap, e = .returned (.slice a n cap) ∧ Elems .i8 w' a n (norms I gs xs n)) ∧ Below w.heap.size w w' := by
  obtain ⟨i0, hi, hz0, hz1, hz2⟩ := info8_parts
  have HL := Lib.hid hx.1
  have hmb := msq_bd xs
  have hinv := ref_inverse_is (msq xs) I hmb.1 (by omega) hI
  obtain ⟨j0, j1⟩ := inv_bd hmb.1 hI
  have hme : Hid (msq xs = sqs xs / (n : Int)) := Lib.hid (by unfold msq; rw [HL.out])
  generalize msq xs = M at hmb hinv hI hme
  clear hmb hI
  go_enter Tryz.func44, Tryz.ntmps44
  go_wp2
  go_loop [5, 6] (fun s i => ∃ (k : Nat) (q : Int), k ≤ n ∧ i = .int .i64 k ∧ s = .int .u64 q ∧ Hid (q = sqs (xs.take k)) ∧ 0 ≤ q ∧ q ≤ k * 70368744177664) (fun _ i => n - (intOf i).toNat)
  case atStart => exact ⟨0, 0, by omega, rfl, rfl, Lib.hid (by simp [sqs]), by omega, by omega⟩
  case round =>
    obtain ⟨k, q, hk, rfl, rfl, hq, q0, q1⟩ := hrel
    by_cases hlt : k < n
    · obtain ⟨b, off, v, rfl, hc, hv, wv⟩ := hx.at_ hlt
      obtain ⟨v1, v2⟩ := wf32 wv
      have hst : Hid (q + nr v * nr v = sqs (xs.take (k + 1))) := Lib.hid (by rw [sqs_step xs k (by rw [HL.out]; exact hlt), hq.out, hv.out])
      have hb := nr_sq v
      have hnr : ∀ w, Calls Tryz.prog 70 #[.int .i64 v, .int .i64 (-8388608), .int .i64 8388607] w fun e w' => e = .returned (.int .i64 (nr v)) ∧ w = w' := fun w => ref_near v _ _ w
      generalize nr v = y at hst hb hnr
      obtain ⟨p0, p1⟩ := hb
      clear hx hg hv wv hq hinv
      go_wp2_with (go_at_call 70; (with_reducible refine (hnr _).mono ?_); rintro e w' ⟨rfl, rfl⟩)
      go_round
      case rel => exact ⟨k + 1, q + y * y, by omega, by go_num, rfl, hst, by omega, by push_cast; omega⟩
      case measure => simp [intOf]; omega
    · obtain rfl : k = n := by omega
      obtain rfl : q = sqs xs := by rw [hq.out, List.take_of_length_le (by rw [HL.out]; omega)]
      generalize sqs xs = S at q0 q1 hme
      clear hq
      go_wp2
      go_loopw [8, 9] (fun o i wr => ∃ (j : Nat), j ≤ k ∧ i = .int .i64 j ∧ wr.ownsRow w.heap.size 64 1 o j ((norms I gs xs j).map (.int .i8)) ∧ Below w.heap.size w wr) (fun _ i _ => k - (intOf i).toNat)
      case atStart => exact ⟨0, by omega, rfl, own_nil w w.heap.size 64, Below.refl _ _⟩
      case round =>
        obtain ⟨j, hj, rfl, hown, hbel⟩ := hrel
        by_cases hlt2 : j < k
        · obtain ⟨b, off, v, rfl, hc, hv, wv⟩ := (hx.below hbel).at_ hlt2
          obtain ⟨b2, off2, u, rfl, hc2, hu, wu⟩ := (hg.below hbel).at_ hlt2
          obtain ⟨v1, v2⟩ := wf32 wv
          obtain ⟨u1, u2⟩ := wf8 wu
          have hs := hbel.size
          have hz : ((k : Int) == 0) = false := by simp; omega
          have hnr : ∀ w, Calls Tryz.prog 70 #[.int .i64 v, .int .i64 (-8388608), .int .i64 8388607] w fun e w' => e = .returned (.int .i64 (nr v)) ∧ w = w' := fun w => ref_near v _ _ w
          have hnext : Hid (norms I gs xs j ++ [norm1 I u v] = norms I gs xs (j + 1)) := Lib.hid (by
            rw [← hu.out, ← hv.out]; exact range_snoc (fun i => norm1 I (gs.getD i 0) (xs.getD i 0)) j)
          have hyb := nr_bd v
          have hval : norm1 I u v = near (shr (nr v * I * u) 23) (-128) 127 := rfl
          have hzb := wf8 (norm1_wf I u v)
          generalize nr v = y at hnr hyb hval
          obtain ⟨p1, p2, p3, p4⟩ := norm_bd y I u hyb.1 hyb.2 j0 j1 u1 u2
          have hsh : ∀ w, Calls Tryz.prog 72 #[.int .i64 (y * I * u), .int .i64 23] w fun e w' => e = .returned (.int .i64 (shr (y * I * u) 23)) ∧ w = w' := fun w => ref_shift _ _ (by omega) (by omega) w
          have hsa : ∀ w, Calls Tryz.prog 70 #[.int .i64 (shr (y * I * u) 23), .int .i64 (-128), .int .i64 127] w fun e w' => e = .returned (.int .i64 (near (shr (y * I * u) 23) (-128) 127)) ∧ w = w' := fun w => ref_near _ _ _ w
          rw [← hval] at hsa
          generalize norm1 I u v = z at hnext hsa hval hzb
          generalize shr (y * I * u) 23 = s at hsh hsa
          generalize norms I gs xs j = cs at hown hnext
          have hinv2 : ∀ w, Calls Tryz.prog 71 #[.int .u64 (S / (k : Int))] w fun e w' => e = .returned (.int .u64 I) ∧ w = w' := by rw [← hme.out]; exact hinv
          clear hv hu hval hx hg hinv
          go_wp2_with (first
            | (go_at_call 71; (with_reducible refine (hinv2 _).mono ?_); rintro e w' ⟨rfl, rfl⟩)
            | (go_at_call 70; (with_reducible refine (hnr _).mono ?_); rintro e w' ⟨rfl, rfl⟩)
            | (go_at_call 72; (with_reducible refine (hsh _).mono ?_); rintro e w' ⟨rfl, rfl⟩)
            | (go_at_call 70; (with_reducible refine (hsa _).mono ?_); rintro e w' ⟨rfl, rfl⟩)
            | (at_builtin; refine wpList_append_own _ rfl _ _ 24 rfl w.heap.size 64 i0 (.int .i8 0) 1 1 Tryz.underlying24 hi hz0 hz1 hz2 rfl (by decide) _ _ _ rfl (hown.alloc _) ⟨wr.heap.size, 0, none⟩ 1 1 [.int .i8 z] rfl rfl (cell_one_new _ _ _) one_cell (by unfold maxLen; omega) (by omega) (by simp; omega) ?_))
          intro v' w' hown' hgrow _
          have hown2 : w'.ownsRow w.heap.size 64 1 v' (j + 1) ((cs ++ [z]).map (.int .i8)) := by rw [List.map_append]; exact hown'
          have hbel2 := (hbel.alloc hs (.cells #[.int .i8 z] 64)).grown hgrow (by simp; omega) (own_lt hown)
          rw [hnext.out] at hown2
          clear hown' hgrow hown hbel hc hc2 wv wu hs hnr hsh hsa hinv2
          go_wp2
          go_roundw
          case rel => exact ⟨j + 1, by omega, by go_num, hown2, hbel2⟩
          case measure => simp [intOf]; omega
        · obtain rfl : j = k := by omega
          obtain ⟨aS, capS, hvS, hE⟩ := own_form hown (by omega) (norms_wf I gs xs j)
          subst hvS
          clear hx hg hown hinv
          go_wp2
          go_ret
          exact ⟨⟨_, _, rfl, hE⟩, hbel⟩

end Go.Proofs.YtoeihigdndkjeaaGreatDoor

/-
  Contracts of the document's Mod and Wrap: each returns its numbers' sum, wrapped to 32 bits, and leaves memory as it was.
-/
namespace Go.Proofs.YtoeihigdndkjeaaGreatDoor
open Go.RowKit
set_option linter.unusedVariables false

theorem tmod_wrap (x : Int) : (x.tmod 4294967296 = x % 4294967296 ∨ x.tmod 4294967296 = x % 4294967296 - 4294967296) ∧ (0 ≤ x → x.tmod 4294967296 = x % 4294967296) ∧ (x.tmod 4294967296 = x % 4294967296 - 4294967296 → x.tmod 4294967296 < 0) ∧ (x.tmod 4294967296 = x % 4294967296 → 0 ≤ x.tmod 4294967296) := by
  rcases Int.le_total 0 x with h | h
  · have := Int.tmod_eq_emod_of_nonneg (b := 4294967296) h; omega
  · have h1 := Int.neg_tmod x 4294967296
    have h2 := Int.tmod_eq_emod_of_nonneg (a := -x) (b := 4294967296) (by omega)
    omega

theorem ref_mod (x : Int) (w : World) :
    Calls Tryz.prog 104 #[.int .i64 x] w fun e w' => e = .returned (.int .i32 (wrap32 x)) ∧ w = w' := by
  have F := Lib.hid (tmod_wrap x)
  obtain ⟨r, hr⟩ : ∃ r, x.tmod 4294967296 = r := ⟨_, rfl⟩
  rw [hr] at F
  have b : -4294967296 ≤ r ∧ r < 4294967296 := by have := F.out; omega
  by_cases c1 : r < 0
  · by_cases c2 : 2147483648 ≤ r + 4294967296
    · go_enter Tryz.func104, Tryz.ntmps104
      go_wp2
      go_ret
      exact ⟨ret_int (by have := F.out; unfold wrap32; omega), rfl⟩
    · go_enter Tryz.func104, Tryz.ntmps104
      go_wp2
      go_ret
      exact ⟨ret_int (by have := F.out; unfold wrap32; omega), rfl⟩
  · by_cases c2 : 2147483648 ≤ r
    · go_enter Tryz.func104, Tryz.ntmps104
      go_wp2
      go_ret
      exact ⟨ret_int (by have := F.out; unfold wrap32; omega), rfl⟩
    · go_enter Tryz.func104, Tryz.ntmps104
      go_wp2
      go_ret
      exact ⟨ret_int (by have := F.out; unfold wrap32; omega), rfl⟩

theorem ref_wrap (a : Option Addr) (n cap : Nat) (xs : List Int) (w : World) (h : Elems .i64 w a n xs) :
    Calls Tryz.prog 75 #[.slice a n cap] w fun e w' => e = .returned (.int .i32 (wsum xs)) ∧ w = w' := by
  have hn := h.2.1
  go_enter Tryz.func75, Tryz.ntmps75
  go_wp2
  go_loop [3, 4] (fun s i => ∃ (k : Nat) (t : Int), k ≤ n ∧ i = .int .i64 k ∧ s = .int .i64 t ∧ Hid (t = wrap32 (xs.take k).sum) ∧ -2147483648 ≤ t ∧ t ≤ 2147483647) (fun _ i => n - (intOf i).toNat)
  case atStart => exact ⟨0, 0, by omega, rfl, rfl, Lib.hid (by simp [wrap32]), by omega, by omega⟩
  case round =>
    obtain ⟨k, t, hk, rfl, rfl, ht, t1, t2⟩ := hrel
    by_cases hlt : k < n
    · obtain ⟨b, off, v, rfl, hc, hv, wv⟩ := h.at_ hlt
      have T : Hid (wrap32 (t + wrap32 v) = wrap32 (xs.take (k + 1)).sum) := Lib.hid (by rw [sum_step xs k (by rw [h.1]; exact hlt), hv.out, ht.out, wrap32_add2])
      obtain ⟨v1, v2⟩ := wrap32_bd v
      obtain ⟨T1, T2⟩ := wrap32_bd (t + wrap32 v)
      clear ht hv wv h
      go_wp2_with (go_at_call 104; refine (ref_mod _ _).mono ?_; rintro e w' ⟨rfl, rfl⟩)
      go_round
      case rel => exact ⟨k + 1, wrap32 (t + wrap32 v), by omega, by go_num, rfl, T, by omega, by omega⟩
      case measure => simp [intOf]; omega
    · have hl := h.1
      clear h
      go_wp2
      go_ret
      exact ⟨ret_int (by rw [ht.out, sum_all xs k (by omega)]; rfl), rfl⟩

end Go.Proofs.YtoeihigdndkjeaaGreatDoor

/-
  Contracts of Wrap, Sum and of the document's Mod and Wrap: for every list of numbers each returns their sum, wrapped to 32 bits, and leaves memory as it was.
-/
namespace Go.Proofs.YtoeihigdndkjeaaGreatDoor
open Go.RowKit
set_option linter.unusedVariables false

theorem sum32 (a : Option Addr) (n cap : Nat) (xs : List Int) (w : World) (h : Elems .i32 w a n xs) :
    Calls Tryz.prog 124 #[.slice a n cap] w fun e w' => e = .returned (.int .i32 (wsum xs)) ∧ w = w' := by
  have hn := h.2.1
  go_enter Tryz.func124, Tryz.ntmps124
  go_wp2
  go_loop [3, 8] (fun s i => ∃ (k : Nat) (t : Int), k ≤ n ∧ i = .int .i64 k ∧ s = .int .i32 t ∧ Hid (t = wrap32 (xs.take k).sum)) (fun _ i => n - (intOf i).toNat)
  case atStart => exact ⟨0, 0, by omega, rfl, rfl, Lib.hid (by simp [wrap32])⟩
  case round =>
    obtain ⟨k, t, hk, rfl, rfl, ht⟩ := hrel
    by_cases hlt : k < n
    · obtain ⟨b, off, v, rfl, hc, hv, wv⟩ := h.at_ hlt
      have T : Hid (wrap32 (t + v) = wrap32 (xs.take (k + 1)).sum) := Lib.hid (by rw [sum_step xs k (by rw [h.1]; exact hlt), hv.out, ht.out, wrap32_add])
      clear ht hv wv h
      go_wp2
      go_round
      case rel => exact ⟨k + 1, wrap32 (t + v), by omega, by go_num, rfl, T⟩
      case measure => simp [intOf]; omega
    · have hl := h.1
      clear h
      go_wp2
      go_ret
      exact ⟨ret_int (by rw [ht.out, sum_all xs k (by omega)]; rfl), rfl⟩


end Go.Proofs.YtoeihigdndkjeaaGreatDoor

/-
  Contracts of Gate and Join, and of the document's Join: rows in new memory; nothing else turns.
-/
namespace Go.Proofs.YtoeihigdndkjeaaGreatDoor
open Go.RowKit
set_option linter.unusedVariables false

/-- what is let through -/
def gate1 (x : Int) : Int := if 0 ≤ x then x else 0
theorem gate1_wf {x : Int} (h : (Lit.int .i8 x).wf = true) : (Lit.int .i8 (gate1 x)).wf = true := by
  have := wf8 h
  unfold gate1
  exact WalkArith.wf_i8 (by split <;> omega)

set_option maxHeartbeats 400000 in
theorem gates (a : Option Addr) (n cap : Nat) (xs : List Int) (w : World) (h : Elems .i8 w a n xs) (hn : n ≤ 16777216) :
    Calls Tryz.prog 82 #[.slice a n cap] w fun e w' => e = .returned (.slice (some ⟨w.heap.size, 0, none⟩) n n) ∧ Elems .i8 w' (some ⟨w.heap.size, 0, none⟩) n (xs.map gate1) ∧ Below w.heap.size w w' := by
  have hmk := run_make_row' (P := Tryz.prog) 24 64 (.int .i8 0) 1 Tryz.underlying24 info8 rfl .i64 .i64 n (by omega) (by omega)
  go_enter Tryz.func82, Tryz.ntmps82
  go_wp2
  go_loopw [11] (fun i wr => ∃ (k : Nat) (cs : List Int), k ≤ n ∧ i = .int .i64 k ∧ MineK .i8 wr w.heap.size 64 cs ∧ Below w.heap.size w wr ∧ Hid (FilledBy (fun i => gate1 (xs.getD i 0)) n k cs)) (fun i _ => n - (intOf i).toNat)
  case atStart => exact ⟨0, List.replicate n 0, by omega, rfl, mine_made .i8 w 64 n rfl, (Below.refl _ _).alloc (Nat.le_refl _) _, Lib.hid (filledBy_start _ n)⟩
  case round =>
    obtain ⟨k, cs, hk, rfl, hmine, hbel, hfil⟩ := hrel
    by_cases hlt : k < n
    · obtain ⟨b, off, v, rfl, hc, hv, wv⟩ := (h.below hbel).at_ hlt
      have hl := hfil.out.1
      have hold := hmine.cell (k := k) (by omega)
      have hf := hmine.frozen k
      have hst := Lib.hid (filledBy_step hfil.out hlt)
      simp only [hv.out] at hst
      have hnew := hmine.set k (gate1 v)
      have hbel' := hbel.setCell (p := ⟨w.heap.size, k, none⟩) (Nat.le_refl _) (.int .i8 (gate1 v))
      generalize cs.getD k 0 = c at hold
      by_cases h0 : v < 0
      · have e : gate1 v = 0 := by unfold gate1; rw [if_neg (by omega)]
        rw [e] at hst hnew hbel'
        clear hv hl hfil hmine hbel hmk h e wv
        go_wp2
        go_roundw
        case rel => exact ⟨k + 1, _, by omega, by go_num, hnew, hbel', hst⟩
        case measure => simp [intOf]; omega
      · have e : gate1 v = v := by unfold gate1; rw [if_pos (by omega)]
        rw [e] at hst hnew hbel'
        clear hv hl hfil hmine hbel hmk h e wv
        go_wp2
        go_roundw
        case rel => exact ⟨k + 1, _, by omega, by go_num, hnew, hbel', hst⟩
        case measure => simp [intOf]; omega
    · obtain rfl : k = n := by omega
      have he := filledBy_end (g := gate1) hfil.out h.1 (fun i _ => rfl)
      have hE := hmine.elems (n := k) hfil.out.1 (by omega) (by rw [he]; intro c hc; obtain ⟨x, hx, rfl⟩ := List.mem_map.1 hc; exact gate1_wf (h.2.2.1 x hx))
      rw [he] at hE
      have HE := Lib.hid hE
      clear he hE hmine hfil h
      go_wp2
      go_ret
      exact ⟨rfl, HE.out, hbel⟩

/-- x, and what is brought down of y -/
def scl (b s y : Int) : Int := near (shr (y * b) s) (-2147483648) 2147483647
def join1 (b s x y : Int) : Int := wrap32 (x + scl b s y)
def joinL (b s : Int) (xs ys : List Int) (n : Nat) : List Int := (List.range n).map fun i => join1 b s (xs.getD i 0) (ys.getD i 0)
theorem scl_bd (b s y : Int) : -2147483648 ≤ scl b s y ∧ scl b s y ≤ 2147483647 := near_in _ _ _ (by decide)
theorem join1_wf (b s x y : Int) : (Lit.int .i32 (join1 b s x y)).wf = true := wrap32_wf _
theorem joinL_wf (b s : Int) (xs ys : List Int) (n : Nat) : ∀ c ∈ joinL b s xs ys n, (Lit.int .i32 c).wf = true := by
  intro c hc
  obtain ⟨i, _, rfl⟩ := List.mem_map.1 hc
  exact join1_wf _ _ _ _

theorem join_no (xa ya : Option Addr) (n m xcap ycap : Nat) (b s : Int) (h : n ≠ m) (hn : n ≤ 9223372036854775807) (hm : m ≤ 9223372036854775807) (w : World) :
    Calls Tryz.prog 108 #[.slice xa n xcap, .slice ya m ycap, .int .i32 b, .int .i64 s] w fun e w' => e = .returned (.tuple #[.slice none 0 0, .int .i64 30]) ∧ w = w' := by
  have h' : ((n : Int) != (m : Int)) = true := by simp; omega
  clear h
  go_enter Tryz.func108, Tryz.ntmps108
  go_wp2
  go_ret2
  exact ⟨rfl, rfl⟩

set_option maxHeartbeats 1000000 in
theorem join_yes (xa ya : Option Addr) (n xcap ycap : Nat) (b s : Int) (xs ys : List Int) (w : World) (hx : Elems .i32 w xa n xs) (hy : Elems .i32 w ya n ys) (hn : n ≤ 16777216) (b1 : -2147483648 ≤ b) (b2 : b ≤ 2147483647) :
    Calls Tryz.prog 108 #[.slice xa n xcap, .slice ya n ycap, .int .i32 b, .int .i64 s] w fun e w' => (∃ g, e = .returned (.tuple #[.slice (some ⟨g, 0, none⟩) n n, .int .i64 0]) ∧ Elems .i32 w' (some ⟨g, 0, none⟩) n (joinL b s xs ys n)) ∧ Below w.heap.size w w' := by
  have hmk := run_make_row' (P := Tryz.prog) 36 21 (.int .i32 0) 4 Tryz.underlying36 info_int32 rfl .i64 .i64 n (by omega) (by omega)
  have hne : ((n : Int) != (n : Int)) = false := by simp
  go_enter Tryz.func108, Tryz.ntmps108
  go_wp2
  go_loopw [22] (fun i wr => ∃ (k : Nat) (cs : List Int), k ≤ n ∧ i = .int .i64 k ∧ MineK .i32 wr w.heap.size 21 cs ∧ Below w.heap.size w wr ∧ Hid (FilledBy (fun i => join1 b s (xs.getD i 0) (ys.getD i 0)) n k cs)) (fun i _ => n - (intOf i).toNat)
  case atStart => exact ⟨0, List.replicate n 0, by omega, rfl, mine_made .i32 w 21 n rfl, (Below.refl _ _).alloc (Nat.le_refl _) _, Lib.hid (filledBy_start _ n)⟩
  case round =>
    clear hne
    obtain ⟨k, cs, hk, rfl, hmine, hbel, hfil⟩ := hrel
    by_cases hlt : k < n
    · obtain ⟨bx, ox, v, rfl, hc, hv, wv⟩ := (hx.below hbel).at_ hlt
      obtain ⟨bY, oY, u, rfl, hc2, hu, wu⟩ := (hy.below hbel).at_ hlt
      obtain ⟨v1, v2⟩ := wf32 wv
      obtain ⟨u1, u2⟩ := wf32 wu
      have hsz := hbel.size
      have hl := hfil.out.1
      have hst := Lib.hid (filledBy_step hfil.out hlt)
      simp only [hv.out, hu.out] at hst
      have hz := scl_bd b s u
      have hsc : ∀ w, Calls Tryz.prog 125 #[.int .i32 u, .int .i32 b, .int .i64 s] w fun e w' => e = .returned (.int .i32 (scl b s u)) ∧ w = w' := fun w => scale u b s u1 u2 b1 b2 w
      have hval : join1 b s v u = wsum [v, scl b s u] := by unfold join1 wsum; simp
      generalize scl b s u = z at hsc hz hval
      have hsu : ∀ (W : World) (g : Nat), W.cell? ⟨g, 0, none⟩ = some (.int .i32 v) → W.cell? ⟨g, 1, none⟩ = some (.int .i32 z) → Calls Tryz.prog 124 #[.slice (some ⟨g, 0, none⟩) 2 2] W fun e w' => e = .returned (.int .i32 (wsum [v, z])) ∧ W = w' := fun W g h0 h1 =>
        sum32 (some ⟨g, 0, none⟩) 2 2 [v, z] W (pair_elems h0 h1 wv (WalkArith.wf_i32 ⟨by omega, by omega⟩))
      rw [← hval] at hsu
      generalize join1 b s v u = y at hst hsu hval
      have hmA := hmine.alloc (.cells #[.int .i32 v, .int .i32 z] 21)
      have hold := hmA.cell (k := k) (by omega)
      have hf := hmA.frozen k
      have hnew := (hmine.set k y).alloc (.cells #[.int .i32 v, .int .i32 z] 21)
      have hbS := hbel.setCell (p := ⟨w.heap.size, k, none⟩) (Nat.le_refl _) (.int .i32 y)
      have hbel' := (hbS.alloc hbS.size (.cells #[.int .i32 v, .int .i32 z] 21)).drew
      have hbx : bx < w.heap.size := hx.blk _ rfl (by omega)
      have hby : bY < w.heap.size := hy.blk _ rfl (by omega)
      have hk1 : ((wr.setCell ⟨w.heap.size, k, none⟩ (.int .i32 y)).alloc (.cells #[.int .i32 v, .int .i32 z] 21)).drew.cell? ⟨bx, ox + k, none⟩ = some (.int .i32 v) :=
        cell_alloc ((World.cell?_setCell_other wr ⟨w.heap.size, k, none⟩ ⟨bx, ox + k, none⟩ _ (by first | (simp; done) | (simp; omega))).trans hc) _
      have hk2 : ((wr.setCell ⟨w.heap.size, k, none⟩ (.int .i32 y)).alloc (.cells #[.int .i32 v, .int .i32 z] 21)).drew.cell? ⟨bY, oY + k, none⟩ = some (.int .i32 u) :=
        cell_alloc ((World.cell?_setCell_other wr ⟨w.heap.size, k, none⟩ ⟨bY, oY + k, none⟩ _ (by first | (simp; done) | (simp; omega))).trans hc2) _
      have hlt0 := hmine.lt
      generalize cs.getD k 0 = c at hold
      clear hv hu hl hfil hval hmine hbel hmk hbS hbx hby
      go_wp2_with fail
      go_region_held3 (fun w' => w'.cell? ⟨bx, ox + k, none⟩ = some (.int .i32 v) ∧ w'.cell? ⟨bY, oY + k, none⟩ = some (.int .i32 u))
        (first | go_keep | (go_split_ands; refine ⟨?_, ?_⟩ <;> assumption))
        (first
          | (go_at_call 125; (with_reducible refine (hsc _).mono ?_); rintro e w' ⟨rfl, rfl⟩)
          | (go_at_call 124; (refine (hsu _ _ (by simp) (by simp)).mono ?_); rintro e w' ⟨rfl, rfl⟩))
      clear hsc hsu hk1 hk2 hold hf
      go_wp2
      go_roundw
      case rel => exact ⟨k + 1, _, by omega, by go_num, hnew, hbel', hst⟩
      case measure => simp [intOf]; omega
    · obtain rfl : k = n := by omega
      have he := filledBy_range hfil.out
      have hE := hmine.elems (n := k) hfil.out.1 (by omega) (by rw [he]; exact joinL_wf b s xs ys k)
      rw [he] at hE
      have HE := Lib.hid (show Elems .i32 wr (some ⟨w.heap.size, 0, none⟩) k (joinL b s xs ys k) from hE)
      clear he hE hmine hfil hx hy
      go_wp2
      go_ret2
      exact ⟨⟨_, rfl, HE.out⟩, hbel⟩

end Go.Proofs.YtoeihigdndkjeaaGreatDoor

/-
  Sines and cosines, as plain mathematics: the table of a quarter of a turn, sines between its places, their sizes, what a turn more and the other way make of them; angles.
-/
namespace Go.Proofs.YtoeihigdndkjeaaGreatDoor
open Go.RowKit
set_option linter.unusedVariables false

/-- the table's numbers: the sines of a quarter of a turn -/
def stab : List Int := [0, 804, 1606, 2404, 3196, 3981, 4756, 5520, 6270, 7005, 7723, 8423, 9102, 9760, 10394, 11003, 11585, 12140, 12665, 13160, 13623, 14053, 14449, 14811, 15137, 15426, 15679, 15893, 16069, 16207, 16305, 16364, 16384]

theorem stab_bd : ∀ i, i < 33 → 0 ≤ stab.getD i 0 ∧ stab.getD i 0 ≤ 16384 := by decide
theorem stab_rises : ∀ i, i < 32 → 1 ≤ stab.getD (i + 1) 0 - stab.getD i 0 ∧ stab.getD (i + 1) 0 - stab.getD i 0 ≤ 804 := by decide

theorem shr_nine (x : Int) : shr x 9 = half x 512 := by
  have h : near 9 0 62 = 9 := by decide
  unfold shr; rw [h]; rfl
theorem half_bd6 (x P : Int) : x / P ≤ half x P ∧ half x P ≤ x / P + 1 := by unfold half; split <;> omega

/-- what is laid upon a sine of the table: from 0 to the step -/
theorem add_bd (D r : Int) (hD : 1 ≤ D) (h0 : 0 ≤ r) (h1 : r < 512) : 0 ≤ D * r ∧ D * r ≤ D * 511 ∧ 0 ≤ half (D * r) 512 ∧ half (D * r) 512 ≤ D := by
  have h2 : 0 ≤ D * r := Int.mul_nonneg (by omega) h0
  have h3 : D * r ≤ D * 511 := Int.mul_le_mul_of_nonneg_left (by omega) (by omega)
  have h4 := half_bd6 (D * r) 512
  omega

/-- the sine of a step of the first quarter -/
def rise (s : Int) : Int := stab.getD (s / 512).toNat 0 + half ((stab.getD ((s / 512).toNat + 1) 0 - stab.getD (s / 512).toNat 0) * (s % 512)) 512

theorem rise_at (i : Nat) (s : Int) (h : s = 512 * i) : rise s = stab.getD i 0 := by
  subst h
  have e1 : ((512 * (i : Int)) / 512).toNat = i := by omega
  have e2 : (512 * (i : Int)) % 512 = 0 := by omega
  unfold rise
  rw [e1, e2, Int.mul_zero]
  have : half 0 512 = 0 := by decide
  omega

theorem rise_bd (s : Int) (h0 : 0 ≤ s) (h1 : s ≤ 16384) : 0 ≤ rise s ∧ rise s ≤ 16384 := by
  by_cases h2 : s = 16384
  · rw [rise_at 32 s (by omega)]; exact stab_bd 32 (by omega)
  · have hi : (s / 512).toNat < 32 := by omega
    have a := stab_bd (s / 512).toNat (by omega)
    have b := stab_bd ((s / 512).toNat + 1) (by omega)
    have c := stab_rises (s / 512).toNat hi
    have d := add_bd (stab.getD ((s / 512).toNat + 1) 0 - stab.getD (s / 512).toNat 0) (s % 512) c.1 (by omega) (by omega)
    unfold rise
    omega

/-- the step of the first quarter at which the sine is looked up -/
def fold4 (a : Int) : Int := if a / 16384 % 2 = 1 then 16384 - a % 16384 else a % 16384
/-- the sine -/
def sine (a : Int) : Int := if 2 ≤ a / 16384 % 4 then -rise (fold4 a) else rise (fold4 a)
/-- the cosine -/
def cosi (a : Int) : Int := sine (a + 16384)

theorem fold4_bd (a : Int) : 0 ≤ fold4 a ∧ fold4 a ≤ 16384 := by unfold fold4; split <;> omega
theorem sine_bd (a : Int) : -16384 ≤ sine a ∧ sine a ≤ 16384 := by
  have h := fold4_bd a
  have h2 := rise_bd (fold4 a) h.1 h.2
  unfold sine; split <;> omega
theorem cosi_bd (a : Int) : -16384 ≤ cosi a ∧ cosi a ≤ 16384 := sine_bd _

theorem fold4_congr {a b : Int} (h : a % 65536 = b % 65536) : fold4 a = fold4 b := by
  have h1 : a / 16384 % 2 = b / 16384 % 2 := by omega
  have h2 : a % 16384 = b % 16384 := by omega
  unfold fold4; rw [h1, h2]
/-- whole turns more or less change nothing -/
theorem sine_congr {a b : Int} (h : a % 65536 = b % 65536) : sine a = sine b := by
  have h1 : a / 16384 % 4 = b / 16384 % 4 := by omega
  unfold sine; rw [h1, fold4_congr h]
theorem cosi_congr {a b : Int} (h : a % 65536 = b % 65536) : cosi a = cosi b := sine_congr (by omega)
theorem sine_wrap (x : Int) : sine (wrap64 x) = sine x := sine_congr (by unfold wrap64; omega)

theorem rise_zero : rise 0 = 0 := rise_at 0 0 rfl
/-- the other way it is the other way -/
theorem sine_neg (a : Int) : sine (-a) = -sine a := by
  have hf : fold4 (-a) = fold4 a := by unfold fold4; split <;> split <;> omega
  by_cases h0 : a % 16384 = 0 ∧ a / 16384 % 2 = 0
  · have e : fold4 a = 0 := by unfold fold4; split <;> omega
    unfold sine; rw [hf, e, rise_zero]; split <;> split <;> rfl
  · unfold sine; rw [hf]; split <;> split <;> omega
theorem sine_half (a : Int) : sine (a + 32768) = -sine a := by
  have hf : fold4 (a + 32768) = fold4 a := by unfold fold4; split <;> split <;> omega
  unfold sine; rw [hf]; split <;> split <;> omega
theorem cosi_neg (a : Int) : cosi (-a) = cosi a := by
  unfold cosi
  have h1 : -a + 16384 = -(a - 16384) := by omega
  rw [h1, sine_neg]
  have h2 := sine_half (a - 16384)
  rw [show a - 16384 + 32768 = a + 16384 by omega] at h2
  omega

theorem sine_zero : sine 0 = 0 := by decide +kernel
theorem cosi_zero : cosi 0 = 16384 := by decide +kernel

/-! ### angles -/

/-- the angle of a pair at a place -/
def ang (place pair : Int) : Int := if place < 0 ∨ 1048576 < place ∨ pair < 0 then 0 else place * (8192 / 2 ^ pair.toNat) % 65536

theorem step_bd (k : Nat) : (0 : Int) ≤ 8192 / 2 ^ k ∧ (8192 : Int) / 2 ^ k ≤ 8192 := by
  have h : (1 : Int) ≤ 2 ^ k := Int.pow_pos (by decide)
  exact ⟨Int.ediv_nonneg (by decide) (by omega), Int.ediv_le_self _ (by decide)⟩
theorem step_next (k : Nat) : (8192 : Int) / 2 ^ (k + 1) = 8192 / 2 ^ k / 2 := by
  rw [Int.pow_succ, Int.ediv_ediv_of_nonneg (by have : (1 : Int) ≤ 2 ^ k := Int.pow_pos (by decide); omega)]
theorem step_gone {j k : Nat} (h : (8192 : Int) / 2 ^ j = 0) (hj : j ≤ k) : (8192 : Int) / 2 ^ k = 0 := by
  obtain ⟨m, rfl⟩ : ∃ m, k = j + m := ⟨k - j, by omega⟩
  rw [Int.pow_add, ← Int.ediv_ediv_of_nonneg (by have : (1 : Int) ≤ 2 ^ j := Int.pow_pos (by decide); omega), h, Int.zero_ediv]
theorem step_min (k : Nat) : (8192 : Int) / 2 ^ min k 64 = 8192 / 2 ^ k := by
  by_cases h : k ≤ 64
  · rw [Nat.min_eq_left h]
  · have e : (8192 : Int) / 2 ^ 64 = 0 := by decide
    rw [Nat.min_eq_right (by omega), e, step_gone e (by omega)]
theorem ang_bd (place pair : Int) : 0 ≤ ang place pair ∧ ang place pair < 65536 := by unfold ang; split <;> omega
theorem ang_at {place pair : Int} (h0 : 0 ≤ place) (h1 : place ≤ 1048576) (h2 : 0 ≤ pair) : ang place pair = place * (8192 / 2 ^ pair.toNat) % 65536 := by unfold ang; rw [if_neg (by omega)]
theorem ang_no {place pair : Int} (h : place < 0 ∨ 1048576 < place ∨ pair < 0) : ang place pair = 0 := by unfold ang; rw [if_pos h]
theorem ang_zero (pair : Int) : ang 0 pair = 0 := by unfold ang; split <;> simp
/-- angles add up, place by place -/
theorem ang_add {a b k : Int} (ha : 0 ≤ a) (hb : 0 ≤ b) (h : a + b ≤ 1048576) (hk : 0 ≤ k) : (ang a k + ang b k) % 65536 = ang (a + b) k := by
  rw [ang_at ha (by omega) hk, ang_at hb (by omega) hk, ang_at (by omega) h hk, Int.add_mul]
  omega

end Go.Proofs.YtoeihigdndkjeaaGreatDoor

/-
  Contracts of rising, Sin, Cos and Angle: in a world whose table holds the document's numbers each returns what the document says, for every argument of its type, and makes no memory.
-/
namespace Go.Proofs.YtoeihigdndkjeaaGreatDoor
open Go.RowKit
set_option linter.unusedVariables false

/-- the program's table of sines holds the document's numbers -/
def STab (w : World) : Prop := ∀ i, i < 33 → w.cell? ⟨0, i, none⟩ = some (.int .i32 (stab.getD i 0))
theorem STab.below {w w' : World} (h : STab w) (hb : Below w.heap.size w w') : STab w' := fun i hi => (hb.cell (p := ⟨0, i, none⟩) (World.block_lt_of_cell? _ _ (h i hi))).trans (h i hi)
theorem STab.drewN {w : World} (h : STab w) (d : Nat) : STab (w.drewN d) := h

theorem rising (s : Int) (h0 : 0 ≤ s) (h1 : s ≤ 16384) (w : World) (hT : STab w) :
    Calls Tryz.prog 142 #[.int .i64 s] w fun e w' => e = .returned (.int .i32 (rise s)) ∧ ∃ d, w' = w.drewN d := by
  obtain ⟨i, hi⟩ : ∃ i : Nat, s / 512 = (i : Int) := ⟨(s / 512).toNat, by omega⟩
  have hm : bits .and .i64 s 511 = s % 512 := by have := and_mask s 9 (by decide); simpa using this
  have ha := hT i (by omega)
  by_cases c0 : s % 512 = 0
  · have hr := rise_at i s (by omega)
    rw [hr]
    rw [c0] at hm
    generalize stab.getD i 0 = p at ha
    have hi' : s / 512 = (i : Int) := hi
    have i33 : (i : Int) < 33 := by omega
    clear hr hT
    go_enter Tryz.func142, Tryz.ntmps142
    go_wp2
    go_ret
    exact ⟨rfl, 0, rfl⟩
  · have hi2 : i < 32 := by omega
    have hb := hT (i + 1) (by omega)
    have a1 := stab_bd i (by omega)
    have a3 := stab_bd (i + 1) (by omega)
    have a2 := stab_rises i hi2
    have hr : rise s = stab.getD i 0 + half ((stab.getD (i + 1) 0 - stab.getD i 0) * (s % 512)) 512 := by unfold rise; rw [hi]; rfl
    rw [hr]
    clear hr hT
    generalize stab.getD i 0 = p at ha a1 a2 ⊢
    generalize stab.getD (i + 1) 0 = q at hb a2 a3 ⊢
    obtain ⟨r, hr⟩ : ∃ r, s % 512 = r := ⟨_, rfl⟩
    have r0 : 0 ≤ r ∧ r < 512 := by omega
    have r1 : (r == 0) = false := by simp; omega
    rw [hr] at hm ⊢
    obtain ⟨m0, m1, m2, m3⟩ := add_bd (q - p) r a2.1 r0.1 r0.2
    have hs : ∀ w, Calls Tryz.prog 94 #[.int .i64 ((q - p) * r), .int .i64 9] w fun e w' => e = .returned (.int .i64 (half ((q - p) * r) 512)) ∧ w' = w := fun w => (by
      rw [← shr_nine]; exact (shift _ _ (by omega) (by omega) w).mono (fun e w' h => ⟨h.1, h.2.symm⟩))
    generalize hu : (q - p) * r = u at hs m0 m1 m2 m3
    generalize hv : half u 512 = v at hs m2 m3
    have e0 : IntKind.i32.wrap (q - p) = q - p := IntWalk.i32_in _ (by omega)
    have e1 : IntKind.i64.wrap (q - p) = q - p := IntWalk.i64_in _ (by omega)
    have e2 : IntKind.i64.wrap u = u := IntWalk.i64_in _ (by omega)
    have e3 : IntKind.i32.wrap v = v := IntWalk.i32_in _ (by omega)
    have e4 : IntKind.i32.wrap (p + v) = p + v := IntWalk.i32_in _ (by omega)
    have e5 : IntKind.i64.wrap ((i : Int) + 1) = (i : Int) + 1 := IntWalk.i64_in _ (by omega)
    have hi' : s / 512 = (i : Int) := hi
    have i33 : (i : Int) + 1 < 33 := by omega
    clear hr hv
    go_enter Tryz.func142, Tryz.ntmps142
    go_wp2
    go_quiet (first | (go_at_call 94; refine Calls.quiet_of_same (hs _)))
    go_wp2
    go_ret
    exact ⟨rfl, _, rfl⟩

theorem sin_any (a : Int) (h1 : -9223372036854775808 ≤ a) (h2 : a ≤ 9223372036854775807) (w : World) (hT : STab w) :
    Calls Tryz.prog 139 #[.int .i64 a] w fun e w' => e = .returned (.int .i32 (sine a)) ∧ ∃ d, w' = w.drewN d := by
  have hm1 : bits .and .i64 (a / 16384) 3 = a / 16384 % 4 := by have := and_mask (a / 16384) 2 (by decide); simpa using this
  have hm2 : bits .and .i64 a 16383 = a % 16384 := by have := and_mask a 14 (by decide); simpa using this
  have hm3 := and_one (a / 16384 % 4)
  have hf := fold4_bd a
  have hr := rising (fold4 a) hf.1 hf.2 w hT
  have hb := rise_bd (fold4 a) hf.1 hf.2
  have q0 : 0 ≤ a / 16384 % 4 ∧ a / 16384 % 4 < 4 := by omega
  have f0 : 0 ≤ a % 16384 ∧ a % 16384 < 16384 := by omega
  have hq2 : a / 16384 % 4 % 2 = a / 16384 % 2 := by omega
  by_cases c0 : a / 16384 % 2 = 1
  · have hfo : fold4 a = 16384 - a % 16384 := by unfold fold4; rw [if_pos c0]
    rw [c0] at hq2
    rw [hq2] at hm3
    by_cases c1 : 2 ≤ a / 16384 % 4
    · have hsn : sine a = -rise (fold4 a) := by unfold sine; rw [if_pos c1]
      rw [hsn]
      rw [hfo] at hr hb ⊢
      generalize a / 16384 % 4 = q at hm1 hm3 q0 c1
      generalize a % 16384 = f at hm2 hr hb f0 ⊢
      generalize rise (16384 - f) = v at hr hb ⊢
      clear hfo hsn hq2 hf c0 hT
      go_enter Tryz.func139, Tryz.ntmps139
      go_wp2_with fail
      refine hr.mono ?_
      rintro e w' ⟨rfl, d, rfl⟩
      go_wp2
      go_ret
      exact ⟨rfl, _, rfl⟩
    · have hsn : sine a = rise (fold4 a) := by unfold sine; rw [if_neg c1]
      rw [hsn]
      rw [hfo] at hr hb ⊢
      have c1' : ¬ 2 ≤ a / 16384 % 4 := c1
      generalize a / 16384 % 4 = q at hm1 hm3 q0 c1 c1'
      generalize a % 16384 = f at hm2 hr hb f0 ⊢
      generalize rise (16384 - f) = v at hr hb ⊢
      clear hfo hsn hq2 hf c0 hT
      go_enter Tryz.func139, Tryz.ntmps139
      go_wp2_with fail
      refine hr.mono ?_
      rintro e w' ⟨rfl, d, rfl⟩
      go_wp2
      go_ret
      exact ⟨rfl, _, rfl⟩
  · have hfo : fold4 a = a % 16384 := by unfold fold4; rw [if_neg c0]
    have hq3 : a / 16384 % 2 = 0 := by omega
    rw [hq3] at hq2
    rw [hq2] at hm3
    by_cases c1 : 2 ≤ a / 16384 % 4
    · have hsn : sine a = -rise (fold4 a) := by unfold sine; rw [if_pos c1]
      rw [hsn]
      rw [hfo] at hr hb ⊢
      generalize a / 16384 % 4 = q at hm1 hm3 q0 c1
      generalize a % 16384 = f at hm2 hr hb f0 ⊢
      generalize rise f = v at hr hb ⊢
      clear hfo hsn hq2 hq3 hf c0 hT
      go_enter Tryz.func139, Tryz.ntmps139
      go_wp2_with fail
      refine hr.mono ?_
      rintro e w' ⟨rfl, d, rfl⟩
      go_wp2
      go_ret
      exact ⟨rfl, _, rfl⟩
    · have hsn : sine a = rise (fold4 a) := by unfold sine; rw [if_neg c1]
      rw [hsn]
      rw [hfo] at hr hb ⊢
      have c1' : ¬ 2 ≤ a / 16384 % 4 := c1
      generalize a / 16384 % 4 = q at hm1 hm3 q0 c1 c1'
      generalize a % 16384 = f at hm2 hr hb f0 ⊢
      generalize rise f = v at hr hb ⊢
      clear hfo hsn hq2 hq3 hf c0 hT
      go_enter Tryz.func139, Tryz.ntmps139
      go_wp2_with fail
      refine hr.mono ?_
      rintro e w' ⟨rfl, d, rfl⟩
      go_wp2
      go_ret
      exact ⟨rfl, _, rfl⟩

theorem cos_any (a : Int) (w : World) (hT : STab w) :
    Calls Tryz.prog 138 #[.int .i64 a] w fun e w' => e = .returned (.int .i32 (cosi a)) ∧ ∃ d, w' = w.drewN d := by
  have hb := wrap64_bd (a + 16384)
  have hs := sin_any (wrap64 (a + 16384)) hb.1 hb.2 w hT
  rw [sine_wrap] at hs
  have hc : sine (a + 16384) = cosi a := rfl
  rw [hc] at hs
  generalize cosi a = c at hs ⊢
  clear hb hc
  go_enter Tryz.func138, Tryz.ntmps138
  go_wp2_with fail
  refine hs.mono ?_
  rintro e w' ⟨rfl, d, rfl⟩
  go_wp2
  go_ret
  exact ⟨rfl, _, rfl⟩

theorem angle_any (place pair : Int) (h1 : -9223372036854775808 ≤ pair) (h2 : pair ≤ 9223372036854775807) (w : World) :
    Calls Tryz.prog 137 #[.int .i64 place, .int .i64 pair] w fun e w' => e = .returned (.int .i64 (ang place pair)) ∧ w = w' := by
  by_cases c0 : place < 0
  · rw [ang_no (.inl c0)]
    go_enter Tryz.func137, Tryz.ntmps137
    go_wp2
    go_ret
    exact ⟨rfl, rfl⟩
  · by_cases c1 : 1048576 < place
    · rw [ang_no (.inr (.inl c1))]
      go_enter Tryz.func137, Tryz.ntmps137
      go_wp2
      go_ret
      exact ⟨rfl, rfl⟩
    · by_cases c2 : pair < 0
      · rw [ang_no (.inr (.inr c2))]
        go_enter Tryz.func137, Tryz.ntmps137
        go_wp2
        go_ret
        exact ⟨rfl, rfl⟩
      · rw [ang_at (by omega) (by omega) (by omega), ← step_min]
        have hs := step_bd (min pair.toNat 64)
        have p0 : 0 ≤ place ∧ place ≤ 1048576 := by omega
        have hp : 0 ≤ place * (8192 / 2 ^ min pair.toNat 64) ∧ place * (8192 / 2 ^ min pair.toNat 64) ≤ 1048576 * 8192 := ⟨Int.mul_nonneg p0.1 hs.1, Int.mul_le_mul p0.2 hs.2 hs.1 (by decide)⟩
        have hm : bits .and .i64 (place * (8192 / 2 ^ min pair.toNat 64)) 65535 = place * (8192 / 2 ^ min pair.toNat 64) % 65536 := by have := and_mask (place * (8192 / 2 ^ min pair.toNat 64)) 16 (by decide); simpa using this
        go_enter Tryz.func137, Tryz.ntmps137
        go_wp2
        go_ret
        exact ⟨rfl, rfl⟩

end Go.Proofs.YtoeihigdndkjeaaGreatDoor

/-
  Contracts of row, down and turned: the cosine and the sine of a pair's angle; a pair of numbers, turned by a row; what was in memory stays.
-/
namespace Go.Proofs.YtoeihigdndkjeaaGreatDoor
open Go.RowKit
set_option linter.unusedVariables false

theorem row_any (place pair : Int) (h1 : -9223372036854775808 ≤ pair) (h2 : pair ≤ 9223372036854775807) (w : World) (hT : STab w) :
    Calls Tryz.prog 127 #[.int .i64 place, .int .i64 pair] w fun e w' => e = .returned (.agg #[.int .i32 (cosi (ang place pair)), .int .i32 (sine (ang place pair))]) ∧ Below w.heap.size w w' := by
  have ha := angle_any place pair h1 h2
  have hb := ang_bd place pair
  generalize ang place pair = x at ha hb ⊢
  have hc := cos_any x
  have hs := sin_any x (by omega) (by omega)
  have c0 := cosi_bd x
  have s0 := sine_bd x
  generalize cosi x = c at hc c0 ⊢
  generalize sine x = s at hs s0 ⊢
  have hT1 := hT.below ((Below.refl _ _).alloc (Nat.le_refl _) (.cells #[.int .i32 0, .int .i32 0] 195))
  have B0 := (Below.refl w.heap.size w).alloc (Nat.le_refl _) (.cells #[.int .i32 0, .int .i32 0] 195)
  clear hT
  go_enter Tryz.func127, Tryz.ntmps127
  go_wp2_with fail
  refine (ha _).mono ?_
  rintro e w' ⟨rfl, rfl⟩
  go_wp2_with fail
  refine (hc _ hT1).mono ?_
  rintro e w' ⟨rfl, d, rfl⟩
  go_wp2_with fail
  refine (hs _ (hT1.drewN d)).mono ?_
  rintro e w' ⟨rfl, d2, rfl⟩
  go_wp2
  exact bodyPost_ret (v := .agg #[.int .i32 c, .int .i32 s]) (by simp [results, Tryz.results127, go_sem]) rfl ⟨rfl, ((below_drewN B0 _).setCell (p := ⟨w.heap.size, 0, none⟩) (Nat.le_refl _) _).setCell (p := ⟨w.heap.size, 1, none⟩) (Nat.le_refl _) _⟩

theorem down_any (x : Int) (h1 : -2147483648 ≤ x) (h2 : x ≤ 2147483647) (w : World) :
    Calls Tryz.prog 136 #[.int .i32 x] w fun e w' => e = .returned (.int .i8 (near (shr x 14) (-128) 127)) ∧ w = w' := by
  have hs := shift x 14 (by omega) (by omega)
  have h8 := sat8 (shr x 14)
  generalize shr x 14 = y at hs h8 ⊢
  go_enter Tryz.func136, Tryz.ntmps136
  go_wp2_with fail
  refine (hs _).mono ?_
  rintro e w' ⟨rfl, rfl⟩
  go_wp2_with fail
  refine (h8 _).mono ?_
  rintro e w' ⟨rfl, rfl⟩
  go_wp2
  go_ret
  exact ⟨rfl, rfl⟩

/-- the first and the second number of a pair, turned -/
def tx (c s x y : Int) : Int := near (shr (x * c - y * s) 14) (-128) 127
def ty (c s x y : Int) : Int := near (shr (x * s + y * c) 14) (-128) 127
theorem tx_wf (c s x y : Int) : (Lit.int .i8 (tx c s x y)).wf = true := WalkArith.wf_i8 (near_in _ _ _ (by decide))
theorem ty_wf (c s x y : Int) : (Lit.int .i8 (ty c s x y)).wf = true := WalkArith.wf_i8 (near_in _ _ _ (by decide))
theorem mul_bd6 (x c : Int) (x1 : -128 ≤ x) (x2 : x ≤ 127) (c1 : -16384 ≤ c) (c2 : c ≤ 16384) : -2097152 ≤ x * c ∧ x * c ≤ 2097152 := by
  have h : (x * c).natAbs ≤ 128 * 16384 := by rw [Int.natAbs_mul]; exact Nat.mul_le_mul (by omega) (by omega)
  omega

theorem turned_any (c s x y : Int) (c1 : -16384 ≤ c) (c2 : c ≤ 16384) (s1 : -16384 ≤ s) (s2 : s ≤ 16384) (x1 : -128 ≤ x) (x2 : x ≤ 127) (y1 : -128 ≤ y) (y2 : y ≤ 127) (w : World) :
    Calls Tryz.prog 126 #[.agg #[.int .i32 c, .int .i32 s], .int .i8 x, .int .i8 y] w fun e w' => e = .returned (.tuple #[.int .i8 (tx c s x y), .int .i8 (ty c s x y)]) ∧ Below w.heap.size w w' := by
  have B0 := (Below.refl w.heap.size w).alloc (Nat.le_refl _) (.cells #[.int .i32 c, .int .i32 s] 195)
  have m1 := mul_bd6 x c x1 x2 c1 c2
  have m2 := mul_bd6 y s y1 y2 s1 s2
  have m3 := mul_bd6 x s x1 x2 s1 s2
  have m4 := mul_bd6 y c y1 y2 c1 c2
  have d1 := down_any (x * c - y * s) (by omega) (by omega)
  have d2 := down_any (x * s + y * c) (by omega) (by omega)
  have e1 : tx c s x y = near (shr (x * c - y * s) 14) (-128) 127 := rfl
  have e2 : ty c s x y = near (shr (x * s + y * c) 14) (-128) 127 := rfl
  rw [← e1] at d1
  rw [← e2] at d2
  generalize tx c s x y = u at d1 ⊢
  generalize ty c s x y = v at d2 ⊢
  clear e1 e2
  go_enter Tryz.func126, Tryz.ntmps126
  go_wp2
  go_quiet (fail)
  go_wp2_with fail
  refine (d1 _).mono ?_
  rintro e w' ⟨rfl, rfl⟩
  go_wp2_with fail
  refine (d2 _).mono ?_
  rintro e w' ⟨rfl, rfl⟩
  go_wp2
  go_ret2
  exact ⟨rfl, below_drewN B0 _⟩

end Go.Proofs.YtoeihigdndkjeaaGreatDoor

/-
  Contracts of within, Right and handy, of any slice of sides or of grids, and of the document's Right and Fit.
-/
namespace Go.Proofs.YtoeihigdndkjeaaGreatDoor
open Go.RowKit
set_option linter.unusedVariables false


/-- are all of them right? -/
def rightAll (gs : List Gr) : Bool := gs.all fun g => rightB g.r g.c g.n

theorem all_step {α : Type} [Inhabited α] (p : α → Bool) (gs : List α) (k : Nat) (hk : k < gs.length) (g : α) (hg : gs.getD k default = g) (ht : (gs.take k).all p = true) :
    (gs.take (k + 1)).all p = p g ∧ (p g = false → gs.all p = false) := by
  have h1 : (gs.take (k + 1)).all p = p g := by
    rw [List.take_add_one, List.all_append, ht, Bool.true_and, ← hg]
    simp [List.getD, List.getElem?_eq_getElem hk]
  refine ⟨h1, fun e => ?_⟩
  rw [e] at h1
  rw [← Bool.not_eq_true] at h1 ⊢
  intro h3
  apply h1
  rw [List.all_eq_true] at h3 ⊢
  exact fun x hx => h3 x (List.mem_of_mem_take hx)

theorem two_elems {w : World} {T : TypeId} {b : Nat} {p q : Int} (hb : b = w.heap.size) (hp : -9223372036854775808 ≤ p ∧ p ≤ 9223372036854775807) (hq : -9223372036854775808 ≤ q ∧ q ≤ 9223372036854775807) :
    Elems .i64 (w.alloc (.cells #[.int .i64 p, .int .i64 q] T)) (some ⟨b, 0, none⟩) 2 [p, q] := by
  subst hb
  exact pair_elems (by simp) (by simp) (WalkArith.wf_i64 hp) (WalkArith.wf_i64 hq)
theorem two_sides (p q : Int) : [p, q].all sideB = (sideB p && sideB q) := by simp



/-- are all of them right, and not too large? -/
def fitAll (gs : List Gr) : Bool := gs.all fun g => fitB g.r g.c g.n



/-! ### the document's -/




end Go.Proofs.YtoeihigdndkjeaaGreatDoor

/-
  Contracts of line (a row of a right grid, where it lies), inside, and the document's Cell.
-/
namespace Go.Proofs.YtoeihigdndkjeaaGreatDoor
open Go.RowKit
set_option linter.unusedVariables false

/-- where row i of a grid of C columns at a lies -/
theorem rowOf_elems {w : World} {b off R C i : Nat} {xs : List Int} (h : Elems .i32 w (some ⟨b, off, none⟩) (R * C) xs) (hi : i < R) : Elems .i32 w (some ⟨b, off + i * C, none⟩) C (rowOf xs C i) := by
  have hl := row_le (C := C) hi
  have := (h.drop (i * C) (by omega)).take C (by omega)
  exact this






end Go.Proofs.YtoeihigdndkjeaaGreatDoor

/-
  Steps of sums: one group more; one number more of a list that is turned.
-/
namespace Go.Proofs.YtoeihigdndkjeaaGreatDoor
open Go.RowKit
set_option linter.unusedVariables false

/-- one group more -/
theorem groups_step {ss xs : List Int} {k : Nat} (h : wrap32 ss.sum = wrap32 (xs.take k).sum) (hw : ∀ s ∈ ss, (Lit.int .i32 s).wf = true) (m : Nat) :
    wrap32 (ss ++ [wsum ((xs.drop k).take m)]).sum = wrap32 (xs.take (k + m)).sum ∧ ∀ s ∈ ss ++ [wsum ((xs.drop k).take m)], (Lit.int .i32 s).wf = true := by
  refine ⟨?_, ?_⟩
  · rw [sum_cut, List.sum_append, ← wrap32_add, h, wrap32_add]
    simp only [List.sum_cons, List.sum_nil, Int.add_zero, wsum]
    rw [Int.add_comm, wrap32_add, Int.add_comm]
  · intro s hs
    rcases List.mem_append.1 hs with h1 | h1
    · exact hw s h1
    · simp only [List.mem_singleton] at h1; subst h1; exact wsum_wf _

/-- one number more of a list that is turned by kk places and read from its end -/
theorem turn_step {os xs : List Int} {n kk j p : Nat} {u : Int} (h : os.sum = ((xs.drop kk ++ xs.take kk).drop j).sum) (hw : ∀ s ∈ os, (Lit.int .i32 s).wf = true) (hl : xs.length = n) (hk : kk < n) (hj : 0 < j) (hjn : j ≤ n)
    (hp : ((j : Int) - 1 + (kk : Int)) % (n : Int) = (p : Int)) (hu : xs.getD p 0 = u) (wu : (Lit.int .i32 u).wf = true) :
    (os ++ [u]).sum = ((xs.drop kk ++ xs.take kk).drop (j - 1)).sum ∧ ∀ s ∈ os ++ [u], (Lit.int .i32 s).wf = true := by
  have hlen : (xs.drop kk ++ xs.take kk).length = n := by rw [List.length_append, List.length_drop, List.length_take]; omega
  refine ⟨?_, ?_⟩
  · rw [List.drop_eq_getElem_cons (i := j - 1) (by rw [hlen]; omega), show j - 1 + 1 = j by omega, List.sum_cons, List.sum_append, h]
    have e : (xs.drop kk ++ xs.take kk)[j - 1]'(by rw [hlen]; omega) = u := by
      rw [← hu, List.getD_eq_getElem?_getD]
      have hpn : (p : Int) = ((j - 1 + kk) % n : Nat) := by rw [← hp, Int.natCast_emod]; congr 1; omega
      have hpn' : p = (j - 1 + kk) % n := by omega
      rcases Nat.lt_or_ge (j - 1 + kk) n with hlt | hge
      · rw [Nat.mod_eq_of_lt hlt] at hpn'
        rw [List.getElem_append_left (by rw [List.length_drop]; omega), List.getElem_drop, List.getElem?_eq_getElem (by omega), Option.getD_some]
        congr 1; omega
      · rw [Nat.mod_eq_sub_mod hge, Nat.mod_eq_of_lt (by omega)] at hpn'
        rw [List.getElem_append_right (by rw [List.length_drop]; omega), List.getElem_take, List.getElem?_eq_getElem (by omega), Option.getD_some]
        congr 1; rw [List.length_drop]; omega
    rw [e, List.sum_cons, List.sum_nil]; omega
  · intro s hs
    rcases List.mem_append.1 hs with h1 | h1
    · exact hw s h1
    · simp only [List.mem_singleton] at h1; subst h1; exact wu

end Go.Proofs.YtoeihigdndkjeaaGreatDoor

/-
  Contracts of Dot and of the document's Dot: for every two rows of 8 bits each returns the sum of the products as far as both go, wrapped to 32 bits.
-/
namespace Go.Proofs.YtoeihigdndkjeaaGreatDoor
open Go.RowKit
set_option linter.unusedVariables false

/-- the products, as far as both rows go -/
def prods (xs ys : List Int) : List Int := List.zipWith (· * ·) xs ys

theorem prods_len (xs ys : List Int) : (prods xs ys).length = min xs.length ys.length := by simp [prods]
theorem prods_at (xs ys : List Int) (k : Nat) (hx : k < xs.length) (hy : k < ys.length) : (prods xs ys).getD k 0 = xs.getD k 0 * ys.getD k 0 := by
  simp [prods, List.getD, List.getElem?_eq_getElem hx, List.getElem?_eq_getElem hy, List.getElem?_zipWith]

theorem prods_comm (xs ys : List Int) : prods xs ys = prods ys xs := by
  unfold prods
  rw [List.zipWith_comm]
  congr 1
  funext a b
  exact Int.mul_comm _ _
theorem pieces {xs ys : List Int} {l m n k : Nat} (hx : xs.length = l) (hy : ys.length = m) (hn : n = min l m) (hk : k ≤ n) :
    wrap32 (wsum (prods (xs.take k) (ys.take k)) + wsum (prods ((xs.drop k).take (n - k)) ((ys.drop k).take (n - k)))) = wsum (prods xs ys) := by
  unfold wsum
  rw [wrap32_add2, sum_rest (prods xs ys) k]
  have e1 : prods (xs.take k) (ys.take k) = (prods xs ys).take k := by unfold prods; rw [List.take_zipWith]
  have e2 : prods ((xs.drop k).take (n - k)) ((ys.drop k).take (n - k)) = (prods xs ys).drop k := by
    unfold prods
    rw [List.drop_zipWith, ← List.take_zipWith, List.take_of_length_le]
    rw [List.length_zipWith, List.length_drop, List.length_drop]; omega
  rw [e1, e2]

theorem prod8 (x y : Int) (hx : -128 ≤ x ∧ x ≤ 127) (hy : -128 ≤ y ∧ y ≤ 127) : -16384 ≤ x * y ∧ x * y ≤ 16384 := by
  have ha : (x * y).natAbs ≤ 128 * 128 := by
    rw [Int.natAbs_mul]
    exact Nat.mul_le_mul (by omega) (by omega)
  omega

theorem prods_wf {w w' : World} {a b : Option Addr} {n m : Nat} {xs ys : List Int} (hX : Elems .i8 w a n xs) (hY : Elems .i8 w' b m ys) : ∀ c ∈ prods xs ys, (Lit.int .i64 c).wf = true := by
  intro c hc
  obtain ⟨i, hi, rfl⟩ := List.mem_iff_getElem.1 hc
  have hl := prods_len xs ys
  have h1 := wf8 (hX.2.2.1 _ (getD_mem (i := i) (by omega)))
  have h2 := wf8 (hY.2.2.1 _ (getD_mem (i := i) (by omega)))
  have h3 := prods_at xs ys i (by omega) (by omega)
  rw [List.getD_eq_getElem?_getD, List.getElem?_eq_getElem hi] at h3
  simp only [Option.getD_some] at h3
  rw [h3]
  have := prod8 _ _ h1 h2
  exact WalkArith.wf_i64 (by omega)

set_option maxHeartbeats 400000 in
theorem dot (a : Option Addr) (n cap : Nat) (xs : List Int) (b : Option Addr) (m cap' : Nat) (ys : List Int) (w : World) (hX : Elems .i8 w a n xs) (hY : Elems .i8 w b m ys) :
    Calls Tryz.prog 111 #[.slice a n cap, .slice b m cap'] w fun e w' => e = .returned (.int .i32 (wsum (prods xs ys))) ∧ ∃ d, w' = w.drewN d := by
  have hn := hX.2.1
  have hm := hY.2.1
  by_cases hmn : (m : Int) < (n : Int)
  all_goals
    go_enter Tryz.func111, Tryz.ntmps111
    go_wp2
    go_loopw [5, 12] (fun s i wr => ∃ (k : Nat) (t : Int) (d : Nat), k ≤ n ∧ k ≤ m ∧ i = .int .i64 k ∧ s = .int .i32 t ∧ Hid (t = wrap32 ((prods xs ys).take k).sum) ∧ wr = w.drewN d) (fun _ i _ => min n m - (intOf i).toNat)
    case atStart => exact ⟨0, 0, 0, by omega, by omega, rfl, rfl, Lib.hid (by simp [wrap32]), rfl⟩
    case round =>
      obtain ⟨k, t, d, hk1, hk2, rfl, rfl, ht, rfl⟩ := hrel
      by_cases hlt : k < n ∧ k < m
      · obtain ⟨g, off, v, rfl, hc, hv, wv⟩ := hX.at_ hlt.1
        obtain ⟨g', off', u, rfl, hc', hu, wu⟩ := hY.at_ hlt.2
        have v0 := wf8 wv
        have u0 := wf8 wu
        obtain ⟨p1, p2⟩ := prod8 v u v0 u0
        have T : Hid (wrap32 (t + v * u) = wrap32 ((prods xs ys).take (k + 1)).sum) := Lib.hid (by
          have h1 := hX.1
          have h2 := hY.1
          rw [sum_step _ k (by rw [prods_len]; omega), prods_at xs ys k (by omega) (by omega), hv.out, hu.out, ht.out, wrap32_add])
        obtain ⟨t', ht'⟩ : ∃ t', wrap32 (t + v * u) = t' := ⟨_, rfl⟩
        rw [ht'] at T
        have e1 : IntKind.i32.wrap v = v := IntWalk.i32_in _ (by omega)
        have e2 : IntKind.i32.wrap u = u := IntWalk.i32_in _ (by omega)
        have e3 : IntKind.i32.wrap (v * u) = v * u := IntWalk.i32_in _ (by omega)
        obtain ⟨v1, v2⟩ := v0
        obtain ⟨u1, u2⟩ := u0
        obtain ⟨l1, l2⟩ := hlt
        have l1' : (k : Int) < (n : Int) := by omega
        have l2' : (k : Int) < (m : Int) := by omega
        clear ht hv wv hu wu hX hY
        go_wp2
        go_quiet (fail)
        go_wp2
        go_roundw
        case rel => exact ⟨k + 1, t', _, by omega, by omega, by go_num, by rw [ht'], T, rfl⟩
        case measure => simp [intOf]; omega
      · have h1 := hX.1
        have h2 := hY.1
        clear hX hY
        go_wp2
        go_ret
        exact ⟨ret_int (by rw [ht.out, sum_all _ k (by rw [prods_len]; omega)]; rfl), _, rfl⟩

set_option maxHeartbeats 800000 in
theorem ref_dot (a : Option Addr) (n cap : Nat) (xs : List Int) (b : Option Addr) (m cap' : Nat) (ys : List Int) (w : World) (hX : Elems .i8 w a n xs) (hY : Elems .i8 w b m ys) (hsmall : n ≤ 300) :
    Calls Tryz.prog 47 #[.slice a n cap, .slice b m cap'] w fun e w' => e = .returned (.int .i32 (wsum (prods xs ys))) ∧ Below w.heap.size w w' := by
  have hn := hX.2.1
  have hm := hY.2.1
  obtain ⟨i0, hi, hz0, hz1, hz2⟩ := info_parts info_int64
  go_enter Tryz.func47, Tryz.ntmps47
  go_wp2
  go_loopw [5, 6] (fun v i wr => ∃ k : Nat, k ≤ n ∧ k ≤ m ∧ i = .int .i64 k ∧ wr.ownsRow w.heap.size 2 1 v k (((prods xs ys).take k).map (.int .i64)) ∧ Below w.heap.size w wr) (fun _ i _ => min n m - (intOf i).toNat)
  case atStart => exact ⟨0, by omega, by omega, rfl, own_nil _ _ _, Below.refl _ _⟩
  case round =>
    obtain ⟨k, hk1, hk2, rfl, hown, hbel⟩ := hrel
    by_cases hlt1 : k < n
    · have l1 : (k : Int) < (n : Int) := by omega
      by_cases hlt2 : k < m
      · have l2 : (k : Int) < (m : Int) := by omega
        obtain ⟨g, off, v, rfl, hc, hv, wv⟩ := (hX.below hbel).at_ hlt1
        obtain ⟨g', off', u, rfl, hc', hu, wu⟩ := (hY.below hbel).at_ hlt2
        have v0 := wf8 wv
        have u0 := wf8 wu
        obtain ⟨p1, p2⟩ := prod8 v u v0 u0
        have e1 : IntKind.i64.wrap v = v := IntWalk.i64_in _ (by omega)
        have e2 : IntKind.i64.wrap u = u := IntWalk.i64_in _ (by omega)
        have e3 : IntKind.i64.wrap (v * u) = v * u := IntWalk.i64_in _ (by omega)
        have hs := hbel.size
        have hvu : Hid ((prods xs ys).getD k 0 = v * u) := Lib.hid (by
          have h1 := hX.1
          have h2 := hY.1
          rw [prods_at xs ys k (by omega) (by omega), hv.out, hu.out])
        obtain ⟨v1, v2⟩ := v0
        obtain ⟨u1, u2⟩ := u0
        clear hv hu wv wu
        have lg : g < w.heap.size := by
          obtain ⟨g2, off2, v2', h2, hc2, _, _⟩ := hX.at_ hlt1
          simp only [Option.some.injEq, Addr.mk.injEq] at h2
          obtain ⟨rfl, rfl, _⟩ := h2
          exact World.block_lt_of_cell? _ _ hc2
        have lg' : g' < w.heap.size := by
          obtain ⟨g2, off2, v2', h2, hc2, _, _⟩ := hY.at_ hlt2
          simp only [Option.some.injEq, Addr.mk.injEq] at h2
          obtain ⟨rfl, rfl, _⟩ := h2
          exact World.block_lt_of_cell? _ _ hc2
        have ag : u5.ownBlock ≠ some g := fun h => by have := own_lt hown g h; omega
        have ag' : u5.ownBlock ≠ some g' := fun h => by have := own_lt hown g' h; omega
        go_wp2
        go_region_held3 (fun w' => w'.cell? ⟨g, off + k, none⟩ = some (.int .i8 v) ∧ w'.cell? ⟨g', off' + k, none⟩ = some (.int .i8 u))
          (first
            | go_keep
            | (go_split_ands
               refine ⟨?_, ?_⟩
               · (rw [hgrow.cell_far _ (by simp; omega) (Ne.symm ag)]; assumption)
               · (rw [hgrow.cell_far _ (by simp; omega) (Ne.symm ag')]; assumption)))
          ((refine step_append_lies _ (by rfl) _ _ _ (by rfl) w.heap.size 2 i0 _ 1 8 Tryz.underlying149 hi hz0 hz1 hz2 rfl (by omega) u5 k _ (by rfl) ((hown.alloc _).drew)
              ⟨wr.heap.size, 0, none⟩ 1 1 [.int .i64 (v * u)] (by rfl) (by rfl) (World.news_of_block (cs := #[.int .i64 (v * u)]) (t := 2) (fr := (0, 0)) (heap_alloc_new wr _)) (by simp [Value.oneCell'])
              (by omega) (by unfold maxLen; omega) (by omega) (by simp; omega) (wr.heap.size + 1) (by simp) ?_; intro gg cap w1 hown1 hgrow hat hlt))
        have hown2 : w1.ownsRow w.heap.size 2 1 (.slice (some ⟨gg, 0, none⟩) (k + 1) cap) (k + 1) (((prods xs ys).take (k + 1)).map (.int .i64)) := by
          have h1 := hX.1
          have h2 := hY.1
          have h3 := take_map_snoc (.int .i64) (prods xs ys) k (by rw [prods_len]; omega)
          rw [← h3, hvu.out]
          exact hown1
        have hbel2 := ((hbel.alloc hs (.cells #[.int .i64 (v * u)] 2)).drew).grown hgrow (by simp; omega) (own_lt hown)
        clear hown1 hgrow hown hbel hc hc' hX hY hvu hs ag ag' hat hlt e1 e2 e3
        go_wp2
        go_roundw
        case rel => exact ⟨k + 1, by omega, by omega, by go_num, hown2, hbel2⟩
        case measure => simp [intOf]; omega
      · have l2 : decide ((k : Int) < (m : Int)) = false := by simp; omega
        obtain rfl : k = m := by omega
        have h1 := hX.1
        have h2 := hY.1
        rw [sum_all (prods xs ys) k (by rw [prods_len]; omega)] at hown
        obtain ⟨a', cap2, hv, hV⟩ := own_form hown (by omega) (fun c hc => prods_wf hX hY c hc)
        subst hv
        clear hown hX hY
        go_wp2_with (go_at_call 75; (with_reducible refine (ref_wrap _ _ _ _ _ hV).mono ?_); rintro e w' ⟨rfl, rfl⟩)
        go_ret
        exact ⟨rfl, hbel⟩
    · obtain rfl : k = n := by omega
      have h1 := hX.1
      have h2 := hY.1
      rw [sum_all (prods xs ys) k (by rw [prods_len]; omega)] at hown
      obtain ⟨a', cap2, hv, hV⟩ := own_form hown (by omega) (fun c hc => prods_wf hX hY c hc)
      subst hv
      clear hown hX hY
      go_wp2_with (go_at_call 75; (with_reducible refine (ref_wrap _ _ _ _ _ hV).mono ?_); rintro e w' ⟨rfl, rfl⟩)
      go_ret
      exact ⟨rfl, hbel⟩

end Go.Proofs.YtoeihigdndkjeaaGreatDoor

/-
  Contract of the document's Mix: the same row as layer 5's, in new memory; or none.
-/
namespace Go.Proofs.YtoeihigdndkjeaaGreatDoor
open Go.RowKit
set_option linter.unusedVariables false

theorem row_mem {k : IntKind} {w : World} {a : Option Addr} {n : Nat} {qs : List Rw} (h : Rws k w a n qs) {i : Nat} (hi : i < n) : qs.getD i default ∈ qs := by
  rw [List.getD_eq_getElem?_getD, List.getElem?_eq_getElem (by rw [h.1]; exact hi)]
  exact List.getElem_mem _

theorem ref_mix_len (wa a : Option Addr) (n m wcap cap : Nat) (w : World) (hn : n ≤ 9223372036854775807) (hm : m ≤ 9223372036854775807) (hne : n ≠ m) :
    Calls Tryz.prog 48 #[.slice wa n wcap, .slice a m cap] w fun e w' => e = .returned (.tuple #[.slice none 0 0, .bool false]) ∧ Below w.heap.size w w' := by
  have hnn : ((n : Int) != (m : Int)) = true := by simp; omega
  clear hne
  go_enter Tryz.func48, Tryz.ntmps48
  go_wp2
  go_ret2
  exact ⟨rfl, Below.refl _ _⟩

theorem ref_mix_none (wa a : Option Addr) (wcap cap : Nat) (w : World) :
    Calls Tryz.prog 48 #[.slice wa 0 wcap, .slice a 0 cap] w fun e w' => e = .returned (.tuple #[.slice none 0 0, .bool true]) ∧ Below w.heap.size w w' := by
  go_enter Tryz.func48, Tryz.ntmps48
  go_wp2
  go_loopw [7] (fun i wr => i = .int .i64 0 ∧ wr = w) (fun i _ => 0)
  case atStart => exact ⟨rfl, rfl⟩
  case round =>
    obtain ⟨rfl, rfl⟩ := hrel
    go_wp2
    go_ret2
    exact ⟨rfl, Below.refl _ _⟩

set_option maxHeartbeats 800000 in
theorem ref_mix_wide (wa a : Option Addr) (n wcap cap : Nat) (qs : List Rw) (w : World) (h : Rws .i8 w a n qs) (hs : sameW qs = false) :
    Calls Tryz.prog 48 #[.slice wa n wcap, .slice a n cap] w fun e w' => e = .returned (.tuple #[.slice none 0 0, .bool false]) ∧ Below w.heap.size w w' := by
  have HL := Lib.hid h.1
  have hn := h.2.1
  have HS := Lib.hid hs
  clear hs
  have hnn : ((n : Int) != (n : Int)) = false := by simp
  go_enter Tryz.func48, Tryz.ntmps48
  go_wp2
  clear hnn
  go_loopw [7] (fun i wr => ∃ (k d : Nat), k ≤ n ∧ i = .int .i64 k ∧ wr = w.drewN d ∧ Hid (∀ i, i < k → (qs.getD i default).n = (qs.getD 0 default).n)) (fun i _ => n - (intOf i).toNat)
  case atStart => exact ⟨0, 0, by omega, rfl, rfl, Lib.hid (fun i hi => by omega)⟩
  case round =>
    obtain ⟨k, d, hk, rfl, rfl, hall⟩ := hrel
    by_cases hlt : k < n
    · obtain ⟨b, off, q, rfl, _, cq, hq, hin⟩ := h.at_ hlt
      obtain ⟨b2, off2, p, he, _, cp, hp, hin2⟩ := h.at_ (i := 0) (by omega)
      cases he
      obtain ⟨qa, qn, qcap, qv⟩ := q
      obtain ⟨pa, pn, pcap, pv⟩ := p
      have hq1 := hin.2.2.1
      have hp1 := hin2.2.2.1
      have hq2 := hin.2.1
      have hp2 := hin2.2.1
      simp only at cq cp hq1 hp1 hq2 hp2
      rw [Nat.add_zero] at cp
      by_cases hc : qn = pn
      · subst hc
        have hst : Hid (∀ i, i < k + 1 → (qs.getD i default).n = (qs.getD 0 default).n) := Lib.hid (fun i hi => by
          rcases Nat.lt_or_ge i k with h1 | h1
          · exact hall.out i h1
          · obtain rfl : i = k := by omega
            rw [hq.out, hp.out])
        have hqq : ((qn : Int) != (qn : Int)) = false := by simp
        clear h hq hp hin hin2 hall
        go_wp2_with fail
        go_quiet (fail)
        go_wp2
        go_roundw
        case rel => exact ⟨k + 1, _, by omega, by go_num, rfl, hst⟩
        case measure => simp [intOf]; omega
      · have hc' : ((qn : Int) != (pn : Int)) = true := by simp; omega
        clear h hq hp hin hin2 hall hc
        go_wp2_with fail
        go_quiet (fail)
        go_wp2
        go_ret2
        exact ⟨rfl, below_drewN (below_drewN (Below.refl _ _) d) _⟩
    · have hyes : sameW qs = true := by
        unfold sameW
        rw [List.all_eq_true]
        intro q hq
        obtain ⟨i, hi, rfl⟩ := List.getElem_of_mem hq
        have := hall.out i (by have := HL.out; omega)
        rw [List.getD_eq_getElem?_getD, List.getElem?_eq_getElem hi] at this
        simpa using this
      rw [HS.out] at hyes
      cases hyes

set_option maxHeartbeats 2000000 in
theorem ref_mix_some (wa a : Option Addr) (n wcap cap m : Nat) (ws : List Int) (qs : List Rw) (w : World) (hw : Elems .i32 w wa n ws) (h : Rws .i8 w a n qs) (h0 : 0 < n) (hn : n ≤ 200) (hs : sameW qs = true) (hm : (qs.getD 0 default).n = m) (hm2 : m ≤ 1000) :
    Calls Tryz.prog 48 #[.slice wa n wcap, .slice a n cap] w fun e w' => (∃ b c, e = .returned (.tuple #[.slice b m c, .bool true]) ∧ Elems .i8 w' b m (mixL ws qs n m)) ∧ Below w.heap.size w w' := by
  obtain ⟨i0, hi, hz0, hz1, hz2⟩ := info8_parts
  have HW : Hid (∀ q ∈ qs, q.n = m) := Lib.hid (fun q hq => (sameW_at hs hq).trans hm)
  have HH := Lib.hid h
  have HWT := Lib.hid hw
  have hnn : ((n : Int) != (n : Int)) = false := by simp
  have hnz : ((n : Int) == 0) = false := by simp; omega
  clear hs hm hw
  go_enter Tryz.func48, Tryz.ntmps48
  go_wp2
  clear hnn
  go_loopw [7] (fun i wr => ∃ (k d : Nat), k ≤ n ∧ i = .int .i64 k ∧ wr = w.drewN d) (fun i _ => n - (intOf i).toNat)
  case atStart => exact ⟨0, 0, by omega, rfl, rfl⟩
  case round =>
    obtain ⟨k, d, hk, rfl, rfl⟩ := hrel
    by_cases hlt : k < n
    · obtain ⟨b, off, q, rfl, _, cq, hq, hin⟩ := h.at_ hlt
      obtain ⟨b2, off2, p, he, _, cp, hp, hin2⟩ := h.at_ (i := 0) (by omega)
      cases he
      have hqn := HW.out q (by rw [← hq.out]; exact row_mem h hlt)
      have hpn := HW.out p (by rw [← hp.out]; exact row_mem h h0)
      obtain ⟨qa, qn, qcap, qv⟩ := q
      obtain ⟨pa, pn, pcap, pv⟩ := p
      have hq1 := hin.2.2.1
      have hp1 := hin2.2.2.1
      have hq2 := hin.2.1
      have hp2 := hin2.2.1
      simp only at cq cp hq1 hp1 hq2 hp2 hqn hpn
      rw [Nat.add_zero] at cp
      subst hqn
      subst hpn
      have hqq : ((pn : Int) != (pn : Int)) = false := by simp
      clear h hq hp hin hin2 hnz
      go_wp2_with fail
      go_quiet (fail)
      go_wp2
      go_roundw
      case rel => exact ⟨k + 1, _, by omega, by go_num, rfl⟩
      case measure => simp [intOf]; omega
    · obtain rfl : k = n := by omega
      go_wp2
      clear hnz
      go_loopw [6, 8] (fun o i wr => ∃ (j : Nat), j ≤ m ∧ i = .int .i64 j ∧ wr.ownsRow w.heap.size 64 1 o j ((mixL ws qs k j).map (.int .i8)) ∧ Below w.heap.size w wr) (fun _ i _ => m - (intOf i).toNat)
      case atStart => exact ⟨0, by omega, rfl, own_nil (w.drewN d) w.heap.size 64, below_drewN (Below.refl _ _) d⟩
      case round =>
        obtain ⟨j, hj, rfl, hown, hbel⟩ := hrel
        obtain ⟨b, off, p, rfl, _, cp, hp, hin⟩ := (h.below hbel).at_ h0
        have hpn := HW.out p (by rw [← hp.out]; exact row_mem h h0)
        obtain ⟨pa, pn, pcap, pv⟩ := p
        simp only at cp hpn
        rw [Nat.add_zero] at cp
        subst hpn
        have hp1 := hin.2.2.1
        have hp2 := hin.2.1
        simp only at hp1 hp2
        clear h hp hin
        by_cases hlt2 : j < pn
        · obtain ⟨w1, hw1⟩ : ∃ w1, w1 = wr := ⟨_, rfl⟩
          subst hw1
          go_wp2
          go_loopw [9, 10] (fun s i wr => ∃ (c e : Nat) (q : Int), c ≤ k ∧ i = .int .i64 c ∧ s = .int .i64 q ∧ wr = w1.drewN e ∧ Hid (q = msum ws qs c j) ∧ -(274877906944 * (c : Int)) ≤ q ∧ q ≤ 274877906944 * (c : Int)) (fun _ i _ => k - (intOf i).toNat)
          case atStart => exact ⟨0, 0, 0, by omega, rfl, rfl, rfl, Lib.hid (by simp [msum]), by omega, by omega⟩
          case round =>
            clear cp
            obtain ⟨c, e, q, hc, rfl, rfl, rfl, hq, q1, q2⟩ := hrel
            by_cases hlt3 : c < k
            · obtain ⟨b1, off1, wt, rfl, hcw, hv, wv⟩ := (HWT.out.below hbel).at_ hlt3
              obtain ⟨b2, off2, r, he, _, cr, hr, hin⟩ := (HH.out.below hbel).at_ hlt3
              cases he
              have hrn := HW.out r (by rw [← hr.out]; exact row_mem HH.out hlt3)
              obtain ⟨ra, rn, rcap, rv⟩ := r
              simp only at cr hrn
              subst hrn
              have hr1 := hin.2.2.1
              have hr2 := hin.2.1
              obtain ⟨b3, off3, x, he, hcx, hx, wx⟩ := hin.1.at_ hlt2
              simp only at he hr1 hr2 hx
              subst he
              obtain ⟨x1, x2⟩ := wf8 wx
              obtain ⟨wt1, wt2⟩ := wf32 wv
              obtain ⟨p1, p2⟩ := mix_prod x wt x1 x2 wt1 wt2
              rw [Int.mul_comm] at p1 p2
              have hst : Hid (q + wt * x = msum ws qs (c + 1) j) := Lib.hid (by rw [msum_step, hq.out, hv.out, hr.out, hx.out])
              have e0 : IntKind.i64.wrap wt = wt := IntWalk.i64_in _ (by omega)
              have e1 : IntKind.i64.wrap x = x := IntWalk.i64_in _ (by omega)
              have e2 : IntKind.i64.wrap (wt * x) = wt * x := IntWalk.i64_in _ (by omega)
              have e3 : IntKind.i64.wrap (q + wt * x) = q + wt * x := IntWalk.i64_in _ (by omega)
              clear hv hr hin hx hq wv wx hown hbel
              go_wp2_with fail
              go_quiet (fail)
              clear e0 e1 e2 e3
              go_wp2
              go_roundw
              case rel => exact ⟨c + 1, _, _, by omega, by go_num, rfl, rfl, hst, by push_cast; omega, by push_cast; omega⟩
              case measure => simp [intOf]; omega
            · obtain rfl : c = k := by omega
              obtain rfl : q = msum ws qs c j := hq.out
              have hs := hbel.size
              have hnext : Hid (mixL ws qs c j ++ [mix1 (msum ws qs c j)] = mixL ws qs c (j + 1)) := Lib.hid (range_snoc (fun p => mix1 (msum ws qs c p)) j)
              have hval : mix1 (msum ws qs c j) = near (shr (msum ws qs c j) 16) (-128) 127 := rfl
              have hzb := wf8 (mix1_wf (msum ws qs c j))
              generalize msum ws qs c j = T at q1 q2 hnext hval hzb
              have hsh : ∀ w, Calls Tryz.prog 72 #[.int .i64 T, .int .i64 16] w fun e w' => e = .returned (.int .i64 (shr T 16)) ∧ w = w' := fun w => ref_shift _ _ (by omega) (by omega) w
              have hsa : ∀ w, Calls Tryz.prog 70 #[.int .i64 (shr T 16), .int .i64 (-128), .int .i64 127] w fun e w' => e = .returned (.int .i64 (near (shr T 16) (-128) 127)) ∧ w = w' := fun w => ref_near _ _ _ w
              rw [← hval] at hsa
              generalize mix1 T = z at hnext hsa hval hzb
              generalize shr T 16 = s at hsh hsa
              generalize mixL ws qs c j = cs at hown hnext
              have hown1 : (w1.drewN e).ownsRow w.heap.size 64 1 u6 j (cs.map (.int .i8)) := hown
              have hbel1 := below_drewN hbel e
              have hs1 : w.heap.size ≤ (w1.drewN e).heap.size := hs
              clear hval hq hown hbel hs
              go_wp2_with (first
                | (go_at_call 72; (with_reducible refine (hsh _).mono ?_); rintro e w' ⟨rfl, rfl⟩)
                | (go_at_call 70; (with_reducible refine (hsa _).mono ?_); rintro e w' ⟨rfl, rfl⟩)
                | (at_builtin; refine wpList_append_own _ rfl _ _ 24 rfl w.heap.size 64 i0 (.int .i8 0) 1 1 Tryz.underlying24 hi hz0 hz1 hz2 rfl (by decide) _ _ _ rfl (hown1.alloc _) ⟨(w1.drewN e).heap.size, 0, none⟩ 1 1 [.int .i8 z] rfl rfl (cell_one_new _ _ _) one_cell (by unfold maxLen; omega) (by omega) (by simp at hs1 ⊢; omega) ?_))
              intro v' w' hown' hgrow _
              have hown2 : w'.ownsRow w.heap.size 64 1 v' (j + 1) ((cs ++ [z]).map (.int .i8)) := by rw [List.map_append]; exact hown'
              have hbel2 := (hbel1.alloc hs1 (.cells #[.int .i8 z] 64)).grown hgrow (by simp at hs1 ⊢; omega) (own_lt hown1)
              rw [hnext.out] at hown2
              clear hown' hgrow hown1 hbel1 hs1 hsh hsa
              go_wp2
              go_roundw
              case rel => exact ⟨j + 1, by omega, by go_num, hown2, hbel2⟩
              case measure => simp [intOf]; omega
        · obtain rfl : j = pn := by omega
          obtain ⟨aS, capS, hvS, hE⟩ := own_form hown (by omega) (mixL_wf ws qs k j)
          subst hvS
          clear hown
          go_wp2
          go_ret2
          exact ⟨⟨_, _, rfl, hE⟩, hbel⟩

/-- none, whichever way the rows don't fit -/
theorem ref_mix_no (wa a : Option Addr) (n m wcap cap : Nat) (qs : List Rw) (w : World) (h : Rws .i8 w a m qs) (hn : n ≤ 9223372036854775807) (hne : n ≠ m ∨ sameW qs = false) :
    Calls Tryz.prog 48 #[.slice wa n wcap, .slice a m cap] w fun e w' => e = .returned (.tuple #[.slice none 0 0, .bool false]) ∧ Below w.heap.size w w' := by
  by_cases hc : n = m
  · subst hc
    exact ref_mix_wide wa a n wcap cap qs w h (by rcases hne with h1 | h1; exact absurd rfl h1; exact h1)
  · exact ref_mix_len wa a n m wcap cap w hn h.2.1 hc
theorem rws_none {k : IntKind} {w : World} {a : Option Addr} {qs : List Rw} (h : Rws k w a 0 qs) : qs = [] := List.length_eq_zero_iff.1 h.1
/-- a row, of no rows too -/
theorem mix_yes (wa a : Option Addr) (n wcap cap m : Nat) (ws : List Int) (qs : List Rw) (w : World) (hw : Elems .i32 w wa n ws) (h : Rws .i8 w a n qs) (hn : n ≤ 200) (hs : sameW qs = true) (hm : (qs.getD 0 default).n = m) (hm2 : m ≤ 1000) :
    Calls Tryz.prog 112 #[.slice wa n wcap, .slice a n cap] w fun e w' => (∃ b c, e = .returned (.tuple #[.slice b m c, .int .i64 0]) ∧ Elems .i8 w' b m (mixL ws qs n m)) ∧ Below w.heap.size w w' := by
  by_cases h0 : n = 0
  · subst h0
    obtain rfl := rws_none h
    obtain rfl : m = 0 := hm.symm
    exact (mix_none wa a wcap cap w).mono (by rintro e w' ⟨rfl, rfl⟩; exact ⟨⟨none, 0, rfl, Elems.nil_ _ _ _⟩, Below.refl _ _⟩)
  · exact (mix_some wa a n wcap cap m ws qs w hw h (by omega) hn hs hm hm2).mono (by rintro e w' ⟨⟨g, rfl, hE⟩, hb⟩; exact ⟨⟨_, _, rfl, hE⟩, hb⟩)
theorem ref_mix_yes (wa a : Option Addr) (n wcap cap m : Nat) (ws : List Int) (qs : List Rw) (w : World) (hw : Elems .i32 w wa n ws) (h : Rws .i8 w a n qs) (hn : n ≤ 200) (hs : sameW qs = true) (hm : (qs.getD 0 default).n = m) (hm2 : m ≤ 1000) :
    Calls Tryz.prog 48 #[.slice wa n wcap, .slice a n cap] w fun e w' => (∃ b c, e = .returned (.tuple #[.slice b m c, .bool true]) ∧ Elems .i8 w' b m (mixL ws qs n m)) ∧ Below w.heap.size w w' := by
  by_cases h0 : n = 0
  · subst h0
    obtain rfl := rws_none h
    obtain rfl : m = 0 := hm.symm
    exact (ref_mix_none wa a wcap cap w).mono (by rintro e w' ⟨rfl, hb⟩; exact ⟨⟨none, 0, rfl, Elems.nil_ _ _ _⟩, hb⟩)
  · exact (ref_mix_some wa a n wcap cap m ws qs w hw h (by omega) hn hs hm hm2)

/-- four cells of a block -/
theorem four_cells {w wb : World} {p q r s : Value} {T : TypeId} {b : Nat} (hb : b = w.heap.size) (h : Below (w.alloc (.cells #[p, q, r, s] T)).heap.size (w.alloc (.cells #[p, q, r, s] T)) wb) :
    wb.cell? ⟨b, 0, none⟩ = some p ∧ wb.cell? ⟨b, 1, none⟩ = some q ∧ wb.cell? ⟨b, 2, none⟩ = some r ∧ wb.cell? ⟨b, 3, none⟩ = some s := by
  subst hb
  exact ⟨cell_keep (by simp) h, cell_keep (by simp) h, cell_keep (by simp) h, cell_keep (by simp) h⟩

end Go.Proofs.YtoeihigdndkjeaaGreatDoor

/-
  Plain mathematics of shares: together never more than the total, and less by fewer than how many weights are above 0.
-/
namespace Go.Proofs.YtoeihigdndkjeaaGreatDoor
open Go.RowKit
set_option linter.unusedVariables false

/-- how many weights are above 0 -/
def scnt (xs : List Int) : Int := (xs.map fun x => if 0 < x then 1 else 0).sum
/-- the shares' sum -/
def ssum (t S : Int) (xs : List Int) : Int := (xs.map (share t S)).sum

theorem cnt_cons (x : Int) (xs : List Int) : scnt (x :: xs) = (if 0 < x then 1 else 0) + scnt xs := by simp [scnt]
theorem ssum_cons (t S x : Int) (xs : List Int) : ssum t S (x :: xs) = share t S x + ssum t S xs := by simp [ssum]
theorem tot_cons (x : Int) (xs : List Int) : stot (x :: xs) = pos x + stot xs := by simp [stot]
theorem cnt_step (xs : List Int) (k : Nat) (hk : k < xs.length) : scnt (xs.take (k + 1)) = scnt (xs.take k) + (if 0 < xs.getD k 0 then 1 else 0) := by
  unfold scnt
  rw [List.take_add_one, List.map_append, List.sum_append]
  simp [List.getD, List.getElem?_eq_getElem hk]
theorem ssum_step (t S : Int) (xs : List Int) (k : Nat) (hk : k < xs.length) : ssum t S (xs.take (k + 1)) = ssum t S (xs.take k) + share t S (xs.getD k 0) := by
  unfold ssum
  rw [List.take_add_one, List.map_append, List.sum_append]
  simp [List.getD, List.getElem?_eq_getElem hk]
theorem cnt_bd (xs : List Int) : 0 ≤ scnt xs ∧ scnt xs ≤ xs.length := by
  induction xs with
  | nil => simp [scnt]
  | cons x xs ih => rw [cnt_cons, List.length_cons]; push_cast; split <;> omega
theorem cnt_none {xs : List Int} (h : scnt xs = 0) : stot xs = 0 := by
  induction xs with
  | nil => rfl
  | cons x xs ih =>
    have hb := cnt_bd xs
    rw [cnt_cons] at h
    rw [tot_cons]
    split at h
    · omega
    · rename_i hx
      have e : pos x = 0 := by unfold pos; rw [if_neg hx]
      rw [e, ih (by omega)]; rfl
theorem cnt_some {xs : List Int} (hx : ∀ x ∈ xs, x ≤ 2147483647) (h : 0 < scnt xs) : 0 < stot xs := by
  induction xs with
  | nil => simp [scnt] at h
  | cons x xs ih =>
    have hb := tot_bd xs (fun y hy => hx y (List.mem_cons_of_mem _ hy))
    have hp := pos_bd x (hx x List.mem_cons_self)
    rw [cnt_cons] at h
    rw [tot_cons]
    split at h
    · rename_i h0
      have e : pos x = x := by unfold pos; rw [if_pos h0]
      omega
    · have := ih (fun y hy => hx y (List.mem_cons_of_mem _ hy)) (by omega); omega
theorem ssum_zero {t S : Int} (h : S = 0 ∨ t < 0 ∨ t = 0) (xs : List Int) : ssum t S xs = 0 := by
  induction xs with
  | nil => rfl
  | cons x xs ih =>
    rw [ssum_cons, ih]
    unfold share
    split
    · rfl
    · rename_i hn
      have : t = 0 := by omega
      rw [this, Int.mul_zero, Int.zero_ediv]; rfl

theorem parts_bd {t S : Int} (hS : 0 < S) (ht : 0 ≤ t) (xs : List Int) : S * ssum t S xs ≤ stot xs * t ∧ stot xs * t ≤ S * ssum t S xs + (S - 1) * scnt xs := by
  induction xs with
  | nil => simp [ssum, stot, scnt]
  | cons x xs ih =>
    rw [ssum_cons, tot_cons, cnt_cons, Int.mul_add, Int.add_mul, Int.mul_add]
    have e : share t S x = pos x * t / S := by unfold share; rw [if_neg (by omega)]
    rw [e]
    have h1 := Int.emod_add_mul_ediv (pos x * t) S
    have h2 := Int.emod_nonneg (pos x * t) (b := S) (by omega)
    have h3 := Int.emod_lt_of_pos (pos x * t) hS
    by_cases h0 : 0 < x
    · rw [if_pos h0, Int.mul_one]; omega
    · have ep : pos x = 0 := by unfold pos; rw [if_neg h0]
      rw [if_neg h0, Int.mul_zero, ep, Int.zero_mul, Int.zero_ediv, Int.mul_zero]; omega

theorem whole {t : Int} {xs : List Int} (hx : ∀ x ∈ xs, x ≤ 2147483647) (ht : 0 < t) (hc : 0 < scnt xs) : ssum t (stot xs) xs ≤ t ∧ t - ssum t (stot xs) xs < scnt xs := by
  have hS := cnt_some hx hc
  have h := parts_bd (t := t) hS (by omega) xs
  generalize stot xs = S at *
  generalize ssum t S xs = A at *
  generalize scnt xs = C at *
  constructor
  · exact Int.le_of_mul_le_mul_left h.1 hS
  · rcases Int.lt_or_le (t - A) C with h1 | h1
    · exact h1
    · exfalso
      have h2 : S * C ≤ S * (t - A) := Int.mul_le_mul_of_nonneg_left h1 (by omega)
      rw [Int.mul_sub] at h2
      rw [Int.sub_mul, Int.one_mul] at h
      omega
theorem share_bd2 {t x : Int} {xs : List Int} (hx : ∀ x ∈ xs, x ≤ 2147483647) (hm : x ∈ xs) (ht2 : t ≤ 2147483647) : 0 ≤ share t (stot xs) x ∧ share t (stot xs) x ≤ 2147483647 := by
  have h := wf32 (share_wf hx ht2 (share t (stot xs) x) (List.mem_map.2 ⟨x, hm, rfl⟩))
  refine ⟨?_, h.2⟩
  have h1 := pos_bd x (hx x hm)
  unfold share
  split
  · omega
  · rename_i hn
    have := tot_bd xs hx
    exact Int.ediv_nonneg (Int.mul_nonneg h1.1 (by omega)) (by omega)
theorem share_none {t S x : Int} (h : ¬ 0 < x) : share t S x = 0 := by
  unfold share
  split
  · rfl
  · have e : pos x = 0 := by unfold pos; rw [if_neg h]
    rw [e, Int.zero_mul, Int.zero_ediv]

end Go.Proofs.YtoeihigdndkjeaaGreatDoor
