/-
  The document's Cut: a cut that is right of a small right shape, out of two numbers.
-/
import Derived.Test.YtledjabhbakdeaaCut10
import Derived.Test.YtledjabhbakdeaaTiny
import Derived.Test.YtledjabhbakdeaaAppRow
import Derived.BigRegion
namespace Go.Proofs.Ytledjabhbakdeaa
open Go.RowKit
set_option linter.unusedVariables false

/-- x divides both -/
def DivI (h i : Nat) (x : Int) : Prop := ∃ p : Nat, x = p ∧ 1 ≤ p ∧ p ≤ h ∧ h % p = 0 ∧ i % p = 0
theorem DivI.wf {h i : Nat} {x : Int} (hd : DivI h i x) (hh : h ≤ 16) : (Lit.int .i64 x).wf = true := by obtain ⟨p, rfl, h1, h2, _⟩ := hd; exact WalkArith.wf_i64 (by omega)

set_option maxHeartbeats 3200000 in
set_option maxRecDepth 100000 in
theorem mkcut_any (s : Sz) (hs : s.Tiny) (a b : Int) (W : World) (ba : -9223372036854775808 ≤ a ∧ a ≤ 9223372036854775807) (bb : -9223372036854775808 ≤ b ∧ b ≤ 9223372036854775807) :
    Calls Try.prog 19 #[s.val, .int .i64 a, .int .i64 b] W fun e w' => (∃ st pt : Nat, e = .returned (cutv st pt) ∧ OkC s.l s.h s.i st pt ∧ st ≤ 3 ∧ pt ≤ 8) ∧ Below W.heap.size W w' := by
  obtain ⟨ok, t1, t2, t3, t4⟩ := hs
  obtain ⟨bl, bh, bw, bi, bv, bp⟩ := ok.bd
  have hh8 : s.h ≤ 8 := by
    obtain ⟨_, _, _, _, w0, _, hm, _⟩ := ok
    have h2 : (2 * (s.h : Int)) ∣ s.w := Int.dvd_of_emod_eq_zero hm
    have := Int.le_of_dvd (by omega) h2
    omega
  obtain ⟨l, w, h, i, v, p⟩ := s
  simp only at *
  unfold Sz.val shv
  simp only
  clear ok
  go_enter Try.func19, Try.ntmps19
  go_wp2_with fail
  generalize hW0 : (W.alloc _).alloc _ = W0
  have XS : Box W0 W.heap.size 23 #[Value.int .i64 l, .int .i64 w, .int .i64 h, .int .i64 i, .int .i64 v, .int .i64 p] := by rw [← hW0]; exact (box_new W _ _).alloc _
  have XC : Box W0 (W.heap.size + 1) 25 #[Value.int .i64 0, .int .i64 0] := by rw [← hW0]; exact box_at (by simp) _ _
  have B0 : Below W.heap.size W W0 := by rw [← hW0]; exact ((Below.refl _ _).alloc (Nat.le_refl _) _).alloc (by simp) _
  have SZ : W0.heap.size = W.heap.size + 2 := by rw [← hW0]; simp
  clear hW0
  have HX := Lib.hid XS
  have HC := Lib.hid XC
  have HB := Lib.hid B0
  have HZ := Lib.hid SZ
  clear XS XC B0 SZ
  go_loopw [7, 8] (fun q x wr => ∃ (k : Nat) (xs : List Int), 1 ≤ k ∧ k ≤ h + 1 ∧ x = .int .i64 k ∧ Hid (wr.ownsRow (W.heap.size + 2) 3 1 q xs.length (xs.map (Value.int .i64)) ∧ (∀ y ∈ xs, DivI h i y) ∧ (2 ≤ k → xs ≠ []) ∧ xs.length + 1 ≤ k) ∧ Below W0.heap.size W0 wr) (fun _ x _ => h + 1 - (intOf x).toNat)
  case atStart => exact ⟨1, [], by omega, by omega, rfl, Lib.hid ⟨World.ownsRow_nil _ _ _ _, by simp, fun h => absurd h (by omega), by simp⟩, Below.refl _ _⟩
  case round =>
    obtain ⟨k, xs, hk1, hk2, rfl, HO, hbel⟩ := hrel
    have YX := HX.out.bel hbel
    have hsz := hbel.size
    have hz := HZ.out
    obtain ⟨c0, c1, c2, c3, c4, c5⟩ := YX.cells6
    by_cases hlt : k < h + 1
    · have i1 : (k : Int) ≤ (h : Int) := by omega
      have hne : ¬ (k : Int) = 0 := by omega
      by_cases d0 : h % k = 0
      · have e0 : ((h : Int) % (k : Int) == 0) = true := by simp; omega
        by_cases d1 : i % k = 0
        · have e1 : ((i : Int) % (k : Int) == 0) = true := by simp; omega
          obtain ⟨v2, w2, hrun, hown2, hg, _⟩ := run_append_lits (P := Try.prog) .i64 wr (W.heap.size + 2) 46 3 8 (by omega) Try.underlying46 info_int _ xs.length 1 xs [(k : Int)] #[.int .i64 k] rfl rfl HO.out.1 (by have := HO.out.2.2.2; omega) (by omega) (by omega)
          have HO2 : Hid (w2.ownsRow (W.heap.size + 2) 3 1 v2 (xs ++ [(k : Int)]).length ((xs ++ [(k : Int)]).map (Value.int .i64)) ∧ (∀ y ∈ xs ++ [(k : Int)], DivI h i y) ∧ (2 ≤ k + 1 → xs ++ [(k : Int)] ≠ []) ∧ (xs ++ [(k : Int)]).length + 1 ≤ k + 1) := by
            refine Lib.hid ⟨by simpa using hown2, ?_, fun _ => by simp, by have := HO.out.2.2.2; simp; omega⟩
            intro y hy
            rcases List.mem_append.1 hy with hy | hy
            · exact HO.out.2.1 y hy
            · simp only [List.mem_singleton] at hy
              exact ⟨k, hy, hk1, by omega, d0, d1⟩
          have HB2 := Lib.hid (hbel.grown hg (by omega) (fun b hb => by have := own_lt HO.out.1 b hb; omega))
          clear hown2 hg d0 d1 hz hsz
          go_wp2_with (at_builtin; refine wpList_append_at (by rfl) _ _ _ (by rfl) _ _ (by rfl) (by rfl) hrun ?_)
          go_roundw
          case rel => exact ⟨k + 1, _, by omega, by omega, by go_num, HO2, HB2.out⟩
          case measure => simp [intOf]; omega
        · have e1 : ((i : Int) % (k : Int) == 0) = false := by simp; omega
          have HO2 := HO
          have k2 : 2 ≤ k := by
            rcases Nat.lt_or_ge k 2 with h | h
            · obtain rfl : k = 1 := by omega
              exact absurd (Nat.mod_one i) d1
            · exact h
          clear d0 d1 hz hsz
          go_wp2
          go_roundw
          case rel => exact ⟨k + 1, xs, by omega, by omega, by go_num, Lib.hid ⟨HO.out.1, HO.out.2.1, fun _ => HO.out.2.2.1 k2, by have := HO.out.2.2.2; omega⟩, hbel⟩
          case measure => simp [intOf]; omega
      · have e0 : ((h : Int) % (k : Int) == 0) = false := by simp; omega
        have k2 : 2 ≤ k := by
          rcases Nat.lt_or_ge k 2 with h3 | h3
          · obtain rfl : k = 1 := by omega
            exact absurd (Nat.mod_one h) d0
          · exact h3
        clear d0 hz hsz
        go_wp2
        go_roundw
        case rel => exact ⟨k + 1, xs, by omega, by omega, by go_num, Lib.hid ⟨HO.out.1, HO.out.2.1, fun _ => HO.out.2.2.1 k2, by have := HO.out.2.2.2; omega⟩, hbel⟩
        case measure => simp [intOf]; omega
    · obtain rfl : k = h + 1 := by omega
      have XC2 := HC.out.bel hbel
      have hnb : ¬ (((h : Int) + 1) ≤ (h : Int)) := by omega
      obtain ⟨z0, z1⟩ := two_cells XC2
      have f0 := XC2.frozen 0
      have f1 := XC2.frozen 1
      have HD := HO.out.2.1
      have hln : xs.length ≤ 16 := by have := HO.out.2.2.2; omega
      have hpos : 0 < xs.length := List.length_pos_iff.2 (HO.out.2.2.1 (by omega))
      obtain ⟨ad, cap, rfl, hE, hcap1, hcap2, -⟩ := own_reads HO.out.1 (fun y hy => (HD y hy).wf (by omega)) (by omega)
      obtain ⟨n, hn⟩ : ∃ n, xs.length = n := ⟨_, rfl⟩
      have hmath : ∀ (a : Int) (m : Nat), 1 ≤ m → ∃ (r : Int) (y : Nat), a.tmod m = r ∧ -(m : Int) < r ∧ r < m ∧ (r + m).tmod m = y ∧ (r + m) % m = y ∧ y < m := by
        intro a m hm
        have hb := rest_by a m (by omega)
        refine ⟨a.tmod m, ((a.tmod m + m) % m).toNat, rfl, hb.1, hb.2, ?_, ?_, ?_⟩
        · rw [Int.tmod_eq_emod_of_nonneg (by omega), Int.toNat_of_nonneg (Int.emod_nonneg _ (by omega))]
        · rw [Int.toNat_of_nonneg (Int.emod_nonneg _ (by omega))]
        · have := Int.emod_lt_of_pos (a.tmod m + m) (b := (m : Int)) (by omega)
          have := Int.emod_nonneg (a.tmod m + m) (b := (m : Int)) (by omega)
          omega
      obtain ⟨ra, ya, ha1, ha2, ha3, ha4, ha5, ha6⟩ := hmath a l (by omega)
      obtain ⟨rb, yb, hb1, hb2, hb3, hb4, hb5, hb6⟩ := hmath b n (by omega)
      rw [hn] at hE hln hpos
      obtain ⟨bb0, off, pv, rfl, hcell, HV, hwv⟩ := hE.at_ hb6
      have hpv : DivI h i pv := by rw [← HV.out]; exact HD _ (getD_mem (by omega))
      obtain ⟨pt, rfl, q1, q2, q3, q4⟩ := hpv
      have HQ := Lib.hid q3
      have HQ2 := Lib.hid q4
      have HN := Lib.hid hn
      have hl0 : ¬ (l : Int) = 0 := by omega
      have hn0 : ¬ (n : Int) = 0 := by omega
      clear hE HD hmath q3 q4 hwv HO hcap2 hcap1 hsz hz hlt
      rw [hn] at *
      clear hn
      go_upto_region 7 with (fail)
      go_region
      go_wp2
      refine bodyPost_ret (v := cutv (1 + ya) pt) (by simp [results, Try.results19, go_sem, z0, z1]) rfl ⟨⟨1 + ya, pt, by push_cast; rfl, ⟨by omega, by omega, by omega, by have := HQ.out; exact_mod_cast this, by have := HQ2.out; exact_mod_cast this, ?_⟩, by omega, by omega⟩, ?_⟩
      · have := Int.mul_le_mul (show ((1 + ya : Nat) : Int) ≤ 3 by omega) (show (pt : Int) ≤ 8 by omega) (by omega) (by omega)
        omega
      · have hz := HZ.out
        repeat (first | refine Below.setCell ?_ (by simp) _ | refine Below.drew ?_)
        exact below_two HB.out hbel

end Go.Proofs.Ytledjabhbakdeaa
