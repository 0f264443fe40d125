import Derived.Test.YtdclfcfdadkmeaaDoorJ01
import Derived.Test.YtdclfcfdadkmeaaDoorJ02
import Derived.WalkSmall
import Derived.Deep.QuietTactic
import Derived.BigQuiet
/-
  Contract of Shares: for every total and every list of up to 1000 numbers it returns a new slice of the shares; what was in memory stays.
-/
namespace Go.Proofs.YtdclfcfdadkmeaaDoor
open Go.RowKit
set_option linter.unusedVariables false

/-- a weight: x, where it is above 0 -/
def pos (x : Int) : Int := if 0 < x then x else 0
/-- the weights' sum -/
def stot (xs : List Int) : Int := (xs.map pos).sum
/-- the share of x of the total t, where the weights' sum is S -/
def share (t S x : Int) : Int := if S = 0 ∨ t < 0 then 0 else pos x * t / S

theorem pos_bd (x : Int) (h : x ≤ 2147483647) : 0 ≤ pos x ∧ pos x ≤ 2147483647 := by unfold pos; split <;> omega
theorem stot_step (xs : List Int) (k : Nat) (hk : k < xs.length) : stot (xs.take (k + 1)) = stot (xs.take k) + pos (xs.getD k 0) := by
  unfold stot
  rw [List.take_add_one, List.map_append, List.sum_append]
  simp [List.getD, List.getElem?_eq_getElem hk]
theorem tot_bd (xs : List Int) (h : ∀ x ∈ xs, x ≤ 2147483647) : 0 ≤ stot xs ∧ stot xs ≤ xs.length * 2147483647 := by
  induction xs with
  | nil => simp [stot]
  | cons x xs ih =>
    have h1 := ih (fun y hy => h y (List.mem_cons_of_mem _ hy))
    have h2 := pos_bd x (h x List.mem_cons_self)
    have e : stot (x :: xs) = pos x + stot xs := by simp [stot]
    rw [e, List.length_cons]; push_cast; omega
theorem pos_le_tot (xs : List Int) (h : ∀ x ∈ xs, x ≤ 2147483647) : ∀ x ∈ xs, pos x ≤ stot xs := by
  induction xs with
  | nil => simp
  | cons y ys ih =>
    intro x hx
    have h1 := tot_bd ys (fun z hz => h z (List.mem_cons_of_mem _ hz))
    have h2 := pos_bd y (h y List.mem_cons_self)
    have e : stot (y :: ys) = pos y + stot ys := by simp [stot]
    rw [e]
    rcases List.mem_cons.1 hx with rfl | hm
    · omega
    · have := ih (fun z hz => h z (List.mem_cons_of_mem _ hz)) x hm; omega

/-- one share, in its bounds -/
theorem share_bd {t S p : Int} (hS : 0 < S) (ht : 0 ≤ t) (ht2 : t ≤ 2147483647) (hp : 0 ≤ p) (hp2 : p ≤ 2147483647) (hpS : p ≤ S) :
    0 ≤ p * t ∧ p * t ≤ 4611686014132420609 ∧ 0 ≤ p * t / S ∧ p * t / S ≤ t := by
  have h1 : 0 ≤ p * t := Int.mul_nonneg hp ht
  have h2 : p * t ≤ 2147483647 * 2147483647 := Int.mul_le_mul hp2 ht2 ht (by decide)
  have h3 : p * t ≤ S * t := Int.mul_le_mul_of_nonneg_right hpS ht
  refine ⟨h1, by omega, Int.ediv_nonneg h1 (by omega), ?_⟩
  have h4 : p * t / S ≤ S * t / S := Int.ediv_le_ediv hS h3
  rwa [Int.mul_ediv_cancel_left _ (by omega)] at h4

theorem share_wf {t : Int} {xs : List Int} (hx : ∀ x ∈ xs, x ≤ 2147483647) (ht2 : t ≤ 2147483647) : ∀ c ∈ xs.map (share t (stot xs)), (Lit.int .i32 c).wf = true := by
  intro c hc
  obtain ⟨x, hm, rfl⟩ := List.mem_map.1 hc
  have h1 := pos_bd x (hx x hm)
  have h2 := pos_le_tot xs hx x hm
  have h3 := tot_bd xs hx
  unfold share
  split
  · rfl
  · rename_i hne
    have h4 := share_bd (t := t) (S := stot xs) (p := pos x) (by omega) (by omega) ht2 h1.1 h1.2 h2
    exact WalkArith.wf_i32 ⟨by omega, by omega⟩

theorem zero_wf (n : Nat) : ∀ c ∈ List.replicate n (0 : Int), (Lit.int .i32 c).wf = true := by
  intro c hc; rw [List.eq_of_mem_replicate hc]; rfl

theorem zeros_share {t : Int} {xs : List Int} {n : Nat} (hl : xs.length = n) (h : stot xs = 0 ∨ t < 0) : List.replicate n 0 = xs.map (share t (stot xs)) := by
  apply List.ext_getElem (by simp [hl])
  intro i h1 h2
  simp [share, h]

set_option maxHeartbeats 800000 in
theorem shares_at (t : Int) (a : Option Addr) (n cap : Nat) (xs : List Int) (w : World) (h : Elems .i32 w a n xs) (hn : n ≤ 1000) (ht1 : -2147483648 ≤ t) (ht2 : t ≤ 2147483647) :
    Calls Tryd.prog 100 #[.int .i32 t, .slice a n cap] w fun e w' => e = .returned (.slice (some ⟨w.heap.size, 0, none⟩) n n) ∧ Elems .i32 w' (some ⟨w.heap.size, 0, none⟩) n (xs.map (share t (stot xs))) ∧ Below w.heap.size w w' := by
  have hmk := run_make_row' (P := Tryd.prog) 39 21 (.int .i32 0) 4 Tryd.underlying39 info_int32 rfl .i64 .i64 n (by omega) (by omega)
  have hx : ∀ x ∈ xs, x ≤ 2147483647 := fun x hm => (wf32 (h.2.2.1 x hm)).2
  have hT := tot_bd xs hx
  have hlen := h.1
  rw [hlen] at hT
  have HX := Lib.hid hx
  have HL := Lib.hid hlen
  clear hlen
  go_enter Tryd.func100, Tryd.ntmps100
  go_wp2
  go_loop [6, 16] (fun s i => ∃ (k : Nat) (q : Int), k ≤ n ∧ i = .int .i64 k ∧ s = .int .i64 q ∧ Hid (q = stot (xs.take k)) ∧ 0 ≤ q ∧ q ≤ k * 2147483647) (fun _ i => n - (intOf i).toNat)
  case atStart => exact ⟨0, 0, by omega, rfl, rfl, Lib.hid (by simp [stot]), by omega, by omega⟩
  case round =>
    obtain ⟨k, q, hk, rfl, rfl, hq, q0, q1⟩ := hrel
    have hE := h.below ((Below.refl _ w).alloc (Nat.le_refl _) (Obj.cells (madeCells #[Value.int .i32 0] n) 21))
    by_cases hlt : k < n
    · obtain ⟨b, off, v, rfl, hc, hv, wv⟩ := hE.at_ hlt
      obtain ⟨v1, v2⟩ := wf32 wv
      have hst : Hid (q + pos v = stot (xs.take (k + 1))) := Lib.hid (by rw [stot_step xs k (by rw [HL.out]; exact hlt), hq.out, hv.out])
      clear hE h hx hT hv wv hq
      by_cases hp : 0 < v
      · have e : pos v = v := by unfold pos; rw [if_pos hp]
        rw [e] at hst
        clear e
        go_wp2
        go_round
        case rel => exact ⟨k + 1, q + v, by omega, by go_num, rfl, hst, by omega, by push_cast; omega⟩
        case measure => simp [intOf]; omega
      · have e : pos v = 0 := by unfold pos; rw [if_neg hp]
        rw [e] at hst
        clear e
        go_wp2
        go_round
        case rel => exact ⟨k + 1, q, by omega, by go_num, by go_num, Lib.hid (by have := hst.out; omega), by omega, by push_cast; omega⟩
        case measure => simp [intOf]; omega
    · obtain rfl : k = n := by omega
      obtain rfl : q = stot xs := by rw [hq.out, List.take_of_length_le (by rw [HL.out]; omega)]
      have hzero : (stot xs = 0 ∨ t < 0) → Elems .i32 (w.alloc (Obj.cells (madeCells #[Value.int .i32 0] k) 21)) (some ⟨w.heap.size, 0, none⟩) k (xs.map (share t (stot xs))) := by
        intro hz
        have hown := World.ownsRow_lit (e := 21) (size := 1) w (madeCells #[Value.int IntKind.i32 0] k) k (Nat.le_refl _) (by unfold maxLen; omega) (by rw [size_madeCells, Nat.mul_one])
        have e := made_zeros .i32 k
        rw [Nat.mul_one] at e
        rw [← zeros_share HL.out hz]
        rw [show (madeCells #[Value.int IntKind.i32 0] k).toList = (List.replicate k 0).map (Value.int .i32) from e] at hown
        exact own_elems hown (by omega) (zero_wf k)
      have HZ := Lib.hid hzero
      clear hzero hx hq q1 hE
      by_cases c0 : stot xs = 0
      · have HC := Lib.hid c0
        have c0' : (stot xs == 0) = true := by simpa using c0
        clear c0 h hT
        go_wp2
        go_ret
        exact ⟨rfl, HZ.out (.inl HC.out), (Below.refl _ _).alloc (Nat.le_refl _) _⟩
      · have c0' : (stot xs == 0) = false := by simpa using c0
        by_cases c1 : t < 0
        · clear h hT c0
          go_wp2
          go_ret
          exact ⟨rfl, HZ.out (.inr c1), (Below.refl _ _).alloc (Nat.le_refl _) _⟩
        · have hS : 0 < stot xs := by omega
          obtain ⟨S, hSe⟩ : ∃ S, stot xs = S := ⟨_, rfl⟩
          rw [hSe] at hS c0' hT c0 ⊢
          have HS := Lib.hid hSe
          clear HZ hSe c0
          go_wp2
          go_loopw [35] (fun i wr => ∃ (j : Nat) (cs : List Int), j ≤ k ∧ i = .int .i64 j ∧ wr.ownsRow w.heap.size 21 1 (.slice (some ⟨w.heap.size, 0, none⟩) k k) k (cs.map (.int .i32)) ∧ Below w.heap.size w wr ∧ Hid (FilledBy (fun i => share t S (xs.getD i 0)) k j cs)) (fun i _ => k - (intOf i).toNat)
          case atStart =>
            have hown := World.ownsRow_lit (e := 21) (size := 1) w (madeCells #[Value.int IntKind.i32 0] k) k (Nat.le_refl _) (by unfold maxLen; omega) (by rw [size_madeCells, Nat.mul_one])
            refine ⟨0, List.replicate k 0, by omega, rfl, ?_, (Below.refl _ _).alloc (Nat.le_refl _) _, Lib.hid (filledBy_start _ k)⟩
            rw [← made_zeros .i32 k, Nat.mul_one]
            exact hown
          case round =>
            obtain ⟨j, cs, hj, rfl, hown, hbel, hfil⟩ := hrel
            by_cases hlt2 : j < k
            · have hE := h.below hbel
              obtain ⟨b, off, v, rfl, hc, hv, wv⟩ := hE.at_ hlt2
              obtain ⟨v1, v2⟩ := wf32 wv
              have hp1 := pos_bd v v2
              have hpS : pos v ≤ S := by
                rw [← HS.out]; refine pos_le_tot xs HX.out v ?_
                rw [← hv.out]; exact getD_mem (by rw [HL.out]; exact hlt2)
              obtain ⟨b0, b1, b2, b3⟩ := share_bd (t := t) (S := S) (p := pos v) hS (by omega) ht2 hp1.1 hp1.2 hpS
              have hsh : share t S v = pos v * t / S := by unfold share; rw [if_neg (by omega)]
              have hf := hown.frozenAt j
              have hold : wr.cell? ⟨w.heap.size, j, none⟩ = some (.int .i32 (cs.getD j 0)) := by
                have hl := hfil.out.1
                rw [hown.cellAt j (by omega), List.getElem?_map, List.getD_eq_getElem?_getD, List.getElem?_eq_getElem (by omega)]; rfl
              obtain ⟨c, hcc⟩ : ∃ c, cs.getD j 0 = c := ⟨_, rfl⟩
              rw [hcc] at hold
              have hnew := (hown.stored j (.int .i32 (share t S v))).1
              have hbel' := hbel.setCell (p := ⟨w.heap.size, j, none⟩) (Nat.le_refl _) (.int .i32 (share t S v))
              have hfil' : Hid (FilledBy (fun i => share t S (xs.getD i 0)) k (j + 1) (cs.set j (share t S v))) := Lib.hid (by have := filledBy_step hfil.out hlt2; rwa [hv.out] at this)
              rw [← List.map_set] at hnew
              rw [hsh] at hnew hbel' hfil'
              have hz : (S == 0) = false := by simp; omega
              clear hcc hv hfil hE h hown hbel hsh hT
              by_cases hp : 0 < v
              · have e : pos v = v := by unfold pos; rw [if_pos hp]
                rw [e] at b0 b1 b2 b3 hnew hbel' hfil'
                clear e hp1 hpS
                go_wp2
                go_roundw
                case rel => exact ⟨j + 1, _, by omega, by go_num, hnew, hbel', hfil'⟩
                case measure => simp [intOf]; omega
              · have e : pos v = 0 := by unfold pos; rw [if_neg hp]
                rw [e, Int.zero_mul, Int.zero_ediv] at hnew hbel' hfil'
                clear e hp1 hpS b0 b1 b2 b3
                have hm : (if v < 0 then (0 : Int) else v) = 0 := by split <;> omega
                go_wp2
                go_roundw
                case rel => exact ⟨j + 1, _, by omega, by go_num, hnew, hbel', hfil'⟩
                case measure => simp [intOf]; omega
            · obtain rfl : j = k := by omega
              have hwf := share_wf (t := t) HX.out ht2
              rw [HS.out] at hwf
              have he := filledBy_end (g := share t S) hfil.out HL.out (fun i _ => rfl)
              have HW := Lib.hid hwf
              have HE := Lib.hid he
              clear h hwf he hT
              go_wp2
              go_ret
              exact ⟨rfl, by rw [HS.out, ← HE.out]; exact own_elems hown (by omega) (by rw [HE.out]; exact HW.out), hbel⟩

theorem shares (t : Int) (a : Option Addr) (n cap : Nat) (xs : List Int) (w : World) (h : Elems .i32 w a n xs) (hn : n ≤ 1000) (ht1 : -2147483648 ≤ t) (ht2 : t ≤ 2147483647) :
    Calls Tryd.prog 100 #[.int .i32 t, .slice a n cap] w fun e w' => ∃ g, e = .returned (.slice (some ⟨g, 0, none⟩) n n) ∧ Elems .i32 w' (some ⟨g, 0, none⟩) n (xs.map (share t (stot xs))) ∧ Below w.heap.size w w' :=
  (shares_at t a n cap xs w h hn ht1 ht2).mono fun e w' h => ⟨_, h⟩

end Go.Proofs.YtdclfcfdadkmeaaDoor

/-
  Contracts of Argmax and of the document's Argmax: for every list of numbers each returns the first place of a greatest one, -1 of none; they read memory alone.
-/
namespace Go.Proofs.YtdclfcfdadkmeaaDoor
open Go.RowKit
set_option linter.unusedVariables false

/-- b is the first place of a greatest one among the first k numbers, -1 of none -/
def Best (xs : List Int) (k : Nat) (b : Int) : Prop :=
  (k = 0 ∧ b = -1) ∨ ∃ j : Nat, b = j ∧ j < k ∧ (∀ i, i < k → xs.getD i 0 ≤ xs.getD j 0) ∧ ∀ i, i < j → xs.getD i 0 < xs.getD j 0

theorem best_uniq {xs : List Int} {k : Nat} {b c : Int} (h : Best xs k b) (h' : Best xs k c) : b = c := by
  rcases h with ⟨h0, rfl⟩ | ⟨j, rfl, hj, h1, h2⟩
  · rcases h' with ⟨_, rfl⟩ | ⟨j, _, hj, _⟩
    · rfl
    · omega
  · rcases h' with ⟨h0, _⟩ | ⟨i, rfl, hi, h3, h4⟩
    · omega
    · rcases Nat.lt_trichotomy i j with hlt | rfl | hgt
      · have := h2 i hlt; have := h3 j hj; omega
      · rfl
      · have := h4 j hgt; have := h1 i hi; omega

theorem best_start (xs : List Int) : Best xs 0 (-1) := .inl ⟨rfl, rfl⟩
theorem best_first {xs : List Int} {b : Int} (h : Best xs 0 b) : Best xs 1 0 := by
  refine .inr ⟨0, rfl, by omega, fun i hi => ?_, fun i hi => by omega⟩
  obtain rfl : i = 0 := by omega
  exact Int.le_refl _
theorem best_new {xs : List Int} {k j : Nat} (h : Best xs k j) (hlt : xs.getD j 0 < xs.getD k 0) : Best xs (k + 1) k := by
  rcases h with ⟨_, h0⟩ | ⟨j', he, hj, h1, h2⟩
  · omega
  · obtain rfl : j' = j := by omega
    refine .inr ⟨k, rfl, by omega, fun i hi => ?_, fun i hi => ?_⟩
    · rcases Nat.lt_or_ge i k with h | h
      · have := h1 i h; omega
      · obtain rfl : i = k := by omega
        exact Int.le_refl _
    · have := h1 i hi; omega
theorem best_old {xs : List Int} {k j : Nat} (h : Best xs k j) (hle : ¬ xs.getD j 0 < xs.getD k 0) : Best xs (k + 1) j := by
  rcases h with ⟨_, h0⟩ | ⟨j', he, hj, h1, h2⟩
  · omega
  · obtain rfl : j' = j := by omega
    refine .inr ⟨j', rfl, by omega, fun i hi => ?_, h2⟩
    rcases Nat.lt_or_ge i k with h | h
    · exact h1 i h
    · obtain rfl : i = k := by omega
      omega
theorem best_is {xs : List Int} {k : Nat} {b : Int} (h : Best xs k b) (hk : k ≠ 0) : ∃ j : Nat, b = j ∧ j < k := by
  rcases h with ⟨h0, _⟩ | ⟨j, he, hj, _⟩
  · exact absurd h0 hk
  · exact ⟨j, he, hj⟩
theorem best_exists (xs : List Int) (k : Nat) : ∃ b, Best xs k b := by
  induction k with
  | zero => exact ⟨-1, best_start xs⟩
  | succ k ih =>
    obtain ⟨b, hb⟩ := ih
    by_cases h0 : k = 0
    · subst h0; exact ⟨0, best_first hb⟩
    · obtain ⟨j, rfl, hj⟩ := best_is hb h0
      by_cases hlt : xs.getD j 0 < xs.getD k 0
      · exact ⟨k, best_new hb hlt⟩
      · exact ⟨j, best_old hb hlt⟩

set_option maxHeartbeats 400000 in
theorem argmax (a : Option Addr) (n cap : Nat) (xs : List Int) (w : World) (h : Elems .i32 w a n xs) (B : Int) (hB : Best xs n B) :
    Calls Tryd.prog 56 #[.slice a n cap] w fun e w' => e = .returned (.int .i64 B) ∧ w = w' := by
  have hn := h.2.1
  have HB := Lib.hid hB
  clear hB
  go_enter Tryd.func56, Tryd.ntmps56
  go_wp2
  go_loop [3, 8] (fun s i => ∃ (k : Nat) (b : Int), k ≤ n ∧ i = .int .i64 k ∧ s = .int .i64 b ∧ Hid (Best xs k b)) (fun _ i => n - (intOf i).toNat)
  case atStart => exact ⟨0, -1, by omega, rfl, rfl, Lib.hid (best_start xs)⟩
  case round =>
    obtain ⟨k, b, hk, rfl, rfl, hb⟩ := hrel
    by_cases hlt : k < n
    · by_cases h0 : k = 0
      · obtain ⟨g, off, v, rfl, hc, hv, wv⟩ := h.at_ hlt
        subst h0
        rw [Nat.add_zero] at hc
        have T := Lib.hid (best_first hb.out)
        obtain rfl : b = -1 := best_uniq hb.out (best_start xs)
        clear hv wv h hb
        go_wp2
        go_round
        case rel => exact ⟨1, 0, by omega, rfl, rfl, T⟩
        case measure => simp [intOf]; omega
      · obtain ⟨j, rfl, hj⟩ := best_is hb.out h0
        obtain ⟨g, off, v, rfl, hc, hv, wv⟩ := h.at_ hlt
        obtain ⟨g', off', u, he, hc', hu, wu⟩ := h.at_ (i := j) (by omega)
        simp only [Option.some.injEq, Addr.mk.injEq] at he
        obtain ⟨rfl, rfl, _⟩ := he
        by_cases hgt : u < v
        · have T := Lib.hid (best_new hb.out (by rw [hu.out, hv.out]; exact hgt))
          clear hv wv h hb hu wu
          go_wp2
          go_round
          case rel => exact ⟨k + 1, k, by omega, by go_num, rfl, T⟩
          case measure => simp [intOf]; omega
        · have T := Lib.hid (best_old hb.out (by rw [hu.out, hv.out]; exact hgt))
          clear hv wv h hb hu wu
          go_wp2
          go_round
          case rel => exact ⟨k + 1, j, by omega, by go_num, rfl, T⟩
          case measure => simp [intOf]; omega
    · obtain rfl : k = n := by omega
      clear h
      go_wp2
      go_ret
      exact ⟨ret_int (best_uniq hb.out HB.out), rfl⟩

end Go.Proofs.YtdclfcfdadkmeaaDoor

/-
  Plain mathematics of shifting down to the nearest: never farther than half a step, exact at a multiple, odd, and it keeps orders.
-/
namespace Go.Proofs.YtdclfcfdadkmeaaDoor
open Go.RowKit
set_option linter.unusedVariables false

theorem half_dist (x D : Int) (hD : 1 ≤ D) : -D ≤ 2 * (half x D * D - x) ∧ 2 * (half x D * D - x) ≤ D := by
  have h := Int.emod_add_mul_ediv x D
  have h0 := Int.emod_nonneg x (b := D) (by omega)
  have h1 := Int.emod_lt_of_pos x (b := D) (by omega)
  unfold half
  split
  · rw [Int.add_mul, Int.mul_comm (x / D) D]; omega
  · rw [Int.mul_comm (x / D) D]; omega

theorem half_mul (x D : Int) (hD : 1 ≤ D) : half (x * D) D = x := by
  unfold half
  rw [Int.mul_emod_left, Int.mul_ediv_cancel _ (by omega), if_neg (by omega)]

theorem neg_divmod (x D : Int) (hD : 1 ≤ D) :
    (x % D = 0 → (-x) / D = -(x / D) ∧ (-x) % D = 0) ∧ (x % D ≠ 0 → (-x) / D = -(x / D) - 1 ∧ (-x) % D = D - x % D) := by
  have h := Int.emod_add_mul_ediv x D
  have h0 := Int.emod_nonneg x (b := D) (by omega)
  have h1 := Int.emod_lt_of_pos x (b := D) (by omega)
  constructor
  · intro hr
    refine (Int.ediv_emod_unique (by omega)).mpr ⟨?_, by omega, by omega⟩
    rw [Int.mul_neg]; omega
  · intro hr
    refine (Int.ediv_emod_unique (by omega)).mpr ⟨?_, by omega, by omega⟩
    rw [Int.mul_sub, Int.mul_neg]; omega

theorem half_neg (x D : Int) (hD : 1 ≤ D) : half (-x) D = -half x D := by
  have h0 := Int.emod_nonneg x (b := D) (by omega)
  have h1 := Int.emod_lt_of_pos x (b := D) (by omega)
  obtain ⟨n1, n2⟩ := neg_divmod x D hD
  unfold half
  by_cases hr : x % D = 0
  · obtain ⟨e1, e2⟩ := n1 hr
    rw [e1, e2, hr, if_neg (by omega), if_neg (by omega)]
  · obtain ⟨e1, e2⟩ := n2 hr
    rw [e1, e2]
    by_cases c1 : D - x % D < x % D
    · rw [if_neg (by omega), if_pos (by omega)]; omega
    · by_cases c2 : x % D = D - x % D
      · by_cases c3 : x / D % 2 = 1
        · rw [if_neg (by omega), if_pos (by omega)]; omega
        · rw [if_pos (by omega), if_neg (by omega)]; omega
      · rw [if_pos (by omega), if_neg (by omega)]; omega

theorem half_mono (x y D : Int) (hD : 1 ≤ D) (h : x ≤ y) : half x D ≤ half y D := by
  have hx := Int.emod_add_mul_ediv x D
  have hy := Int.emod_add_mul_ediv y D
  have hq : x / D ≤ y / D := Int.ediv_le_ediv (by omega) h
  unfold half
  rcases Int.lt_or_eq_of_le hq with hlt | heq
  · split <;> split <;> omega
  · rw [heq] at hx
    rw [heq]
    have hr : x % D ≤ y % D := by omega
    split <;> split <;> omega

theorem half_bounds (x D B : Int) (hD : 1 ≤ D) (hB : 0 ≤ B) (h1 : -B ≤ x) (h2 : x ≤ B) : -B ≤ half x D ∧ half x D ≤ B := by
  have e1 : half B D ≤ B := by
    have hd := half_dist B D hD
    by_cases hc : half B D ≤ B
    · exact hc
    · have g1 : (B + 1) * D ≤ half B D * D := Int.mul_le_mul_of_nonneg_right (by omega) (by omega)
      have g2 : (2 * B + 1) * 1 ≤ (2 * B + 1) * D := Int.mul_le_mul_of_nonneg_left hD (by omega)
      rw [Int.add_mul] at g1
      rw [Int.add_mul (2 * B) 1 D, Int.mul_assoc 2 B D] at g2
      omega
  have m1 := half_mono x B D hD h2
  have m2 := half_mono (-B) x D hD h1
  rw [half_neg B D hD] at m2
  omega

/-! ### of n, brought to 0 .. 62 -/
theorem near_62 (n : Int) : 0 ≤ near n 0 62 ∧ near n 0 62 ≤ 62 := near_in n 0 62 (by decide)

theorem shr_mono (x y n : Int) (h : x ≤ y) : shr x n ≤ shr y n := by
  unfold shr
  split
  · exact h
  · exact half_mono x y _ (pow_bounds _ (near_62 n).1 (near_62 n).2).1 h

theorem near_mono (x y lo hi : Int) (h : x ≤ y) (hl : lo ≤ hi) : near x lo hi ≤ near y lo hi := by
  unfold near; split <;> split <;> (try split) <;> (try split) <;> omega

theorem near_same (x lo hi : Int) (h1 : lo ≤ x) (h2 : x ≤ hi) : near x lo hi = x := by
  unfold near; rw [if_neg (by omega), if_neg (by omega)]

/-- at k from 0 to 30, a step being 2^k -/
theorem shr_at (x k : Int) (h0 : 0 ≤ k) (h1 : k ≤ 62) : shr x k = if k = 0 then x else half x (2 ^ k.toNat) := by
  unfold shr; rw [near_same k 0 62 h0 h1]

theorem shr_dist (x k : Int) (h0 : 0 ≤ k) (h1 : k ≤ 62) : -(2 ^ k.toNat) ≤ 2 * (shr x k * 2 ^ k.toNat - x) ∧ 2 * (shr x k * 2 ^ k.toNat - x) ≤ 2 ^ k.toNat := by
  rw [shr_at x k h0 h1]
  split
  · rename_i hk; subst hk; simp
  · exact half_dist x _ (pow_bounds k h0 h1).1

theorem shr_mul (x k : Int) (h0 : 0 ≤ k) (h1 : k ≤ 62) : shr (x * 2 ^ k.toNat) k = x := by
  rw [shr_at _ k h0 h1]
  split
  · rename_i hk; subst hk; simp
  · exact half_mul x _ (pow_bounds k h0 h1).1

theorem shr_neg (x k : Int) (h0 : 0 ≤ k) (h1 : k ≤ 62) : shr (-x) k = -shr x k := by
  rw [shr_at _ k h0 h1, shr_at _ k h0 h1]
  split
  · rfl
  · exact half_neg x _ (pow_bounds k h0 h1).1

theorem shr_bounds (x k B : Int) (h0 : 0 ≤ k) (h1 : k ≤ 62) (hB : 0 ≤ B) (b1 : -B ≤ x) (b2 : x ≤ B) : -B ≤ shr x k ∧ shr x k ≤ B := by
  rw [shr_at _ k h0 h1]
  split
  · exact ⟨b1, b2⟩
  · exact half_bounds x _ B (pow_bounds k h0 h1).1 hB b1 b2

theorem pow30 (k : Int) (h0 : 0 ≤ k) (h : k ≤ 30) : (1 : Int) ≤ 2 ^ k.toNat ∧ (2 : Int) ^ k.toNat ≤ 1073741824 := by
  refine ⟨(pow_bounds k h0 (by omega)).1, ?_⟩
  have hk : k.toNat ≤ 30 := by omega
  generalize k.toNat = j at hk
  have h1 : (2 : Nat) ^ j ≤ 2 ^ 30 := Nat.pow_le_pow_right (by decide) hk
  have h2 : ((2 : Int) ^ j) = ((2 ^ j : Nat) : Int) := by simp
  have h3 : (2 : Nat) ^ 30 = 1073741824 := by decide
  rw [h2]; omega

/-- a rest by 31, brought above 0, as Go reckons it -/
theorem rest31 (n : Int) : -30 ≤ n.tmod 31 ∧ n.tmod 31 ≤ 30 := by
  rcases Int.le_total 0 n with h | h
  · have := Int.tmod_eq_emod_of_nonneg (b := 31) h; omega
  · have h1 := Int.neg_tmod n 31
    have h2 := Int.tmod_eq_emod_of_nonneg (a := -n) (b := 31) (by omega)
    omega

end Go.Proofs.YtdclfcfdadkmeaaDoor

/-
  Contract of Softmax: weights of a row, in new memory; nothing else turns. The greatest number of a row.
-/
namespace Go.Proofs.YtdclfcfdadkmeaaDoor
open Go.RowKit
set_option linter.unusedVariables false

theorem shr_any (x n B : Int) (hB : 0 ≤ B) (b1 : -B ≤ x) (b2 : x ≤ B) : -B ≤ shr x n ∧ shr x n ≤ B := by
  unfold shr
  split
  · exact ⟨b1, b2⟩
  · obtain ⟨n1, n2⟩ := near_62 n
    exact half_bounds x _ B (pow_bounds _ n1 n2).1 hB b1 b2

/-- m is the greatest number of the row -/
def IsTop (xs : List Int) (m : Int) : Prop := m ∈ xs ∧ ∀ x ∈ xs, x ≤ m
theorem IsTop.unique {xs : List Int} {m k : Int} (h : IsTop xs m) (g : IsTop xs k) : m = k := by
  have := h.2 k g.1; have := g.2 m h.1; omega
theorem top_best {xs : List Int} {n j : Nat} (hl : xs.length = n) (h : Best xs n (j : Int)) : j < n ∧ IsTop xs (xs.getD j 0) := by
  rcases h with ⟨_, h0⟩ | ⟨i, he, hi, h1, _⟩
  · omega
  · obtain rfl : i = j := by omega
    refine ⟨hi, getD_mem (by omega), fun x hx => ?_⟩
    obtain ⟨k, hk, rfl⟩ := List.getElem_of_mem hx
    have := h1 k (by omega)
    simpa [List.getD, hk] using this

theorem top_ex {xs : List Int} {n : Nat} (hl : xs.length = n) (h0 : 0 < n) : ∃ m, IsTop xs m := by
  obtain ⟨B, hB⟩ := best_exists xs n
  obtain ⟨j, rfl, hj⟩ := best_is hB (by omega)
  exact ⟨_, (top_best hl hB).2⟩

/-- what E is asked at -/
def dif (b n m x : Int) : Int := shr ((x - m) * b) n
theorem dif_bd (b n m x : Int) (b1 : -2147483648 ≤ b) (b2 : b ≤ 2147483647) (m1 : -2147483648 ≤ m) (m2 : m ≤ 2147483647) (x1 : -2147483648 ≤ x) (x2 : x ≤ 2147483647) :
    -4294967295 ≤ x - m ∧ x - m ≤ 4294967295 ∧ -9223372034707292160 ≤ (x - m) * b ∧ (x - m) * b ≤ 9223372034707292160 ∧ -9223372034707292160 ≤ dif b n m x ∧ dif b n m x ≤ 9223372034707292160 := by
  have h1 : ((x - m) * b).natAbs ≤ 4294967295 * 2147483648 := by rw [Int.natAbs_mul]; exact Nat.mul_le_mul (by omega) (by omega)
  have h2 := shr_any ((x - m) * b) n 9223372034707292160 (by decide) (by omega) (by omega)
  unfold dif
  omega
/-- the powers, and the weights -/
def pows (b n m : Int) (xs : List Int) : List Int := xs.map fun x => E (dif b n m x)
def soft (b n m : Int) (xs : List Int) : List Int := (pows b n m xs).map (share 65536 (stot (pows b n m xs)))
theorem pows_le (b n m : Int) (xs : List Int) : ∀ p ∈ pows b n m xs, p ≤ 2147483647 := by
  intro p hp
  obtain ⟨x, _, rfl⟩ := List.mem_map.1 hp
  have := E_bd (dif b n m x); omega
theorem soft_wf (b n m : Int) (xs : List Int) : ∀ p ∈ soft b n m xs, (Lit.int .i32 p).wf = true := share_wf (pows_le b n m xs) (by decide)

theorem softmax_none (b n : Int) (a : Option Addr) (cap : Nat) (w : World) :
    Calls Tryd.prog 85 #[.int .i32 b, .int .i64 n, .slice a 0 cap] w fun e w' => e = .returned (.slice none 0 0) ∧ w = w' := by
  go_enter Tryd.func85, Tryd.ntmps85
  go_wp2
  go_ret
  exact ⟨rfl, rfl⟩

set_option maxHeartbeats 1000000 in
theorem softmax_some (b s m : Int) (a : Option Addr) (n cap : Nat) (xs : List Int) (w : World) (h : Elems .i32 w a n xs) (h0 : 0 < n) (hn : n ≤ 1000) (b1 : -2147483648 ≤ b) (b2 : b ≤ 2147483647) (hm : IsTop xs m) (hT : Tab w) :
    Calls Tryd.prog 85 #[.int .i32 b, .int .i64 s, .slice a n cap] w fun e w' => (∃ g, e = .returned (.slice (some ⟨g, 0, none⟩) n n) ∧ Elems .i32 w' (some ⟨g, 0, none⟩) n (soft b s m xs)) ∧ Below w.heap.size w w' := by
  have hmk := run_make_row' (P := Tryd.prog) 177 2 (.int .i64 0) 8 Tryd.underlying177 info_int64 rfl .i64 .i64 n (by omega) (by omega)
  have HL := Lib.hid h.1
  have hz : ((n : Int) == 0) = false := by simp; omega
  obtain ⟨B, hB⟩ := best_exists xs n
  obtain ⟨j, rfl, hj⟩ := best_is hB (by omega)
  obtain ⟨_, htop⟩ := top_best HL.out hB
  have hmx := hm.unique htop
  have harg := argmax a n cap xs w h j hB
  obtain ⟨bb, off, mm, rfl, hc, hv, wv⟩ := h.at_ hj
  obtain rfl : mm = m := by rw [hmx]; exact hv.out.symm
  obtain ⟨m1, m2⟩ := wf32 wv
  clear hmx htop hm hB hv wv
  go_enter Tryd.func85, Tryd.ntmps85
  go_wp2_with fail
  refine harg.mono ?_
  rintro e w' ⟨rfl, rfl⟩
  clear harg hz
  go_wp2
  go_loopw [25] (fun i wr => ∃ (k : Nat) (cs : List Int), k ≤ n ∧ i = .int .i64 k ∧ MineK .i64 wr w.heap.size 2 cs ∧ Below w.heap.size w wr ∧ Hid (FilledBy (fun i => dif b s mm (xs.getD i 0)) n k cs)) (fun i _ => n - (intOf i).toNat)
  case atStart => exact ⟨0, List.replicate n 0, by omega, rfl, mine_made .i64 w 2 n rfl, (Below.refl _ _).alloc (Nat.le_refl _) _, Lib.hid (filledBy_start _ n)⟩
  case round =>
    clear hc
    obtain ⟨k, cs, hk, rfl, hmine, hbel, hfil⟩ := hrel
    by_cases hlt : k < n
    · obtain ⟨b', off', v, he, hc, hv, wv⟩ := (h.below hbel).at_ hlt
      cases he
      obtain ⟨v1, v2⟩ := wf32 wv
      have hl := hfil.out.1
      have hold := hmine.cell (k := k) (by omega)
      have hf := hmine.frozen k
      have hfil' : Hid (FilledBy (fun i => dif b s mm (xs.getD i 0)) n (k + 1) (cs.set k (dif b s mm v))) := Lib.hid (by have := filledBy_step hfil.out hlt; simp only [hv.out] at this; exact this)
      have hnew := hmine.set k (dif b s mm v)
      have hbel' := hbel.setCell (p := ⟨w.heap.size, k, none⟩) (Nat.le_refl _) (.int .i64 (dif b s mm v))
      obtain ⟨d1, d2, p1, p2, p3, p4⟩ := dif_bd b s mm v b1 b2 m1 m2 v1 v2
      have hsh : ∀ w, Calls Tryd.prog 73 #[.int .i64 ((v - mm) * b), .int .i64 s] w fun e w' => e = .returned (.int .i64 (dif b s mm v)) ∧ w = w' := fun w => shift _ _ (by omega) (by omega) w
      generalize dif b s mm v = z at hfil' hnew hbel' hsh p3 p4
      generalize cs.getD k 0 = c at hold
      clear hv hl hfil hmine hbel hmk h hT
      go_wp2_with (go_at_call 73; (with_reducible refine (hsh _).mono ?_); rintro e w' ⟨rfl, rfl⟩)
      go_roundw
      case rel => exact ⟨k + 1, cs.set k z, by omega, by go_num, hnew, hbel', hfil'⟩
      case measure => simp [intOf]; omega
    · obtain rfl : k = n := by omega
      have he := filledBy_end (g := dif b s mm) hfil.out HL.out (fun i _ => rfl)
      have hwf : ∀ x ∈ cs, (Lit.int .i64 x).wf = true := by
        rw [he]
        intro c hc
        obtain ⟨x, hx, rfl⟩ := List.mem_map.1 hc
        have hxb := wf32 (h.2.2.1 x hx)
        have := dif_bd b s mm x b1 b2 m1 m2 hxb.1 hxb.2
        exact WalkArith.wf_i64 ⟨by omega, by omega⟩
      have hE := hmine.elems (n := k) hfil.out.1 (by omega) hwf
      have hex := exps (some ⟨w.heap.size, 0, none⟩) k k cs wr hE hn (hT.below hbel)
      have hp : cs.map E = pows b s mm xs := by rw [he]; unfold pows; rw [List.map_map]; rfl
      rw [hp] at hex
      have hso : (pows b s mm xs).map (share 65536 (stot (pows b s mm xs))) = soft b s mm xs := rfl
      have HSO := Lib.hid hso
      clear hfil he hwf hE hp hmine h hT hso
      go_wp2_with fail
      refine hex.mono ?_
      rintro e wb ⟨g, rfl, hE2, hb2⟩
      have hb3 := below_two hbel hb2
      clear hex hbel hb2
      go_wp2_with fail
      refine (shares 65536 _ k k (pows b s mm xs) wb hE2 hn (by decide) (by decide)).mono ?_
      rintro e wc ⟨g2, rfl, hE3, hb4⟩
      rw [HSO.out] at hE3
      have hb5 := below_two hb3 hb4
      clear hE2 hb3 hb4
      go_wp2
      go_ret
      exact ⟨⟨_, rfl, hE3⟩, hb5⟩

end Go.Proofs.YtdclfcfdadkmeaaDoor

/-
  Contracts of layer 5's sum of products in two parts: add lays a product, down is the sum shifted down and brought to 8 bits. A slice of such sums that was just made.
-/
namespace Go.Proofs.YtdclfcfdadkmeaaDoor
open Go.RowKit
set_option linter.unusedVariables false

/-- what a sum comes to -/
def mix1 (T : Int) : Int := near (shr T 16) (-128) 127
theorem mix1_wf (T : Int) : (Lit.int .i8 (mix1 T)).wf = true := WalkArith.wf_i8 (near_in _ _ _ (by decide))

theorem info_sum : (Tryd.prog.info? 174).map (fun i => (i.zero, i.size, i.bytes)) = some (some (.agg #[.int .i64 0, .int .i64 0]), 2, 16) := by kernel_rfl

theorem made_sums (n : Nat) : madeCells (Value.agg #[.int .i64 0, .int .i64 0]).cells (n * 2) = Array.replicate (2 * n) (Value.int .i64 0) := by
  apply Array.ext
  · simp [size_madeCells]; omega
  · intro i h1 h2
    simp [madeCells, Value.cells]
    rcases Nat.mod_two_eq_zero_or_one i with h | h <;> simp [h]

theorem run_make_sums (n : Nat) (hn : n ≤ 16777216) (w : World) : (Instr.makeSlice 172 (.int .i64 (n : Int)) (.int .i64 (n : Int))).run Tryd.prog w = .ok (.slice (some ⟨w.heap.size, 0, none⟩) n n) (w.alloc (.cells (Array.replicate (2 * n) (Value.int .i64 0)) 174)) := by
  obtain ⟨i, hi, hzz⟩ := Option.map_eq_some_iff.1 info_sum
  simp only [Prod.mk.injEq] at hzz
  obtain ⟨hz, hs, hb⟩ := hzz
  have hr := run_make (P := Tryd.prog) w 172 174 i _ Tryd.underlying172 hi hz .i64 .i64 n n (by omega) (Int.le_refl _) (by rw [hb]; omega) (by omega)
  simp only [Int.toNat_natCast, hs] at hr
  rw [hr, made_sums]

theorem mineK_noughts {kd : IntKind} {w : World} {T : TypeId} {n b : Nat} (hb : b = w.heap.size) : MineK kd (w.alloc (.cells (Array.replicate n (Value.int kd 0)) T)) b T (List.replicate n 0) := by
  subst hb
  have e : (Array.replicate n (Value.int kd 0)) = ((List.replicate n (0 : Int)).map (Value.int kd)).toArray := by simp
  unfold MineK
  rw [e]
  exact heap_alloc_new w _

set_option maxHeartbeats 400000 in
theorem sum_add (B o : Nat) (t hi lo : Int) (w : World) (c0 : w.cell? ⟨B, o, none⟩ = some (.int .i64 hi)) (c1 : w.cell? ⟨B, o + 1, none⟩ = some (.int .i64 lo)) (f0 : w.frozen? ⟨B, o, none⟩ = false) (f1 : w.frozen? ⟨B, o + 1, none⟩ = false)
    (t1 : -1099511627776 ≤ t) (t2 : t ≤ 1099511627776) (h1 : -1099511627776 ≤ hi) (h2 : hi ≤ 1099511627776) (l1 : 0 ≤ lo) (l2 : lo ≤ 1099511627776) :
    Calls Tryd.prog 98 #[.pointer (some ⟨B, o, none⟩), .int .i64 t] w fun e w' => e = .returned (.tuple #[]) ∧ w' = (w.setCell ⟨B, o, none⟩ (.int .i64 (hi + t / 65536))).setCell ⟨B, o + 1, none⟩ (.int .i64 (lo + t % 65536)) := by
  have hm : bits .and .i64 t 65535 = t % 65536 := by have := and_mask t 16 (by decide); simpa using this
  have c1' : ∀ v, (w.setCell ⟨B, o, none⟩ v).cell? ⟨B, o + 1, none⟩ = some (.int .i64 lo) := fun v => (World.cell?_setCell_other _ _ _ _ (by simp)).trans c1
  have f1' : ∀ v, (w.setCell ⟨B, o, none⟩ v).frozen? ⟨B, o + 1, none⟩ = false := fun v => (World.frozen?_setCell _ _ _ _).trans f1
  go_enter Tryd.func98, Tryd.ntmps98
  go_wp2
  exact bodyPost_end (v := .tuple #[]) (results_none rfl _ _ _) rfl ⟨rfl, rfl⟩

set_option maxHeartbeats 400000 in
theorem sum_down (B o : Nat) (hi lo : Int) (w : World) (c0 : w.cell? ⟨B, o, none⟩ = some (.int .i64 hi)) (c1 : w.cell? ⟨B, o + 1, none⟩ = some (.int .i64 lo))
    (h1 : -1073741824 ≤ hi) (h2 : hi ≤ 1073741824) (l1 : 0 ≤ lo) (l2 : lo ≤ 1099511627776) :
    Calls Tryd.prog 99 #[.pointer (some ⟨B, o, none⟩)] w fun e w' => e = .returned (.int .i8 (mix1 (hi * 65536 + lo))) ∧ ∃ d, w' = w.drewN d := by
  have hm : bits .and .i64 lo 65535 = lo % 65536 := by have := and_mask lo 16 (by decide); simpa using this
  have hsat : ∀ w, Calls Tryd.prog 104 #[.int .i64 (hi + lo / 65536)] w fun e w' => e = .returned (.int .i32 (hi + lo / 65536)) ∧ w' = w := fun w => (sat32 _ w).mono (by
    rintro e w' ⟨rfl, rfl⟩
    exact ⟨ret_int (near_same _ _ _ (by omega) (by omega)), rfl⟩)
  have hT : (hi + lo / 65536) * 65536 + lo % 65536 = hi * 65536 + lo := by omega
  have hsh : ∀ w, Calls Tryd.prog 73 #[.int .i64 ((hi + lo / 65536) * 65536 + lo % 65536), .int .i64 16] w fun e w' => e = .returned (.int .i64 (shr (hi * 65536 + lo) 16)) ∧ w = w' := fun w => by
    rw [hT]; exact shift _ _ (by omega) (by omega) w
  have hsa := fun w => sat8 (shr (hi * 65536 + lo) 16) w
  have hv : near (shr (hi * 65536 + lo) 16) (-128) 127 = mix1 (hi * 65536 + lo) := rfl
  rw [hv] at hsa
  generalize mix1 (hi * 65536 + lo) = z at hsa
  generalize shr (hi * 65536 + lo) 16 = s at hsh hsa
  have e1 : IntKind.i64.wrap (hi + lo / 65536) = hi + lo / 65536 := IntWalk.i64_in _ (by omega)
  clear hT hv
  go_enter Tryd.func99, Tryd.ntmps99
  go_wp2
  go_quiet (first | (go_at_call 104; refine Calls.quiet_of_same (hsat _)))
  clear e1
  go_wp2_with (first | (go_at_call 73; refine (hsh _).mono ?_; rintro e w' ⟨rfl, rfl⟩) | (go_at_call 72; refine (hsa _).mono ?_; rintro e w' ⟨rfl, rfl⟩))
  go_ret
  exact ⟨rfl, _, rfl⟩

end Go.Proofs.YtdclfcfdadkmeaaDoor

/-
  Contracts of sameWidth and Mix: rows, summed by weights, in new memory; or a refusal.
-/
namespace Go.Proofs.YtdclfcfdadkmeaaDoor
open Go.RowKit
set_option linter.unusedVariables false

/-- are the rows of one width? -/
def sameW (qs : List Rw) : Bool := qs.all fun q => decide (q.n = (qs.getD 0 default).n)

theorem same_width (a : Option Addr) (n cap : Nat) (qs : List Rw) (w : World) (h : Rws .i8 w a n qs) :
    Calls Tryd.prog 97 #[.slice a n cap] w fun e w' => e = .returned (.bool (sameW qs)) ∧ w = w' := by
  have HL := Lib.hid h.1
  have hn := h.2.1
  go_enter Tryd.func97, Tryd.ntmps97
  go_wp2
  go_loop [7] (fun i => ∃ (k : Nat), k ≤ n ∧ i = .int .i64 k ∧ Hid (∀ i, i < k → (qs.getD i default).n = (qs.getD 0 default).n)) (fun i => n - (intOf i).toNat)
  case atStart => exact ⟨0, by omega, rfl, Lib.hid (fun i hi => by omega)⟩
  case round =>
    obtain ⟨k, hk, rfl, hall⟩ := hrel
    by_cases hlt : k < n
    · obtain ⟨b, off, q, rfl, _, cq, hq, hin⟩ := h.at_ hlt
      obtain ⟨b2, off2, p, he, _, cp, hp, hin2⟩ := h.at_ (i := 0) (by omega)
      cases he
      obtain ⟨qa, qn, qcap, qv⟩ := q
      obtain ⟨pa, pn, pcap, pv⟩ := p
      have hq1 := hin.2.2.1
      have hp1 := hin2.2.2.1
      have hq2 := hin.2.1
      have hp2 := hin2.2.1
      simp only at cq cp hq1 hp1 hq2 hp2
      rw [Nat.add_zero] at cp
      by_cases hc : qn = pn
      · subst hc
        have hst : Hid (∀ i, i < k + 1 → (qs.getD i default).n = (qs.getD 0 default).n) := Lib.hid (fun i hi => by
          rcases Nat.lt_or_ge i k with h1 | h1
          · exact hall.out i h1
          · obtain rfl : i = k := by omega
            rw [hq.out, hp.out])
        clear h hq hp hin hin2 hall
        go_wp2
        go_round
        case rel => exact ⟨k + 1, by omega, by go_num, hst⟩
        case measure => simp [intOf]; omega
      · have hc' : ((qn : Int) != (pn : Int)) = true := by simp; omega
        have hno : sameW qs = false := by
          unfold sameW
          rw [List.all_eq_false]
          refine ⟨qs.getD k default, ?_, by rw [hq.out, hp.out]; simpa using hc⟩
          rw [List.getD_eq_getElem?_getD, List.getElem?_eq_getElem (by rw [HL.out]; exact hlt)]
          exact List.getElem_mem _
        have HN := Lib.hid hno
        clear h hq hp hin hin2 hall hc hno
        go_wp2
        go_ret
        exact ⟨ret_bool HN.out.symm, rfl⟩
    · have hyes : sameW qs = true := by
        unfold sameW
        rw [List.all_eq_true]
        intro q hq
        obtain ⟨i, hi, rfl⟩ := List.getElem_of_mem hq
        have := hall.out i (by have := HL.out; omega)
        rw [List.getD_eq_getElem?_getD, List.getElem?_eq_getElem hi] at this
        simpa using this
      have HY := Lib.hid hyes
      clear h hall hyes
      go_wp2
      go_ret
      exact ⟨ret_bool HY.out.symm, rfl⟩

theorem sameW_at {qs : List Rw} (h : sameW qs = true) {q : Rw} (hq : q ∈ qs) : q.n = (qs.getD 0 default).n := by
  unfold sameW at h
  simpa using List.all_eq_true.1 h q hq

/-- the sum at place p of the first k rows, by their weights -/
def msum (ws : List Int) (qs : List Rw) (k p : Nat) : Int := ((List.range k).map fun i => ws.getD i 0 * (qs.getD i default).v.getD p 0).sum
theorem msum_step (ws : List Int) (qs : List Rw) (k p : Nat) : msum ws qs (k + 1) p = msum ws qs k p + ws.getD k 0 * (qs.getD k default).v.getD p 0 := by
  unfold msum
  rw [List.range_succ, List.map_append, List.sum_append]; simp
def mixL (ws : List Int) (qs : List Rw) (n m : Nat) : List Int := (List.range m).map fun p => mix1 (msum ws qs n p)
theorem mixL_wf (ws : List Int) (qs : List Rw) (n m : Nat) : ∀ c ∈ mixL ws qs n m, (Lit.int .i8 c).wf = true := by
  intro c hc
  obtain ⟨i, _, rfl⟩ := List.mem_map.1 hc
  exact mix1_wf _

/-- what the loops keep: k rows are summed, and one more at the first j places -/
def SInv (ws : List Int) (qs : List Rw) (m k j : Nat) (cs : List Int) : Prop :=
  cs.length = 2 * m ∧ ∀ p, p < m → ∃ hi lo : Int, cs.getD (p * 2) 0 = hi ∧ cs.getD (p * 2 + 1) 0 = lo ∧ hi * 65536 + lo = msum ws qs (if p < j then k + 1 else k) p ∧ -(4194304 * (if p < j then k + 1 else k : Nat)) ≤ hi ∧ hi ≤ 4194304 * (if p < j then k + 1 else k : Nat) ∧ 0 ≤ lo ∧ lo ≤ 65535 * (if p < j then k + 1 else k : Nat)
theorem sinv_start (ws : List Int) (qs : List Rw) (m : Nat) : SInv ws qs m 0 0 (List.replicate (2 * m) 0) := by
  refine ⟨by simp, fun p hp => ⟨0, 0, ?_, ?_, by simp [msum], by simp, by simp, by simp, by simp⟩⟩
  · rw [List.getD_eq_getElem?_getD, List.getElem?_replicate]; split <;> rfl
  · rw [List.getD_eq_getElem?_getD, List.getElem?_replicate]; split <;> rfl
theorem sinv_row {ws : List Int} {qs : List Rw} {m k : Nat} {cs : List Int} (h : SInv ws qs m k m cs) : SInv ws qs m (k + 1) 0 cs := by
  refine ⟨h.1, fun p hp => ?_⟩
  obtain ⟨hi, lo, h1, h2, h3⟩ := h.2 p hp
  rw [if_pos hp] at h3
  refine ⟨hi, lo, h1, h2, ?_⟩
  rw [if_neg (by omega)]
  exact h3
theorem sinv_step {ws : List Int} {qs : List Rw} {m k j : Nat} {cs : List Int} {x wt hi lo : Int} (h : SInv ws qs m k j cs) (hj : j < m) (hx : (qs.getD k default).v.getD j 0 = x) (hw : ws.getD k 0 = wt)
    (e1 : cs.getD (j * 2) 0 = hi) (e2 : cs.getD (j * 2 + 1) 0 = lo) (hb1 : -274877906944 ≤ x * wt) (hb2 : x * wt ≤ 274877906944) :
    SInv ws qs m k (j + 1) ((cs.set (j * 2) (hi + x * wt / 65536)).set (j * 2 + 1) (lo + x * wt % 65536)) := by
  have hl := h.1
  refine ⟨by simpa using hl, fun p hp => ?_⟩
  obtain ⟨hi', lo', h1, h2, h3⟩ := h.2 p hp
  by_cases e : p = j
  · subst e
    obtain rfl : hi' = hi := by rw [← h1, e1]
    obtain rfl : lo' = lo := by rw [← h2, e2]
    rw [if_neg (by omega)] at h3
    obtain ⟨h3, h4, h5, h6, h7⟩ := h3
    refine ⟨hi' + x * wt / 65536, lo' + x * wt % 65536, ?_, ?_, ?_⟩
    · rw [List.getD_eq_getElem?_getD, List.getElem?_set_ne (by omega), List.getElem?_set_self (by omega)]; rfl
    · rw [List.getD_eq_getElem?_getD, List.getElem?_set_self (by simp; omega)]; rfl
    · rw [if_pos (by omega), msum_step, hx, hw, ← h3]
      have hc : wt * x = x * wt := Int.mul_comm _ _
      rw [hc]
      generalize x * wt = t at hb1 hb2 ⊢
      push_cast
      omega
  · refine ⟨hi', lo', ?_, ?_, ?_⟩
    · rw [List.getD_eq_getElem?_getD, List.getElem?_set_ne (by omega), List.getElem?_set_ne (by omega), ← List.getD_eq_getElem?_getD]; exact h1
    · rw [List.getD_eq_getElem?_getD, List.getElem?_set_ne (by omega), List.getElem?_set_ne (by omega), ← List.getD_eq_getElem?_getD]; exact h2
    · by_cases e2 : p < j
      · rw [if_pos e2] at h3; rw [if_pos (by omega)]; exact h3
      · rw [if_neg e2] at h3; rw [if_neg (by omega)]; exact h3

theorem mix_prod (x wt : Int) (x1 : -128 ≤ x) (x2 : x ≤ 127) (w1 : -2147483648 ≤ wt) (w2 : wt ≤ 2147483647) : -274877906944 ≤ x * wt ∧ x * wt ≤ 274877906944 := by
  have ha : (x * wt).natAbs ≤ 128 * 2147483648 := by rw [Int.natAbs_mul]; exact Nat.mul_le_mul (by omega) (by omega)
  omega

theorem mix_no (wa a : Option Addr) (n m wcap cap : Nat) (qs : List Rw) (w : World) (h : Rws .i8 w a m qs) (hn : n ≤ 9223372036854775807) (hne : n ≠ m ∨ sameW qs = false) :
    Calls Tryd.prog 84 #[.slice wa n wcap, .slice a m cap] w fun e w' => e = .returned (.tuple #[.slice none 0 0, .int .i64 30]) ∧ w = w' := by
  have hm := h.2.1
  have hs := same_width a m cap qs w h
  by_cases hc : n = m
  · have hf : sameW qs = false := by rcases hne with h1 | h1; exact absurd hc h1; exact h1
    rw [hf] at hs
    subst hc
    clear hne hf h
    have hnn : ((n : Int) != (n : Int)) = false := by simp
    go_enter Tryd.func84, Tryd.ntmps84
    go_wp2_with (go_at_call 97; (with_reducible refine hs.mono ?_); rintro e w' ⟨rfl, rfl⟩)
    go_ret2
    exact ⟨rfl, rfl⟩
  · have hnn : ((n : Int) != (m : Int)) = true := by simp; omega
    clear hne hc hs h
    go_enter Tryd.func84, Tryd.ntmps84
    go_wp2
    go_ret2
    exact ⟨rfl, rfl⟩

theorem mix_none (wa a : Option Addr) (wcap cap : Nat) (w : World) :
    Calls Tryd.prog 84 #[.slice wa 0 wcap, .slice a 0 cap] w fun e w' => e = .returned (.tuple #[.slice none 0 0, .int .i64 0]) ∧ w = w' := by
  have hs := same_width a 0 cap [] w (Rws.nil_ _ _ _)
  have e : sameW [] = true := rfl
  rw [e] at hs
  clear e
  go_enter Tryd.func84, Tryd.ntmps84
  go_wp2_with (go_at_call 97; (with_reducible refine hs.mono ?_); rintro e w' ⟨rfl, rfl⟩)
  go_ret2
  exact ⟨rfl, rfl⟩

set_option maxHeartbeats 2000000 in
theorem mix_some (wa a : Option Addr) (n wcap cap m : Nat) (ws : List Int) (qs : List Rw) (w : World) (hw : Elems .i32 w wa n ws) (h : Rws .i8 w a n qs) (h0 : 0 < n) (hn : n ≤ 200) (hs : sameW qs = true) (hm : (qs.getD 0 default).n = m) (hm2 : m ≤ 1000) :
    Calls Tryd.prog 84 #[.slice wa n wcap, .slice a n cap] w fun e w' => (∃ g, e = .returned (.tuple #[.slice (some ⟨g, 0, none⟩) m m, .int .i64 0]) ∧ Elems .i8 w' (some ⟨g, 0, none⟩) m (mixL ws qs n m)) ∧ Below w.heap.size w w' := by
  have hmk := run_make_sums m (by omega)
  have hmk2 := run_make_row' (P := Tryd.prog) 24 89 (.int .i8 0) 1 Tryd.underlying24 info8 rfl .i64 .i64 m (by omega) (by omega)
  have hsw := same_width a n cap qs w h
  rw [hs] at hsw
  have HW : ∀ q ∈ qs, q.n = m := fun q hq => (sameW_at hs hq).trans hm
  obtain ⟨b, off, q, rfl, hblk, cq, hq, hin⟩ := h.at_ h0
  have hqn : q.n = m := by rw [← hq.out]; exact hm
  obtain ⟨qa, qn, qcap, qv⟩ := q
  simp only at hqn cq
  subst hqn
  rw [Nat.add_zero] at cq
  have hnn : ((n : Int) != (n : Int)) = false := by simp
  have hnz : ((n : Int) == 0) = false := by simp; omega
  have hcp := hin.2.2.1
  have hcp2 := hin.2.1
  simp only at hcp hcp2
  have HH := Lib.hid h
  have HWT := Lib.hid hw
  have HWD := Lib.hid HW
  clear hq hin hs hm h hw HW
  go_enter Tryd.func84, Tryd.ntmps84
  go_wp2_with (go_at_call 97; (with_reducible refine hsw.mono ?_); rintro e w' ⟨rfl, rfl⟩)
  clear hsw hnn hnz
  go_loopw [34] (fun i wr => ∃ (k : Nat) (cs : List Int), k ≤ n ∧ i = .int .i64 k ∧ MineK .i64 wr w.heap.size 174 cs ∧ Below w.heap.size w wr ∧ Hid (SInv ws qs qn k 0 cs)) (fun i _ => n - (intOf i).toNat)
  case atStart => exact ⟨0, _, by omega, rfl, mineK_noughts rfl, (Below.refl _ _).alloc (Nat.le_refl _) _, Lib.hid (sinv_start ws qs qn)⟩
  case round =>
    clear cq
    obtain ⟨k, cs, hk, rfl, hmine, hbel, hinv⟩ := hrel
    by_cases hlt : k < n
    · obtain ⟨b1, off1, wt, rfl, hc, hv, wv⟩ := (HWT.out.below hbel).at_ hlt
      obtain ⟨b2, off2, q, he, _, cq, hq, hin⟩ := (HH.out.below hbel).at_ hlt
      cases he
      have hqm : q ∈ qs := by
        rw [← hq.out, List.getD_eq_getElem?_getD, List.getElem?_eq_getElem (by rw [HH.out.1]; exact hlt)]
        exact List.getElem_mem _
      have hqn := HWD.out q hqm
      have hqw := HH.out.2.2.1 q hqm
      obtain ⟨ra, rn, rcap, rv⟩ := q
      simp only at hqn cq
      subst hqn
      have hrc := hin.2.2.1
      have hrc2 := hin.2.1
      simp only at hrc hrc2
      have HQ := Lib.hid hqw.1
      obtain ⟨wt1, wt2⟩ := wf32 wv
      have HWV := Lib.hid (show ws.getD k 0 = wt from hv.out)
      have HRV := Lib.hid (show (qs.getD k default).v = rv by rw [hq.out])
      clear hv hq hqm hqw hin
      go_wp2
      go_loopw [46] (fun i wr => ∃ (j : Nat) (cs : List Int), j ≤ rn ∧ i = .int .i64 j ∧ MineK .i64 wr w.heap.size 174 cs ∧ Below w.heap.size w wr ∧ Hid (SInv ws qs rn k j cs)) (fun i _ => rn - (intOf i).toNat)
      case atStart => exact ⟨0, cs, by omega, rfl, hmine, hbel, hinv⟩
      case round =>
        clear hinv hbel hmine hc cq
        obtain ⟨j, cs, hj, rfl, hmine, hbel, hinv⟩ := hrel
        by_cases hlt2 : j < rn
        · obtain ⟨b3, off3, x, he, hc, hv, wv⟩ := (HQ.out.below hbel).at_ hlt2
          subst he
          obtain ⟨x1, x2⟩ := wf8 wv
          have hl := hinv.out.1
          obtain ⟨hi, lo, e1, e2, h3⟩ := hinv.out.2 j hlt2
          rw [if_neg (by omega)] at h3
          obtain ⟨_, h4, h5, h6, h7⟩ := h3
          have c0 := hmine.cell (k := j * 2) (by omega)
          have c1 := hmine.cell (k := j * 2 + 1) (by omega)
          rw [e1] at c0
          rw [e2] at c1
          obtain ⟨p1, p2⟩ := mix_prod x wt x1 x2 wt1 wt2
          have hadd := sum_add w.heap.size (j * 2) (x * wt) hi lo wr c0 c1 (hmine.frozen _) (hmine.frozen _) (by omega) (by omega) (by omega) (by omega) (by omega) (by omega)
          have hst := Lib.hid (sinv_step hinv.out hlt2 (by rw [HRV.out]; exact hv.out) HWV.out e1 e2 p1 p2)
          have hm2' := (hmine.set (j * 2) (hi + x * wt / 65536)).set (j * 2 + 1) (lo + x * wt % 65536)
          have hb2' := (hbel.setCell (p := ⟨w.heap.size, j * 2, none⟩) (Nat.le_refl _) (.int .i64 (hi + x * wt / 65536))).setCell (p := ⟨w.heap.size, j * 2 + 1, none⟩) (Nat.le_refl _) (.int .i64 (lo + x * wt % 65536))
          clear hinv hbel hmine hl e1 e2 c0 c1 h4 h5 h6 h7 hv wv
          go_wp2_with (go_at_call 98; (with_reducible refine hadd.mono ?_); rintro e w' ⟨rfl, rfl⟩)
          clear hadd
          go_roundw
          case rel => exact ⟨j + 1, _, by omega, by go_num, hm2', hb2', hst⟩
          case measure => simp [intOf]; omega
        · obtain rfl : j = rn := by omega
          have hst := Lib.hid (sinv_row hinv.out)
          clear hinv
          go_wp2
          go_roundw
          case rel => exact ⟨k + 1, cs, by omega, by go_num, hmine, hbel, hst⟩
          case measure => simp [intOf]; omega
    · obtain rfl : k = n := by omega
      obtain ⟨w1, hw1⟩ : ∃ w1, w1 = wr := ⟨_, rfl⟩
      subst hw1
      have hs1 := hbel.size
      have hB1 := hmine.lt
      clear HH HWT HWD hmk
      go_wp2
      go_loopw [66] (fun i wr => ∃ (j : Nat) (ds : List Int), j ≤ qn ∧ i = .int .i64 j ∧ MineK .i64 wr w.heap.size 174 cs ∧ MineK .i8 wr w1.heap.size 89 ds ∧ Below w.heap.size w wr ∧ Hid (FilledBy (fun p => mix1 (msum ws qs k p)) qn j ds)) (fun i _ => qn - (intOf i).toNat)
      case atStart => exact ⟨0, List.replicate qn 0, by omega, rfl, hmine.alloc _, mine_made .i8 w1 89 qn rfl, hbel.alloc hs1 _, Lib.hid (filledBy_start _ qn)⟩
      case round =>
        clear hmine hbel
        obtain ⟨j, ds, hj, rfl, hmine, hmy, hbel, hfil⟩ := hrel
        by_cases hlt2 : j < qn
        · have hl := hinv.out.1
          obtain ⟨hi, lo, e1, e2, h3⟩ := hinv.out.2 j hlt2
          rw [if_neg (by omega)] at h3
          obtain ⟨hT, h4, h5, h6, h7⟩ := h3
          have c0 := hmine.cell (k := j * 2) (by omega)
          have c1 := hmine.cell (k := j * 2 + 1) (by omega)
          rw [e1] at c0
          rw [e2] at c1
          have hdown := sum_down w.heap.size (j * 2) hi lo wr c0 c1 (by omega) (by omega) (by omega) (by omega)
          rw [hT] at hdown
          have hyl := hfil.out.1
          have hold := hmy.cell (k := j) (by omega)
          have hf := hmy.frozen j
          have hst := Lib.hid (filledBy_step hfil.out hlt2)
          have hm2' := fun d => (hmine.drewN d).kept (grownBy_setCell _ w1.heap.size j (.int .i8 (mix1 (msum ws qs k j)))) (by simp; omega)
          have hmy' := fun d => (hmy.drewN d).set j (mix1 (msum ws qs k j))
          have hb2' := fun d => (below_drewN hbel d).setCell (p := ⟨w1.heap.size, j, none⟩) hs1 (.int .i8 (mix1 (msum ws qs k j)))
          generalize ds.getD j 0 = c at hold
          generalize mix1 (msum ws qs k j) = z at hdown hst hm2' hmy' hb2'
          clear hmine hmy hbel hfil hl e1 e2 c0 c1 h4 h5 h6 h7 hT hyl
          go_wp2_with (go_at_call 99; (with_reducible refine hdown.mono ?_); rintro e w' ⟨rfl, d, rfl⟩)
          clear hdown
          go_roundw
          case rel => exact ⟨j + 1, _, by omega, by go_num, hm2' d, hmy' d, hb2' d, hst⟩
          case measure => simp [intOf]; omega
        · obtain rfl : j = qn := by omega
          have he := filledBy_range hfil.out
          have hE := hmy.elems (n := j) hfil.out.1 (by omega) (by rw [he]; exact mixL_wf ws qs k j)
          rw [he] at hE
          have HE := Lib.hid (show Elems .i8 wr (some ⟨w1.heap.size, 0, none⟩) j (mixL ws qs k j) from hE)
          clear he hE hmine hmy hfil hinv
          go_wp2
          go_ret2
          exact ⟨⟨_, rfl, HE.out⟩, hbel⟩

end Go.Proofs.YtdclfcfdadkmeaaDoor

/-
  Contracts of the document's above, greatest, Root and Inverse: each root is the greatest r with r times r not above its number; memory stays as it was.
-/
namespace Go.Proofs.YtdclfcfdadkmeaaDoor
open Go.RowKit
set_option linter.unusedVariables false

theorem above_iff (a q : Int) (ha : 1 ≤ a) : q / a < a ↔ q < a * a := by
  constructor
  · intro h; exact Int.lt_mul_of_ediv_lt (by omega) h
  · intro h; exact Int.ediv_lt_of_lt_mul (by omega) h





end Go.Proofs.YtdclfcfdadkmeaaDoor

/-
  Contract of the document's Norm: the same row as layer 5's, in new memory; nothing else turns.
-/
namespace Go.Proofs.YtdclfcfdadkmeaaDoor
open Go.RowKit
set_option linter.unusedVariables false

theorem range_snoc (f : Nat → Int) (j : Nat) : (List.range j).map f ++ [f j] = (List.range (j + 1)).map f := by rw [List.range_succ, List.map_append]; rfl
theorem info8_parts : ∃ i, Tryd.prog.info? 89 = some i ∧ i.zero = some (.int .i8 0) ∧ i.size = 1 ∧ i.bytes = 1 := by
  obtain ⟨i0, hi, hj⟩ := Option.map_eq_some_iff.1 info8
  exact ⟨i0, hi, by simpa using hj⟩
theorem info32_parts' : ∃ i, Tryd.prog.info? 21 = some i ∧ i.zero = some (.int .i32 0) ∧ i.size = 1 ∧ i.bytes = 4 := by
  obtain ⟨i0, hi, hj⟩ := Option.map_eq_some_iff.1 info_int32
  exact ⟨i0, hi, by simpa using hj⟩



end Go.Proofs.YtdclfcfdadkmeaaDoor

/-
  Contracts of the document's Mod and Wrap: each returns its numbers' sum, wrapped to 32 bits, and leaves memory as it was.
-/
namespace Go.Proofs.YtdclfcfdadkmeaaDoor
open Go.RowKit
set_option linter.unusedVariables false

theorem tmod_wrap (x : Int) : (x.tmod 4294967296 = x % 4294967296 ∨ x.tmod 4294967296 = x % 4294967296 - 4294967296) ∧ (0 ≤ x → x.tmod 4294967296 = x % 4294967296) ∧ (x.tmod 4294967296 = x % 4294967296 - 4294967296 → x.tmod 4294967296 < 0) ∧ (x.tmod 4294967296 = x % 4294967296 → 0 ≤ x.tmod 4294967296) := by
  rcases Int.le_total 0 x with h | h
  · have := Int.tmod_eq_emod_of_nonneg (b := 4294967296) h; omega
  · have h1 := Int.neg_tmod x 4294967296
    have h2 := Int.tmod_eq_emod_of_nonneg (a := -x) (b := 4294967296) (by omega)
    omega



end Go.Proofs.YtdclfcfdadkmeaaDoor

/-
  Contracts of Wrap, Sum and of the document's Mod and Wrap: for every list of numbers each returns their sum, wrapped to 32 bits, and leaves memory as it was.
-/
namespace Go.Proofs.YtdclfcfdadkmeaaDoor
open Go.RowKit
set_option linter.unusedVariables false

theorem sum32 (a : Option Addr) (n cap : Nat) (xs : List Int) (w : World) (h : Elems .i32 w a n xs) :
    Calls Tryd.prog 93 #[.slice a n cap] w fun e w' => e = .returned (.int .i32 (wsum xs)) ∧ w = w' := by
  have hn := h.2.1
  go_enter Tryd.func93, Tryd.ntmps93
  go_wp2
  go_loop [3, 8] (fun s i => ∃ (k : Nat) (t : Int), k ≤ n ∧ i = .int .i64 k ∧ s = .int .i32 t ∧ Hid (t = wrap32 (xs.take k).sum)) (fun _ i => n - (intOf i).toNat)
  case atStart => exact ⟨0, 0, by omega, rfl, rfl, Lib.hid (by simp [wrap32])⟩
  case round =>
    obtain ⟨k, t, hk, rfl, rfl, ht⟩ := hrel
    by_cases hlt : k < n
    · obtain ⟨b, off, v, rfl, hc, hv, wv⟩ := h.at_ hlt
      have T : Hid (wrap32 (t + v) = wrap32 (xs.take (k + 1)).sum) := Lib.hid (by rw [sum_step xs k (by rw [h.1]; exact hlt), hv.out, ht.out, wrap32_add])
      clear ht hv wv h
      go_wp2
      go_round
      case rel => exact ⟨k + 1, wrap32 (t + v), by omega, by go_num, rfl, T⟩
      case measure => simp [intOf]; omega
    · have hl := h.1
      clear h
      go_wp2
      go_ret
      exact ⟨ret_int (by rw [ht.out, sum_all xs k (by omega)]; rfl), rfl⟩


end Go.Proofs.YtdclfcfdadkmeaaDoor
