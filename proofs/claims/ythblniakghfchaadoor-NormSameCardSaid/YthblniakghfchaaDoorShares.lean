/-
  Contract of Shares: for every total and every list of up to 1000 numbers it returns a new slice of the shares; what was in memory stays.
-/
import Derived.Test.YthblniakghfchaaDoorKit
namespace Go.Proofs.YthblniakghfchaaDoor
open Go.RowKit
set_option linter.unusedVariables false

/-- a weight: x, where it is above 0 -/
def pos (x : Int) : Int := if 0 < x then x else 0
/-- the weights' sum -/
def tot (xs : List Int) : Int := (xs.map pos).sum
/-- the share of x of the total t, where the weights' sum is S -/
def share (t S x : Int) : Int := if S = 0 ∨ t < 0 then 0 else pos x * t / S

theorem pos_bd (x : Int) (h : x ≤ 2147483647) : 0 ≤ pos x ∧ pos x ≤ 2147483647 := by unfold pos; split <;> omega
theorem tot_step (xs : List Int) (k : Nat) (hk : k < xs.length) : tot (xs.take (k + 1)) = tot (xs.take k) + pos (xs.getD k 0) := by
  unfold tot
  rw [List.take_add_one, List.map_append, List.sum_append]
  simp [List.getD, List.getElem?_eq_getElem hk]
theorem tot_bd (xs : List Int) (h : ∀ x ∈ xs, x ≤ 2147483647) : 0 ≤ tot xs ∧ tot xs ≤ xs.length * 2147483647 := by
  induction xs with
  | nil => simp [tot]
  | cons x xs ih =>
    have h1 := ih (fun y hy => h y (List.mem_cons_of_mem _ hy))
    have h2 := pos_bd x (h x List.mem_cons_self)
    have e : tot (x :: xs) = pos x + tot xs := by simp [tot]
    rw [e, List.length_cons]; push_cast; omega
theorem pos_le_tot (xs : List Int) (h : ∀ x ∈ xs, x ≤ 2147483647) : ∀ x ∈ xs, pos x ≤ tot xs := by
  induction xs with
  | nil => simp
  | cons y ys ih =>
    intro x hx
    have h1 := tot_bd ys (fun z hz => h z (List.mem_cons_of_mem _ hz))
    have h2 := pos_bd y (h y List.mem_cons_self)
    have e : tot (y :: ys) = pos y + tot ys := by simp [tot]
    rw [e]
    rcases List.mem_cons.1 hx with rfl | hm
    · omega
    · have := ih (fun z hz => h z (List.mem_cons_of_mem _ hz)) x hm; omega

/-- one share, in its bounds -/
theorem share_bd {t S p : Int} (hS : 0 < S) (ht : 0 ≤ t) (ht2 : t ≤ 2147483647) (hp : 0 ≤ p) (hp2 : p ≤ 2147483647) (hpS : p ≤ S) :
    0 ≤ p * t ∧ p * t ≤ 4611686014132420609 ∧ 0 ≤ p * t / S ∧ p * t / S ≤ t := by
  have h1 : 0 ≤ p * t := Int.mul_nonneg hp ht
  have h2 : p * t ≤ 2147483647 * 2147483647 := Int.mul_le_mul hp2 ht2 ht (by decide)
  have h3 : p * t ≤ S * t := Int.mul_le_mul_of_nonneg_right hpS ht
  refine ⟨h1, by omega, Int.ediv_nonneg h1 (by omega), ?_⟩
  have h4 : p * t / S ≤ S * t / S := Int.ediv_le_ediv hS h3
  rwa [Int.mul_ediv_cancel_left _ (by omega)] at h4

theorem share_wf {t : Int} {xs : List Int} (hx : ∀ x ∈ xs, x ≤ 2147483647) (ht2 : t ≤ 2147483647) : ∀ c ∈ xs.map (share t (tot xs)), (Lit.int .i32 c).wf = true := by
  intro c hc
  obtain ⟨x, hm, rfl⟩ := List.mem_map.1 hc
  have h1 := pos_bd x (hx x hm)
  have h2 := pos_le_tot xs hx x hm
  have h3 := tot_bd xs hx
  unfold share
  split
  · rfl
  · rename_i hne
    have h4 := share_bd (t := t) (S := tot xs) (p := pos x) (by omega) (by omega) ht2 h1.1 h1.2 h2
    exact WalkArith.wf_i32 ⟨by omega, by omega⟩

theorem zero_wf (n : Nat) : ∀ c ∈ List.replicate n (0 : Int), (Lit.int .i32 c).wf = true := by
  intro c hc; rw [List.eq_of_mem_replicate hc]; rfl

theorem zeros_share {t : Int} {xs : List Int} {n : Nat} (hl : xs.length = n) (h : tot xs = 0 ∨ t < 0) : List.replicate n 0 = xs.map (share t (tot xs)) := by
  apply List.ext_getElem (by simp [hl])
  intro i h1 h2
  simp [share, h]

set_option maxHeartbeats 800000 in
theorem shares_at (t : Int) (a : Option Addr) (n cap : Nat) (xs : List Int) (w : World) (h : Elems .i32 w a n xs) (hn : n ≤ 1000) (ht1 : -2147483648 ≤ t) (ht2 : t ≤ 2147483647) :
    Calls Tryd.prog 31 #[.int .i32 t, .slice a n cap] w fun e w' => e = .returned (.slice (some ⟨w.heap.size, 0, none⟩) n n) ∧ Elems .i32 w' (some ⟨w.heap.size, 0, none⟩) n (xs.map (share t (tot xs))) ∧ Below w.heap.size w w' := by
  have hmk := run_make_row' (P := Tryd.prog) 23 21 (.int .i32 0) 4 Tryd.underlying23 info_int32 rfl .i64 .i64 n (by omega) (by omega)
  have hx : ∀ x ∈ xs, x ≤ 2147483647 := fun x hm => (wf32 (h.2.2.1 x hm)).2
  have hT := tot_bd xs hx
  have hlen := h.1
  rw [hlen] at hT
  have HX := Lib.hid hx
  have HL := Lib.hid hlen
  clear hlen
  go_enter Tryd.func31, Tryd.ntmps31
  go_wp2
  go_loop [6, 16] (fun s i => ∃ (k : Nat) (q : Int), k ≤ n ∧ i = .int .i64 k ∧ s = .int .i64 q ∧ Hid (q = tot (xs.take k)) ∧ 0 ≤ q ∧ q ≤ k * 2147483647) (fun _ i => n - (intOf i).toNat)
  case atStart => exact ⟨0, 0, by omega, rfl, rfl, Lib.hid (by simp [tot]), by omega, by omega⟩
  case round =>
    obtain ⟨k, q, hk, rfl, rfl, hq, q0, q1⟩ := hrel
    have hE := h.below ((Below.refl _ w).alloc (Nat.le_refl _) (Obj.cells (madeCells #[Value.int .i32 0] n) 21))
    by_cases hlt : k < n
    · obtain ⟨b, off, v, rfl, hc, hv, wv⟩ := hE.at_ hlt
      obtain ⟨v1, v2⟩ := wf32 wv
      have hst : Hid (q + pos v = tot (xs.take (k + 1))) := Lib.hid (by rw [tot_step xs k (by rw [HL.out]; exact hlt), hq.out, hv.out])
      clear hE h hx hT hv wv hq
      by_cases hp : 0 < v
      · have e : pos v = v := by unfold pos; rw [if_pos hp]
        rw [e] at hst
        clear e
        go_wp2
        go_round
        case rel => exact ⟨k + 1, q + v, by omega, by go_num, rfl, hst, by omega, by push_cast; omega⟩
        case measure => simp [intOf]; omega
      · have e : pos v = 0 := by unfold pos; rw [if_neg hp]
        rw [e] at hst
        clear e
        go_wp2
        go_round
        case rel => exact ⟨k + 1, q, by omega, by go_num, by go_num, Lib.hid (by have := hst.out; omega), by omega, by push_cast; omega⟩
        case measure => simp [intOf]; omega
    · obtain rfl : k = n := by omega
      obtain rfl : q = tot xs := by rw [hq.out, List.take_of_length_le (by rw [HL.out]; omega)]
      have hzero : (tot xs = 0 ∨ t < 0) → Elems .i32 (w.alloc (Obj.cells (madeCells #[Value.int .i32 0] k) 21)) (some ⟨w.heap.size, 0, none⟩) k (xs.map (share t (tot xs))) := by
        intro hz
        have hown := World.ownsRow_lit (e := 21) (size := 1) w (madeCells #[Value.int IntKind.i32 0] k) k (Nat.le_refl _) (by unfold maxLen; omega) (by rw [size_madeCells, Nat.mul_one])
        have e := made_zeros .i32 k
        rw [Nat.mul_one] at e
        rw [← zeros_share HL.out hz]
        rw [show (madeCells #[Value.int IntKind.i32 0] k).toList = (List.replicate k 0).map (Value.int .i32) from e] at hown
        exact own_elems hown (by omega) (zero_wf k)
      have HZ := Lib.hid hzero
      clear hzero hx hq q1 hE
      by_cases c0 : tot xs = 0
      · have HC := Lib.hid c0
        have c0' : (tot xs == 0) = true := by simpa using c0
        clear c0 h hT
        go_wp2
        go_ret
        exact ⟨rfl, HZ.out (.inl HC.out), (Below.refl _ _).alloc (Nat.le_refl _) _⟩
      · have c0' : (tot xs == 0) = false := by simpa using c0
        by_cases c1 : t < 0
        · clear h hT c0
          go_wp2
          go_ret
          exact ⟨rfl, HZ.out (.inr c1), (Below.refl _ _).alloc (Nat.le_refl _) _⟩
        · have hS : 0 < tot xs := by omega
          obtain ⟨S, hSe⟩ : ∃ S, tot xs = S := ⟨_, rfl⟩
          rw [hSe] at hS c0' hT c0 ⊢
          have HS := Lib.hid hSe
          clear HZ hSe c0
          go_wp2
          go_loopw [35] (fun i wr => ∃ (j : Nat) (cs : List Int), j ≤ k ∧ i = .int .i64 j ∧ wr.ownsRow w.heap.size 21 1 (.slice (some ⟨w.heap.size, 0, none⟩) k k) k (cs.map (.int .i32)) ∧ Below w.heap.size w wr ∧ Hid (FilledBy (fun i => share t S (xs.getD i 0)) k j cs)) (fun i _ => k - (intOf i).toNat)
          case atStart =>
            have hown := World.ownsRow_lit (e := 21) (size := 1) w (madeCells #[Value.int IntKind.i32 0] k) k (Nat.le_refl _) (by unfold maxLen; omega) (by rw [size_madeCells, Nat.mul_one])
            refine ⟨0, List.replicate k 0, by omega, rfl, ?_, (Below.refl _ _).alloc (Nat.le_refl _) _, Lib.hid (filledBy_start _ k)⟩
            rw [← made_zeros .i32 k, Nat.mul_one]
            exact hown
          case round =>
            obtain ⟨j, cs, hj, rfl, hown, hbel, hfil⟩ := hrel
            by_cases hlt2 : j < k
            · have hE := h.below hbel
              obtain ⟨b, off, v, rfl, hc, hv, wv⟩ := hE.at_ hlt2
              obtain ⟨v1, v2⟩ := wf32 wv
              have hp1 := pos_bd v v2
              have hpS : pos v ≤ S := by
                rw [← HS.out]; refine pos_le_tot xs HX.out v ?_
                rw [← hv.out]; exact getD_mem (by rw [HL.out]; exact hlt2)
              obtain ⟨b0, b1, b2, b3⟩ := share_bd (t := t) (S := S) (p := pos v) hS (by omega) ht2 hp1.1 hp1.2 hpS
              have hsh : share t S v = pos v * t / S := by unfold share; rw [if_neg (by omega)]
              have hf := hown.frozenAt j
              have hold : wr.cell? ⟨w.heap.size, j, none⟩ = some (.int .i32 (cs.getD j 0)) := by
                have hl := hfil.out.1
                rw [hown.cellAt j (by omega), List.getElem?_map, List.getD_eq_getElem?_getD, List.getElem?_eq_getElem (by omega)]; rfl
              obtain ⟨c, hcc⟩ : ∃ c, cs.getD j 0 = c := ⟨_, rfl⟩
              rw [hcc] at hold
              have hnew := (hown.stored j (.int .i32 (share t S v))).1
              have hbel' := hbel.setCell (p := ⟨w.heap.size, j, none⟩) (Nat.le_refl _) (.int .i32 (share t S v))
              have hfil' : Hid (FilledBy (fun i => share t S (xs.getD i 0)) k (j + 1) (cs.set j (share t S v))) := Lib.hid (by have := filledBy_step hfil.out hlt2; rwa [hv.out] at this)
              rw [← List.map_set] at hnew
              rw [hsh] at hnew hbel' hfil'
              have hz : (S == 0) = false := by simp; omega
              clear hcc hv hfil hE h hown hbel hsh hT
              by_cases hp : 0 < v
              · have e : pos v = v := by unfold pos; rw [if_pos hp]
                rw [e] at b0 b1 b2 b3 hnew hbel' hfil'
                clear e hp1 hpS
                go_wp2
                go_roundw
                case rel => exact ⟨j + 1, _, by omega, by go_num, hnew, hbel', hfil'⟩
                case measure => simp [intOf]; omega
              · have e : pos v = 0 := by unfold pos; rw [if_neg hp]
                rw [e, Int.zero_mul, Int.zero_ediv] at hnew hbel' hfil'
                clear e hp1 hpS b0 b1 b2 b3
                have hm : (if v < 0 then (0 : Int) else v) = 0 := by split <;> omega
                go_wp2
                go_roundw
                case rel => exact ⟨j + 1, _, by omega, by go_num, hnew, hbel', hfil'⟩
                case measure => simp [intOf]; omega
            · obtain rfl : j = k := by omega
              have hwf := share_wf (t := t) HX.out ht2
              rw [HS.out] at hwf
              have he := filledBy_end (g := share t S) hfil.out HL.out (fun i _ => rfl)
              have HW := Lib.hid hwf
              have HE := Lib.hid he
              clear h hwf he hT
              go_wp2
              go_ret
              exact ⟨rfl, by rw [HS.out, ← HE.out]; exact own_elems hown (by omega) (by rw [HE.out]; exact HW.out), hbel⟩

theorem shares (t : Int) (a : Option Addr) (n cap : Nat) (xs : List Int) (w : World) (h : Elems .i32 w a n xs) (hn : n ≤ 1000) (ht1 : -2147483648 ≤ t) (ht2 : t ≤ 2147483647) :
    Calls Tryd.prog 31 #[.int .i32 t, .slice a n cap] w fun e w' => ∃ g, e = .returned (.slice (some ⟨g, 0, none⟩) n n) ∧ Elems .i32 w' (some ⟨g, 0, none⟩) n (xs.map (share t (tot xs))) ∧ Below w.heap.size w w' :=
  (shares_at t a n cap xs w h hn ht1 ht2).mono fun e w' h => ⟨_, h⟩

end Go.Proofs.YthblniakghfchaaDoor
