/-
  Contracts of between and Exp: in a world whose table holds the document's numbers Exp returns E(x) and makes no memory.
-/
import Derived.Test.YthblniakghfchaaDoorTab
import Derived.Test.YthblniakghfchaaDoorShift
namespace Go.Proofs.YthblniakghfchaaDoor
open Go.RowKit
set_option linter.unusedVariables false

theorem between (f : Int) (h0 : 0 ≤ f) (h1 : f < 65536) (w : World) (hT : Tab w) :
    Calls Tryd.prog 52 #[.int .i64 f] w fun e w' => e = .returned (.int .i64 (btw f)) ∧ ∃ d, w' = w.drewN d := by
  obtain ⟨i, hi⟩ : ∃ i : Nat, f / 2048 = (i : Int) := ⟨(f / 2048).toNat, by omega⟩
  have hi2 : i < 32 := by omega
  have hm : bits .and .i64 f 2047 = f % 2048 := by have := and_mask f 11 (by decide); simpa using this
  have ha := hT i (by omega)
  have hb := hT (i + 1) (by omega)
  have a1 := tab_bd i (by omega)
  have a2 := tab_falls i hi2
  have hbt : btw f = ptab.getD i 0 - half ((ptab.getD i 0 - ptab.getD (i + 1) 0) * (f % 2048)) 2048 := by unfold btw; rw [hi]; rfl
  rw [hbt]
  clear hbt hT
  obtain ⟨p, hp⟩ : ∃ p, ptab.getD i 0 = p := ⟨_, rfl⟩
  obtain ⟨q, hq⟩ : ∃ q, ptab.getD (i + 1) 0 = q := ⟨_, rfl⟩
  obtain ⟨r, hr⟩ : ∃ r, f % 2048 = r := ⟨_, rfl⟩
  have r0 : 0 ≤ r ∧ r < 2048 := by omega
  rw [hp] at ha a1 a2 ⊢
  rw [hq] at hb a2 ⊢
  rw [hr] at hm ⊢
  obtain ⟨m0, m1, m2, m3⟩ := off_bd (p - q) r a2.1 r0.1 r0.2
  have hs : ∀ w, Calls Tryd.prog 25 #[.int .i64 ((p - q) * r), .int .i64 11] w fun e w' => e = .returned (.int .i64 (half ((p - q) * r) 2048)) ∧ w' = w := fun w => (by
    rw [← shr_eleven]; exact (shift _ _ (by omega) (by omega) w).mono (fun e w' h => ⟨h.1, h.2.symm⟩))
  clear hp hq hr
  go_enter Tryd.func52, Tryd.ntmps52
  go_wp2
  go_quiet (first | (go_at_call 25; refine Calls.quiet_of_same (hs _)))
  go_wp2
  go_ret
  exact ⟨rfl, _, rfl⟩

/-- E(x) -/
def E (x : Int) : Int := if 0 < x then 65536 else if x ≤ -1453643 then 0 else shr (btw (-x * 94548 / 65536 % 65536)) (-x * 94548 / 65536 / 65536)

theorem half_nonneg (x P : Int) (hx : 0 ≤ x) (hP : 1 ≤ P) : 0 ≤ half x P := by
  have h := half_bd x P
  have := Int.ediv_nonneg hx (show 0 ≤ P by omega)
  omega
theorem half_le (x P : Int) (hx : 0 ≤ x) (hP : 2 ≤ P) : half x P ≤ x := by
  have h := half_bd x P
  rcases Int.lt_or_le x 1 with h1 | h1
  · obtain rfl : x = 0 := by omega
    unfold half
    rw [Int.zero_emod, Int.zero_ediv, if_neg (by omega)]; omega
  · have : x / P < x := Int.ediv_lt_self_of_pos_of_ne_one (by omega) (by omega)
    omega
theorem shr_bd (v q : Int) (hv : 0 ≤ v) : 0 ≤ shr v q ∧ shr v q ≤ v := by
  unfold shr
  obtain ⟨n1, n2⟩ := near_in q 0 62 (by decide)
  split
  · omega
  · rename_i hne
    have h1 := pow_bounds (near q 0 62) n1 n2
    have h2 := pow_half (near q 0 62) (by omega)
    have h3 : (1 : Int) ≤ 2 ^ ((near q 0 62).toNat - 1) := by
      have := pow_bounds (near q 0 62 - 1) (by omega) (by omega)
      rw [show (near q 0 62 - 1).toNat = (near q 0 62).toNat - 1 by omega] at this
      exact this.1
    exact ⟨half_nonneg _ _ hv h1.1, half_le _ _ hv (by omega)⟩

theorem E_bd (x : Int) : 0 ≤ E x ∧ E x ≤ 65536 := by
  unfold E
  split
  · omega
  · split
    · omega
    · have h1 := btw_bd (-x * 94548 / 65536 % 65536) (by omega) (by omega)
      have h2 := shr_bd (btw (-x * 94548 / 65536 % 65536)) (-x * 94548 / 65536 / 65536) (by omega)
      omega

theorem exp (x : Int) (h1 : -9223372036854775808 ≤ x) (h2 : x ≤ 9223372036854775807) (w : World) (hT : Tab w) :
    Calls Tryd.prog 46 #[.int .i64 x] w fun e w' => e = .returned (.int .i32 (E x)) ∧ ∃ d, w' = w.drewN d := by
  by_cases c0 : 0 < x
  · have hE : E x = 65536 := by unfold E; rw [if_pos c0]
    rw [hE]
    go_enter Tryd.func46, Tryd.ntmps46
    go_wp2
    go_ret
    exact ⟨rfl, 0, rfl⟩
  · by_cases c1 : x ≤ -1453643
    · have hE : E x = 0 := by unfold E; rw [if_neg c0, if_pos c1]
      rw [hE]
      go_enter Tryd.func46, Tryd.ntmps46
      go_wp2
      go_ret
      exact ⟨rfl, 0, rfl⟩
    · have hE : E x = shr (btw (-x * 94548 / 65536 % 65536)) (-x * 94548 / 65536 / 65536) := by unfold E; rw [if_neg c0, if_neg c1]
      have hB := btw_bd (-x * 94548 / 65536 % 65536) (by omega) (by omega)
      have hS := shr_bd (btw (-x * 94548 / 65536 % 65536)) (-x * 94548 / 65536 / 65536) (by omega)
      rw [hE]
      clear hE
      obtain ⟨t, ht⟩ : ∃ t, -x * 94548 / 65536 = t := ⟨_, rfl⟩
      have t0 : 0 ≤ t ∧ t < 2097152 := by omega
      rw [ht] at hB hS ⊢
      have hm : bits .and .i64 t 65535 = t % 65536 := by have := and_mask t 16 (by decide); simpa using this
      have hb := between (t % 65536) (by omega) (by omega) w hT
      have hsh : ∀ d, Calls Tryd.prog 25 #[.int .i64 (btw (t % 65536)), .int .i64 (t / 65536)] (w.drewN d) fun e w' => e = .returned (.int .i64 (shr (btw (t % 65536)) (t / 65536))) ∧ w.drewN d = w' := fun d => shift _ _ (by omega) (by omega) _
      obtain ⟨v, hv⟩ : ∃ v, btw (t % 65536) = v := ⟨_, rfl⟩
      rw [hv] at hB hS hsh hb ⊢
      obtain ⟨s, hs⟩ : ∃ s, shr v (t / 65536) = s := ⟨_, rfl⟩
      rw [hs] at hS hsh ⊢
      clear hv hs hT
      go_enter Tryd.func46, Tryd.ntmps46
      go_wp2_with fail
      refine hb.mono ?_
      rintro e w' ⟨rfl, d, rfl⟩
      go_wp2_with fail
      refine (hsh _).mono ?_
      rintro e w' ⟨rfl, rfl⟩
      go_wp2
      go_ret
      exact ⟨rfl, _, rfl⟩

end Go.Proofs.YthblniakghfchaaDoor
