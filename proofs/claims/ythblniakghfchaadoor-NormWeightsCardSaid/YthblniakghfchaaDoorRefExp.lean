/-
  Contracts of the document's T and Exp: T returns the table's number, Exp returns E(x); both make new blocks alone.
-/
import Derived.Test.YthblniakghfchaaDoorExp
import Derived.Test.YthblniakghfchaaDoorRefShift
namespace Go.Proofs.YthblniakghfchaaDoor
open Go.RowKit
set_option linter.unusedVariables false

theorem ref_T (i : Nat) (hi : i < 33) (w : World) :
    Calls Tryd.prog 47 #[.int .i64 (i : Int)] w fun e w' => e = .returned (.int .i64 (ptab.getD i 0)) ∧ Below w.heap.size w w' := by
  go_enter Tryd.func47, Tryd.ntmps47
  go_wp2
  go_ret
  refine ⟨?_, (Below.refl _ _).alloc (Nat.le_refl _) _⟩
  show Ending.returned ((ptab.map (Value.int .i64))[i]'(by rw [List.length_map]; exact hi)) = _
  rw [List.getElem_map, List.getD_eq_getElem?_getD, List.getElem?_eq_getElem (show i < ptab.length from hi)]
  rfl


/-- E(x), where x is not above 0, as the document reckons it: 0 where q is above 31 -/
theorem E_low (x : Int) (h : x ≤ 0) : E x = if 31 < -x * 94548 / 65536 / 65536 then 0 else shr (btw (-x * 94548 / 65536 % 65536)) (-x * 94548 / 65536 / 65536) := by
  unfold E
  rw [if_neg (by omega)]
  by_cases c : x ≤ -1453643
  · rw [if_pos c, if_pos (by omega)]
  · rw [if_neg c, if_neg (by omega)]

set_option maxHeartbeats 800000 in
theorem ref_exp (x : Int) (h1 : -9223372036854775808 ≤ x) (h2 : x ≤ 9223372036854775807) (w : World) :
    Calls Tryd.prog 33 #[.int .i64 x] w fun e w' => e = .returned (.int .i32 (E x)) ∧ Below w.heap.size w w' := by
  by_cases c0 : 0 < x
  · have hE : E x = 65536 := by unfold E; rw [if_pos c0]
    rw [hE]
    go_enter Tryd.func33, Tryd.ntmps33
    go_wp2
    go_ret
    exact ⟨rfl, Below.refl _ _⟩
  · by_cases c1 : x < -10000000
    · have hE : E x = 0 := by unfold E; rw [if_neg c0, if_pos (by omega)]
      rw [hE]
      go_enter Tryd.func33, Tryd.ntmps33
      go_wp2
      go_ret
      exact ⟨rfl, Below.refl _ _⟩
    · rw [E_low x (by omega)]
      have hB := btw_bd (-x * 94548 / 65536 % 65536) (by omega) (by omega)
      have hS := shr_bd (btw (-x * 94548 / 65536 % 65536)) (-x * 94548 / 65536 / 65536) (by omega)
      obtain ⟨t, ht⟩ : ∃ t, -x * 94548 / 65536 = t := ⟨_, rfl⟩
      have t0 : 0 ≤ t ∧ t < 15000000 := by omega
      rw [ht] at hB hS ⊢
      obtain ⟨f, hf⟩ : ∃ f, t % 65536 = f := ⟨_, rfl⟩
      have f0 : 0 ≤ f ∧ f < 65536 := by omega
      rw [hf] at hB hS ⊢
      obtain ⟨i, hi⟩ : ∃ i : Nat, f / 2048 = (i : Int) := ⟨(f / 2048).toNat, by omega⟩
      have hi2 : i < 32 := by omega
      have hbt : btw f = ptab.getD i 0 - half ((ptab.getD i 0 - ptab.getD (i + 1) 0) * (f % 2048)) 2048 := by unfold btw; rw [hi]; rfl
      obtain ⟨v, hv⟩ : ∃ v, btw f = v := ⟨_, rfl⟩
      rw [hv] at hbt hB hS ⊢
      have T1 := fun w => ref_T i (by omega) w
      have T2 := fun w => ref_T (i + 1) (by omega) w
      have a1 := tab_bd i (by omega)
      have a2 := tab_falls i hi2
      obtain ⟨p, hp⟩ : ∃ p, ptab.getD i 0 = p := ⟨_, rfl⟩
      obtain ⟨q, hq⟩ : ∃ q, ptab.getD (i + 1) 0 = q := ⟨_, rfl⟩
      obtain ⟨r, hr⟩ : ∃ r, f % 2048 = r := ⟨_, rfl⟩
      have r0 : 0 ≤ r ∧ r < 2048 := by omega
      rw [hp] at a1 a2 hbt T1
      rw [hq] at a2 hbt T2
      rw [hr] at hbt
      obtain ⟨m0, m1, m2, m3⟩ := off_bd (p - q) r a2.1 r0.1 r0.2
      have hs : ∀ w, Calls Tryd.prog 29 #[.int .i64 ((p - q) * r), .int .i64 11] w fun e w' => e = .returned (.int .i64 (half ((p - q) * r) 2048)) ∧ w = w' := fun w => by
        rw [← shr_eleven]; exact ref_shift _ _ (by omega) (by omega) w
      have HS := fun w => ref_shift v (t / 65536) (by omega) (by omega) w
      obtain ⟨s, hs2⟩ : ∃ s, shr v (t / 65536) = s := ⟨_, rfl⟩
      rw [hs2] at hS HS ⊢
      obtain ⟨h, hh⟩ : ∃ h, half ((p - q) * r) 2048 = h := ⟨_, rfl⟩
      rw [hh] at hbt m2 m3 hs
      have HB := Lib.hid hbt
      have hvb : p - h = v := hbt.symm
      push_cast at T2
      clear hs2 hh hp hq hbt HB hv
      by_cases cq : 31 < t / 65536
      · rw [if_pos cq]
        clear HS hS
        go_enter Tryd.func33, Tryd.ntmps33
        go_wp2_with fail
        refine (T1 _).mono ?_
        rintro e wa ⟨rfl, b1⟩
        go_wp2_with fail
        refine (T1 _).mono ?_
        rintro e wb ⟨rfl, b2⟩
        go_wp2_with fail
        refine (T2 _).mono ?_
        rintro e wc ⟨rfl, b3⟩
        go_wp2_with fail
        refine (hs _).mono ?_
        rintro e w' ⟨rfl, rfl⟩
        go_wp2
        go_ret
        exact ⟨rfl, below_two b1 (below_two b2 b3)⟩
      · rw [if_neg cq]
        go_enter Tryd.func33, Tryd.ntmps33
        go_wp2_with fail
        refine (T1 _).mono ?_
        rintro e wa ⟨rfl, b1⟩
        go_wp2_with fail
        refine (T1 _).mono ?_
        rintro e wb ⟨rfl, b2⟩
        go_wp2_with fail
        refine (T2 _).mono ?_
        rintro e wc ⟨rfl, b3⟩
        go_wp2_with fail
        refine (hs _).mono ?_
        rintro e w' ⟨rfl, rfl⟩
        go_wp2_with fail
        refine (HS _).mono ?_
        rintro e w' ⟨rfl, rfl⟩
        go_wp2
        go_ret
        exact ⟨rfl, below_two b1 (below_two b2 b3)⟩

end Go.Proofs.YthblniakghfchaaDoor
