/-
  Contracts of the document's rest, S, Sin, Cos and Angle of layer 6: for every argument of its type each returns what the plain mathematics says; what was in memory stays.
-/
import Derived.Test.YtbggklhnmkiamaaDoorRopeMath
import Derived.Test.YtbggklhnmkiamaaDoorRefShift
import Derived.Test.YtbggklhnmkiamaaDoorRw
namespace Go.Proofs.YtbggklhnmkiamaaDoor
open Go.RowKit
set_option linter.unusedVariables false

theorem ref_rest6 (a : Int) (h1 : -9223372036854775808 ≤ a) (h2 : a ≤ 9223372036854775807) (w : World) :
    Calls Tryd.prog 20 #[.int .i64 a] w fun e w' => e = .returned (.int .i64 (a % 65536)) ∧ w = w' := by
  by_cases c : 0 ≤ a
  · have hr : ¬ a % 65536 < 0 := by omega
    go_enter Tryd.func20, Tryd.ntmps20
    go_wp2
    go_ret
    exact ⟨rfl, rfl⟩
  · have hr := rest_by a 65536 (by decide)
    have hv : a.tmod 65536 = a % 65536 ∨ a.tmod 65536 = a % 65536 - 65536 := by
      have h := Int.tmod_add_mul_tdiv a 65536
      omega
    have hz : 0 ≤ a % 65536 ∧ a % 65536 < 65536 := by omega
    generalize a % 65536 = z at hv hz ⊢
    by_cases c0 : a.tmod 65536 < 0
    · have hv2 : a.tmod 65536 + 65536 = z := by omega
      have hr2 : -65536 < a.tmod 65536 := hr.1
      have HV := Lib.hid hv2
      clear hv hv2 hr
      go_enter Tryd.func20, Tryd.ntmps20
      go_wp2
      go_ret
      exact ⟨ret_int HV.out, rfl⟩
    · have hv2 : a.tmod 65536 = z := by omega
      rw [← hv2]
      clear hv hv2 hz
      go_enter Tryd.func20, Tryd.ntmps20
      go_wp2
      go_ret
      exact ⟨rfl, rfl⟩

theorem ref_s6 (x : Int) (h0 : 0 ≤ x) (h1 : x ≤ 32) (w : World) :
    Calls Tryd.prog 21 #[.int .i64 x] w fun e w' => e = .returned (.int .i64 (stab.getD x.toNat 0)) ∧ Below w.heap.size w w' := by
  obtain ⟨i, hi⟩ : ∃ i : Nat, x = (i : Int) := ⟨x.toNat, by omega⟩
  subst hi
  have hE : ∀ T, Elems .i64 (w.alloc (.cells #[.int .i64 0, .int .i64 804, .int .i64 1606, .int .i64 2404, .int .i64 3196, .int .i64 3981, .int .i64 4756, .int .i64 5520, .int .i64 6270, .int .i64 7005, .int .i64 7723, .int .i64 8423, .int .i64 9102, .int .i64 9760, .int .i64 10394, .int .i64 11003, .int .i64 11585, .int .i64 12140, .int .i64 12665, .int .i64 13160, .int .i64 13623, .int .i64 14053, .int .i64 14449, .int .i64 14811, .int .i64 15137, .int .i64 15426, .int .i64 15679, .int .i64 15893, .int .i64 16069, .int .i64 16207, .int .i64 16305, .int .i64 16364, .int .i64 16384] T)) (some ⟨w.heap.size, 0, none⟩) 33 stab := fun T => elems_litK stab rfl rfl (by decide) (by decide) rfl
  have hc : ∀ T, (w.alloc (.cells #[.int .i64 0, .int .i64 804, .int .i64 1606, .int .i64 2404, .int .i64 3196, .int .i64 3981, .int .i64 4756, .int .i64 5520, .int .i64 6270, .int .i64 7005, .int .i64 7723, .int .i64 8423, .int .i64 9102, .int .i64 9760, .int .i64 10394, .int .i64 11003, .int .i64 11585, .int .i64 12140, .int .i64 12665, .int .i64 13160, .int .i64 13623, .int .i64 14053, .int .i64 14449, .int .i64 14811, .int .i64 15137, .int .i64 15426, .int .i64 15679, .int .i64 15893, .int .i64 16069, .int .i64 16207, .int .i64 16305, .int .i64 16364, .int .i64 16384] T)).cell? ⟨w.heap.size, i, none⟩ = some (.int .i64 (stab.getD i 0)) := fun T => by
    obtain ⟨b, off, v, he, hc, hv, _⟩ := (hE T).at_ (i := i) (by omega)
    cases he
    rw [Nat.zero_add] at hc
    rw [hc, hv.out]
  have hi : (i : Int) < 33 := by omega
  have e : stab.getD (i : Int).toNat 0 = stab.getD i 0 := rfl
  rw [e]
  generalize stab.getD i 0 = v at hc ⊢
  clear hE e
  have hc1 := hc 2
  clear hc
  go_enter Tryd.func21, Tryd.ntmps21
  go_wp2
  go_ret
  exact ⟨rfl, (Below.refl _ _).alloc (Nat.le_refl _) _⟩

theorem ref_sin0 (a n f : Int) (i : Nat) (hn : a % 65536 = n) (hq : n / 16384 = 0) (hf : n % 16384 = f) (hi : f / 512 = (i : Int)) (hi2 : i < 32) (h1 : -9223372036854775808 ≤ a) (h2 : a ≤ 9223372036854775807) (w : World) :
    Calls Tryd.prog 10 #[.int .i64 a] w fun e w' => e = .returned (.int .i32 (sine a)) ∧ Below w.heap.size w w' := by
  have hfo : fold4 a = f := by unfold fold4; rw [if_neg (by omega)]; omega
  have hsn : sine a = rise (fold4 a) := by unfold sine; rw [if_neg (by omega)]
  rw [hsn, hfo]
  have n0 : 0 ≤ n ∧ n < 65536 := by omega
  have hrest := ref_rest6 a h1 h2 w
  rw [hn] at hrest
  have f0 : 0 ≤ f ∧ f < 16384 := by omega
  have a2 := stab_rises i hi2
  have a1 := stab_bd i (by omega)
  have a3 := stab_bd (i + 1) (by omega)
  have hS : ∀ w, Calls Tryd.prog 21 #[.int .i64 (i : Int)] w fun e w' => e = .returned (.int .i64 (stab.getD i 0)) ∧ Below w.heap.size w w' := fun w => ref_s6 (i : Int) (by omega) (by omega) w
  have hS1 : ∀ w, Calls Tryd.prog 21 #[.int .i64 ((i : Int) + 1)] w fun e w' => e = .returned (.int .i64 (stab.getD (i + 1) 0)) ∧ Below w.heap.size w w' := fun w => ref_s6 ((i : Int) + 1) (by omega) (by omega) w
  have hr : rise f = stab.getD i 0 + half ((stab.getD (i + 1) 0 - stab.getD i 0) * (f % 512)) 512 := by unfold rise; rw [hi]; rfl
  rw [hr]
  generalize stab.getD i 0 = p at a1 a2 hS ⊢
  generalize stab.getD (i + 1) 0 = q at a2 a3 hS1 ⊢
  obtain ⟨r, hr2⟩ : ∃ r, f % 512 = r := ⟨_, rfl⟩
  have r0 : 0 ≤ r ∧ r < 512 := by omega
  rw [hr2]
  obtain ⟨m0, m1, m2, m3⟩ := add_bd (q - p) r a2.1 r0.1 r0.2
  have hs : ∀ w, Calls Tryd.prog 22 #[.int .i64 ((q - p) * r), .int .i64 9] w fun e w' => e = .returned (.int .i64 (half ((q - p) * r) 512)) ∧ w = w' := fun w => (by
    rw [← shr_nine]; exact ref_shift _ _ (by omega) (by omega) w)
  generalize hu : (q - p) * r = u at hs m0 m1 m2 m3
  generalize hv : half u 512 = v at hs m2 m3
  have i33 : (i : Int) < 32 := by omega
  clear hr hv hfo hsn hn
  go_enter Tryd.func10, Tryd.ntmps10
  go_wp2_with fail
  refine hrest.mono ?_
  rintro e w' ⟨rfl, rfl⟩
  clear hrest
  go_wp2_with fail
  refine (hS _).mono ?_
  rintro e wa ⟨rfl, hb1⟩
  go_wp2_with fail
  refine (hS1 _).mono ?_
  rintro e wb ⟨rfl, hb2⟩
  have hb3 := below_two hb1 hb2
  clear hb1 hb2
  go_wp2_with fail
  refine (hS _).mono ?_
  rintro e wc ⟨rfl, hb4⟩
  have hb5 := below_two hb3 hb4
  clear hb3 hb4
  go_wp2_with fail
  refine (hs _).mono ?_
  rintro e w' ⟨rfl, rfl⟩
  go_wp2
  go_ret
  exact ⟨rfl, hb5⟩

theorem ref_sin1 (a n f : Int) (i : Nat) (hn : a % 65536 = n) (hq : n / 16384 = 1) (hf : n % 16384 = f) (hi : (16384 - f) / 512 = (i : Int)) (hi2 : i < 32) (h1 : -9223372036854775808 ≤ a) (h2 : a ≤ 9223372036854775807) (w : World) :
    Calls Tryd.prog 10 #[.int .i64 a] w fun e w' => e = .returned (.int .i32 (sine a)) ∧ Below w.heap.size w w' := by
  have hfo : fold4 a = (16384 - f) := by unfold fold4; rw [if_pos (by omega)]; omega
  have hsn : sine a = rise (fold4 a) := by unfold sine; rw [if_neg (by omega)]
  rw [hsn, hfo]
  have n0 : 0 ≤ n ∧ n < 65536 := by omega
  have hrest := ref_rest6 a h1 h2 w
  rw [hn] at hrest
  have f0 : 0 ≤ f ∧ f < 16384 := by omega
  have a2 := stab_rises i hi2
  have a1 := stab_bd i (by omega)
  have a3 := stab_bd (i + 1) (by omega)
  have hS : ∀ w, Calls Tryd.prog 21 #[.int .i64 (i : Int)] w fun e w' => e = .returned (.int .i64 (stab.getD i 0)) ∧ Below w.heap.size w w' := fun w => ref_s6 (i : Int) (by omega) (by omega) w
  have hS1 : ∀ w, Calls Tryd.prog 21 #[.int .i64 ((i : Int) + 1)] w fun e w' => e = .returned (.int .i64 (stab.getD (i + 1) 0)) ∧ Below w.heap.size w w' := fun w => ref_s6 ((i : Int) + 1) (by omega) (by omega) w
  have hr : rise (16384 - f) = stab.getD i 0 + half ((stab.getD (i + 1) 0 - stab.getD i 0) * ((16384 - f) % 512)) 512 := by unfold rise; rw [hi]; rfl
  rw [hr]
  generalize stab.getD i 0 = p at a1 a2 hS ⊢
  generalize stab.getD (i + 1) 0 = q at a2 a3 hS1 ⊢
  obtain ⟨r, hr2⟩ : ∃ r, (16384 - f) % 512 = r := ⟨_, rfl⟩
  have r0 : 0 ≤ r ∧ r < 512 := by omega
  rw [hr2]
  obtain ⟨m0, m1, m2, m3⟩ := add_bd (q - p) r a2.1 r0.1 r0.2
  have hs : ∀ w, Calls Tryd.prog 22 #[.int .i64 ((q - p) * r), .int .i64 9] w fun e w' => e = .returned (.int .i64 (half ((q - p) * r) 512)) ∧ w = w' := fun w => (by
    rw [← shr_nine]; exact ref_shift _ _ (by omega) (by omega) w)
  generalize hu : (q - p) * r = u at hs m0 m1 m2 m3
  generalize hv : half u 512 = v at hs m2 m3
  have i33 : (i : Int) < 32 := by omega
  clear hr hv hfo hsn hn
  go_enter Tryd.func10, Tryd.ntmps10
  go_wp2_with fail
  refine hrest.mono ?_
  rintro e w' ⟨rfl, rfl⟩
  clear hrest
  go_wp2_with fail
  refine (hS _).mono ?_
  rintro e wa ⟨rfl, hb1⟩
  go_wp2_with fail
  refine (hS1 _).mono ?_
  rintro e wb ⟨rfl, hb2⟩
  have hb3 := below_two hb1 hb2
  clear hb1 hb2
  go_wp2_with fail
  refine (hS _).mono ?_
  rintro e wc ⟨rfl, hb4⟩
  have hb5 := below_two hb3 hb4
  clear hb3 hb4
  go_wp2_with fail
  refine (hs _).mono ?_
  rintro e w' ⟨rfl, rfl⟩
  go_wp2
  go_ret
  exact ⟨rfl, hb5⟩

theorem ref_sin1e (a n : Int) (hn : a % 65536 = n) (hq : n / 16384 = 1) (hf : n % 16384 = 0) (h1 : -9223372036854775808 ≤ a) (h2 : a ≤ 9223372036854775807) (w : World) :
    Calls Tryd.prog 10 #[.int .i64 a] w fun e w' => e = .returned (.int .i32 (sine a)) ∧ Below w.heap.size w w' := by
  have hfo : fold4 a = 16384 := by unfold fold4; rw [if_pos (by omega)]; omega
  have hsn : sine a = rise (fold4 a) := by unfold sine; rw [if_neg (by omega)]
  rw [hsn, hfo]
  have n0 : 0 ≤ n ∧ n < 65536 := by omega
  have hrest := ref_rest6 a h1 h2 w
  rw [hn] at hrest
  rw [show rise 16384 = 16384 from rise_at 32 16384 rfl]
  have hS : ∀ w, Calls Tryd.prog 21 #[.int .i64 32] w fun e w' => e = .returned (.int .i64 16384) ∧ Below w.heap.size w w' := fun w => ref_s6 32 (by decide) (by decide) w
  clear hfo hsn hn
  go_enter Tryd.func10, Tryd.ntmps10
  go_wp2_with fail
  refine hrest.mono ?_
  rintro e w' ⟨rfl, rfl⟩
  clear hrest
  go_wp2_with fail
  refine (hS _).mono ?_
  rintro e wa ⟨rfl, hb1⟩
  go_wp2
  go_ret
  exact ⟨rfl, hb1⟩

theorem ref_sin2 (a n f : Int) (i : Nat) (hn : a % 65536 = n) (hq : n / 16384 = 2) (hf : n % 16384 = f) (hi : f / 512 = (i : Int)) (hi2 : i < 32) (h1 : -9223372036854775808 ≤ a) (h2 : a ≤ 9223372036854775807) (w : World) :
    Calls Tryd.prog 10 #[.int .i64 a] w fun e w' => e = .returned (.int .i32 (sine a)) ∧ Below w.heap.size w w' := by
  have hfo : fold4 a = f := by unfold fold4; rw [if_neg (by omega)]; omega
  have hsn : sine a = -rise (fold4 a) := by unfold sine; rw [if_pos (by omega)]
  rw [hsn, hfo]
  have n0 : 0 ≤ n ∧ n < 65536 := by omega
  have hrest := ref_rest6 a h1 h2 w
  rw [hn] at hrest
  have f0 : 0 ≤ f ∧ f < 16384 := by omega
  have a2 := stab_rises i hi2
  have a1 := stab_bd i (by omega)
  have a3 := stab_bd (i + 1) (by omega)
  have hS : ∀ w, Calls Tryd.prog 21 #[.int .i64 (i : Int)] w fun e w' => e = .returned (.int .i64 (stab.getD i 0)) ∧ Below w.heap.size w w' := fun w => ref_s6 (i : Int) (by omega) (by omega) w
  have hS1 : ∀ w, Calls Tryd.prog 21 #[.int .i64 ((i : Int) + 1)] w fun e w' => e = .returned (.int .i64 (stab.getD (i + 1) 0)) ∧ Below w.heap.size w w' := fun w => ref_s6 ((i : Int) + 1) (by omega) (by omega) w
  have hr : rise f = stab.getD i 0 + half ((stab.getD (i + 1) 0 - stab.getD i 0) * (f % 512)) 512 := by unfold rise; rw [hi]; rfl
  rw [hr]
  generalize stab.getD i 0 = p at a1 a2 hS ⊢
  generalize stab.getD (i + 1) 0 = q at a2 a3 hS1 ⊢
  obtain ⟨r, hr2⟩ : ∃ r, f % 512 = r := ⟨_, rfl⟩
  have r0 : 0 ≤ r ∧ r < 512 := by omega
  rw [hr2]
  obtain ⟨m0, m1, m2, m3⟩ := add_bd (q - p) r a2.1 r0.1 r0.2
  have hs : ∀ w, Calls Tryd.prog 22 #[.int .i64 ((q - p) * r), .int .i64 9] w fun e w' => e = .returned (.int .i64 (half ((q - p) * r) 512)) ∧ w = w' := fun w => (by
    rw [← shr_nine]; exact ref_shift _ _ (by omega) (by omega) w)
  generalize hu : (q - p) * r = u at hs m0 m1 m2 m3
  generalize hv : half u 512 = v at hs m2 m3
  have i33 : (i : Int) < 32 := by omega
  clear hr hv hfo hsn hn
  go_enter Tryd.func10, Tryd.ntmps10
  go_wp2_with fail
  refine hrest.mono ?_
  rintro e w' ⟨rfl, rfl⟩
  clear hrest
  go_wp2_with fail
  refine (hS _).mono ?_
  rintro e wa ⟨rfl, hb1⟩
  go_wp2_with fail
  refine (hS1 _).mono ?_
  rintro e wb ⟨rfl, hb2⟩
  have hb3 := below_two hb1 hb2
  clear hb1 hb2
  go_wp2_with fail
  refine (hS _).mono ?_
  rintro e wc ⟨rfl, hb4⟩
  have hb5 := below_two hb3 hb4
  clear hb3 hb4
  go_wp2_with fail
  refine (hs _).mono ?_
  rintro e w' ⟨rfl, rfl⟩
  go_wp2
  go_ret
  exact ⟨rfl, hb5⟩

theorem ref_sin3 (a n f : Int) (i : Nat) (hn : a % 65536 = n) (hq : n / 16384 = 3) (hf : n % 16384 = f) (hi : (16384 - f) / 512 = (i : Int)) (hi2 : i < 32) (h1 : -9223372036854775808 ≤ a) (h2 : a ≤ 9223372036854775807) (w : World) :
    Calls Tryd.prog 10 #[.int .i64 a] w fun e w' => e = .returned (.int .i32 (sine a)) ∧ Below w.heap.size w w' := by
  have hfo : fold4 a = (16384 - f) := by unfold fold4; rw [if_pos (by omega)]; omega
  have hsn : sine a = -rise (fold4 a) := by unfold sine; rw [if_pos (by omega)]
  rw [hsn, hfo]
  have n0 : 0 ≤ n ∧ n < 65536 := by omega
  have hrest := ref_rest6 a h1 h2 w
  rw [hn] at hrest
  have f0 : 0 ≤ f ∧ f < 16384 := by omega
  have a2 := stab_rises i hi2
  have a1 := stab_bd i (by omega)
  have a3 := stab_bd (i + 1) (by omega)
  have hS : ∀ w, Calls Tryd.prog 21 #[.int .i64 (i : Int)] w fun e w' => e = .returned (.int .i64 (stab.getD i 0)) ∧ Below w.heap.size w w' := fun w => ref_s6 (i : Int) (by omega) (by omega) w
  have hS1 : ∀ w, Calls Tryd.prog 21 #[.int .i64 ((i : Int) + 1)] w fun e w' => e = .returned (.int .i64 (stab.getD (i + 1) 0)) ∧ Below w.heap.size w w' := fun w => ref_s6 ((i : Int) + 1) (by omega) (by omega) w
  have hr : rise (16384 - f) = stab.getD i 0 + half ((stab.getD (i + 1) 0 - stab.getD i 0) * ((16384 - f) % 512)) 512 := by unfold rise; rw [hi]; rfl
  rw [hr]
  generalize stab.getD i 0 = p at a1 a2 hS ⊢
  generalize stab.getD (i + 1) 0 = q at a2 a3 hS1 ⊢
  obtain ⟨r, hr2⟩ : ∃ r, (16384 - f) % 512 = r := ⟨_, rfl⟩
  have r0 : 0 ≤ r ∧ r < 512 := by omega
  rw [hr2]
  obtain ⟨m0, m1, m2, m3⟩ := add_bd (q - p) r a2.1 r0.1 r0.2
  have hs : ∀ w, Calls Tryd.prog 22 #[.int .i64 ((q - p) * r), .int .i64 9] w fun e w' => e = .returned (.int .i64 (half ((q - p) * r) 512)) ∧ w = w' := fun w => (by
    rw [← shr_nine]; exact ref_shift _ _ (by omega) (by omega) w)
  generalize hu : (q - p) * r = u at hs m0 m1 m2 m3
  generalize hv : half u 512 = v at hs m2 m3
  have i33 : (i : Int) < 32 := by omega
  clear hr hv hfo hsn hn
  go_enter Tryd.func10, Tryd.ntmps10
  go_wp2_with fail
  refine hrest.mono ?_
  rintro e w' ⟨rfl, rfl⟩
  clear hrest
  go_wp2_with fail
  refine (hS _).mono ?_
  rintro e wa ⟨rfl, hb1⟩
  go_wp2_with fail
  refine (hS1 _).mono ?_
  rintro e wb ⟨rfl, hb2⟩
  have hb3 := below_two hb1 hb2
  clear hb1 hb2
  go_wp2_with fail
  refine (hS _).mono ?_
  rintro e wc ⟨rfl, hb4⟩
  have hb5 := below_two hb3 hb4
  clear hb3 hb4
  go_wp2_with fail
  refine (hs _).mono ?_
  rintro e w' ⟨rfl, rfl⟩
  go_wp2
  go_ret
  exact ⟨rfl, hb5⟩

theorem ref_sin3e (a n : Int) (hn : a % 65536 = n) (hq : n / 16384 = 3) (hf : n % 16384 = 0) (h1 : -9223372036854775808 ≤ a) (h2 : a ≤ 9223372036854775807) (w : World) :
    Calls Tryd.prog 10 #[.int .i64 a] w fun e w' => e = .returned (.int .i32 (sine a)) ∧ Below w.heap.size w w' := by
  have hfo : fold4 a = 16384 := by unfold fold4; rw [if_pos (by omega)]; omega
  have hsn : sine a = -rise (fold4 a) := by unfold sine; rw [if_pos (by omega)]
  rw [hsn, hfo]
  have n0 : 0 ≤ n ∧ n < 65536 := by omega
  have hrest := ref_rest6 a h1 h2 w
  rw [hn] at hrest
  rw [show rise 16384 = 16384 from rise_at 32 16384 rfl]
  have hS : ∀ w, Calls Tryd.prog 21 #[.int .i64 32] w fun e w' => e = .returned (.int .i64 16384) ∧ Below w.heap.size w w' := fun w => ref_s6 32 (by decide) (by decide) w
  clear hfo hsn hn
  go_enter Tryd.func10, Tryd.ntmps10
  go_wp2_with fail
  refine hrest.mono ?_
  rintro e w' ⟨rfl, rfl⟩
  clear hrest
  go_wp2_with fail
  refine (hS _).mono ?_
  rintro e wa ⟨rfl, hb1⟩
  go_wp2
  go_ret
  exact ⟨rfl, hb1⟩

theorem ref_sin6 (a : Int) (h1 : -9223372036854775808 ≤ a) (h2 : a ≤ 9223372036854775807) (w : World) :
    Calls Tryd.prog 10 #[.int .i64 a] w fun e w' => e = .returned (.int .i32 (sine a)) ∧ Below w.heap.size w w' := by
  obtain ⟨n, hn⟩ : ∃ n, a % 65536 = n := ⟨_, rfl⟩
  obtain ⟨f, hf⟩ : ∃ f, n % 16384 = f := ⟨_, rfl⟩
  have hq : n / 16384 = 0 ∨ n / 16384 = 1 ∨ n / 16384 = 2 ∨ n / 16384 = 3 := by omega
  rcases hq with hq | hq | hq | hq
  · exact ref_sin0 a n f (f / 512).toNat hn hq hf (by omega) (by omega) h1 h2 w
  · by_cases e : f = 0
    · exact ref_sin1e a n hn hq (hf.trans e) h1 h2 w
    · exact ref_sin1 a n f ((16384 - f) / 512).toNat hn hq hf (by omega) (by omega) h1 h2 w
  · exact ref_sin2 a n f (f / 512).toNat hn hq hf (by omega) (by omega) h1 h2 w
  · by_cases e : f = 0
    · exact ref_sin3e a n hn hq (hf.trans e) h1 h2 w
    · exact ref_sin3 a n f ((16384 - f) / 512).toNat hn hq hf (by omega) (by omega) h1 h2 w

theorem ref_cos6 (a : Int) (h1 : -9223372036854775808 ≤ a) (h2 : a ≤ 9223372036854775807) (w : World) :
    Calls Tryd.prog 12 #[.int .i64 a] w fun e w' => e = .returned (.int .i32 (cosi a)) ∧ Below w.heap.size w w' := by
  have hrest := ref_rest6 a h1 h2 w
  have hc : sine (a % 65536 + 16384) = cosi a := sine_congr (by omega)
  have n0 : 0 ≤ a % 65536 ∧ a % 65536 < 65536 := by omega
  generalize a % 65536 = n at hrest hc n0
  have hs := ref_sin6 (n + 16384) (by omega) (by omega)
  rw [hc] at hs
  generalize cosi a = c at hs ⊢
  clear hc
  go_enter Tryd.func12, Tryd.ntmps12
  go_wp2_with fail
  refine hrest.mono ?_
  rintro e w' ⟨rfl, rfl⟩
  go_wp2_with fail
  refine (hs _).mono ?_
  rintro e wa ⟨rfl, hb⟩
  go_wp2
  go_ret
  exact ⟨rfl, hb⟩

set_option maxHeartbeats 400000 in
theorem ref_angle6 (place pair : Int) (h2 : pair ≤ 9223372036854775807) (w : World) :
    Calls Tryd.prog 14 #[.int .i64 place, .int .i64 pair] w fun e w' => e = .returned (.int .i64 (ang place pair)) ∧ w = w' := by
  by_cases c0 : place < 0
  · rw [ang_no (.inl c0)]
    go_enter Tryd.func14, Tryd.ntmps14
    go_wp2
    go_ret
    exact ⟨rfl, rfl⟩
  · by_cases c1 : 1048576 < place
    · rw [ang_no (.inr (.inl c1))]
      go_enter Tryd.func14, Tryd.ntmps14
      go_wp2
      go_ret
      exact ⟨rfl, rfl⟩
    · by_cases c2 : pair < 0
      · rw [ang_no (.inr (.inr c2))]
        go_enter Tryd.func14, Tryd.ntmps14
        go_wp2
        go_ret
        exact ⟨rfl, rfl⟩
      · rw [ang_at (by omega) (by omega) (by omega)]
        obtain ⟨p, rfl⟩ : ∃ p : Nat, pair = p := ⟨pair.toNat, by omega⟩
        obtain ⟨place, rfl⟩ : ∃ p : Nat, place = p := ⟨place.toNat, by omega⟩
        rw [Int.toNat_natCast]
        have p0 : place ≤ 1048576 := by omega
        have hlast := step_bd p
        have HG : Hid (∀ k, k ≤ p → (8192 : Int) / 2 ^ k = 0 → (8192 : Int) / 2 ^ p = 0) := Lib.hid (fun k hk h => step_gone h hk)
        obtain ⟨h, hh⟩ : ∃ h, (8192 : Int) / 2 ^ p = h := ⟨_, rfl⟩
        rw [hh] at hlast ⊢
        have HH := Lib.hid hh
        clear hh
        have hm : 0 ≤ (place : Int) * h ∧ (place : Int) * h ≤ 1048576 * 8192 := ⟨Int.mul_nonneg (by omega) hlast.1, Int.mul_le_mul (by omega) hlast.2 hlast.1 (by decide)⟩
        have hrest := ref_rest6 ((place : Int) * h) (by omega) (by omega)
        go_enter Tryd.func14, Tryd.ntmps14
        go_wp2
        go_loop [5, 6] (fun n i => ∃ (k : Nat) (m : Int), k ≤ p ∧ i = .int .i64 k ∧ n = .int .i64 m ∧ 0 ≤ m ∧ m ≤ 8192 ∧ Hid ((8192 : Int) / 2 ^ k = m)) (fun _ i => p - (intOf i).toNat)
        case atStart => exact ⟨0, 8192, by omega, rfl, rfl, by omega, by omega, Lib.hid (by decide)⟩
        case round =>
          obtain ⟨k, m, hk, rfl, rfl, m0, m1, HK⟩ := hrel
          by_cases hlt : k < p
          · by_cases hm0 : 0 < m
            · have HN : Hid ((8192 : Int) / 2 ^ (k + 1) = m / 2) := Lib.hid (by rw [step_next, HK.out])
              have m2 : 0 ≤ m / 2 ∧ m / 2 ≤ 8192 := by omega
              clear HK
              go_wp2
              go_round
              case rel => exact ⟨k + 1, m / 2, by omega, by go_num, rfl, m2.1, m2.2, HN⟩
              case measure => simp [intOf]; omega
            · obtain rfl : m = 0 := by omega
              obtain rfl : h = 0 := by rw [← HH.out]; exact HG.out k hk HK.out
              clear HK HH HG
              go_wp2_with fail
              refine (hrest _).mono ?_
              rintro e w' ⟨rfl, rfl⟩
              go_wp2
              go_ret
              exact ⟨rfl, rfl⟩
          · obtain rfl : k = p := by omega
            obtain rfl : h = m := by rw [← HH.out]; exact HK.out
            clear HK HH HG
            go_wp2_with fail
            refine (hrest _).mono ?_
            rintro e w' ⟨rfl, rfl⟩
            go_wp2
            go_ret
            exact ⟨rfl, rfl⟩

end Go.Proofs.YtbggklhnmkiamaaDoor
