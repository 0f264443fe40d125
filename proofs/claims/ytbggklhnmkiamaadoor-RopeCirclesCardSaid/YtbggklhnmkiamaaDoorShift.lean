/-
  Contracts of Shift, product, Scale and Quant and of the document's Shift and Scale: for every argument of its type each returns 'shr' (the nearest whole number, of two the even one), brought to its range where it is to be, and leaves memory as it was.
-/
import Derived.Test.YtbggklhnmkiamaaDoorBring
namespace Go.Proofs.YtbggklhnmkiamaaDoor
open Go.RowKit
set_option linter.unusedVariables false


set_option maxHeartbeats 400000 in
theorem shift (x n : Int) (h1 : -9223372036854775808 ≤ x) (h2 : x ≤ 9223372036854775807) (w : World) :
    Calls Tryd.prog 27 #[.int .i64 x, .int .i64 n] w fun e w' => e = .returned (.int .i64 (shr x n)) ∧ w = w' := by
  obtain ⟨m, hm⟩ : ∃ m, near n 0 62 = m := ⟨_, rfl⟩
  have hb : ∀ w, Calls Tryd.prog 29 #[.int .i64 n, .int .i64 0, .int .i64 62] w fun e w' => e = .returned (.int .i64 m) ∧ w = w' := by
    intro w; rw [← hm]; exact bring64 n 0 62 (by decide) w
  have hm2 := near_in n 0 62 (by decide)
  rw [hm] at hm2
  obtain ⟨m1, m2⟩ := hm2
  have hs : shr x n = if m = 0 then x else half x (2 ^ m.toNat) := by unfold shr; rw [hm]
  rw [hs]
  clear hm hs
  by_cases c0 : m = 0
  · subst c0
    go_enter Tryd.func27, Tryd.ntmps27
    go_wp2_with (go_at_call 29; refine (hb _).mono ?_; rintro e w' ⟨rfl, rfl⟩)
    go_ret
    exact ⟨rfl, rfl⟩
  · rw [if_neg c0]
    have p1 := pow_bounds m (by omega) m2
    have p2 : (1 : Int) ≤ 2 ^ (m.toNat - 1) ∧ (2 : Int) ^ (m.toNat - 1) ≤ 4611686018427387904 := by have h := pow_bounds (m - 1) (by omega) (by omega); rwa [show (m - 1).toNat = m.toNat - 1 by omega] at h
    have p3 := pow_half m (by omega)
    have p4 := and_mask x m.toNat (by omega)
    have p5 := and_one (x / 2 ^ m.toNat)
    have p6 := quo_bounds x (2 ^ m.toNat) h1 h2 (by omega)
    have r1 := Int.emod_nonneg x (b := 2 ^ m.toNat) (by omega)
    have r2 := Int.emod_lt_of_pos x (b := 2 ^ m.toNat) (by omega)
    have P3 := Lib.hid p3
    clear p3
    by_cases c1 : 2 ^ (m.toNat - 1) < x % 2 ^ m.toNat
    · go_enter Tryd.func27, Tryd.ntmps27
      go_wp2_with (go_at_call 29; refine (hb _).mono ?_; rintro e w' ⟨rfl, rfl⟩)
      go_ret
      exact ⟨ret_int (by have := P3.out; unfold half; rw [if_pos (by omega)]), rfl⟩
    · by_cases c2 : x % 2 ^ m.toNat = 2 ^ (m.toNat - 1)
      · have C2 := Lib.hid c2
        have c2' : (x % 2 ^ m.toNat == 2 ^ (m.toNat - 1)) = true := by simpa using c2
        clear c2
        by_cases c3 : x / 2 ^ m.toNat % 2 = 1
        · have c3' : (x / 2 ^ m.toNat % 2 == 1) = true := by simpa using c3
          have C3 := Lib.hid c3
          clear c3
          go_enter Tryd.func27, Tryd.ntmps27
          go_wp2_with (go_at_call 29; refine (hb _).mono ?_; rintro e w' ⟨rfl, rfl⟩)
          go_ret
          exact ⟨ret_int (by have := P3.out; have := C2.out; have := C3.out; unfold half; rw [if_pos (by omega)]), rfl⟩
        · have c3' : (x / 2 ^ m.toNat % 2 == 1) = false := by simpa using c3
          have C3 := Lib.hid c3
          clear c3
          go_enter Tryd.func27, Tryd.ntmps27
          go_wp2_with (go_at_call 29; refine (hb _).mono ?_; rintro e w' ⟨rfl, rfl⟩)
          go_ret
          exact ⟨ret_int (by have := P3.out; have := C2.out; have := C3.out; unfold half; rw [if_neg (by omega)]), rfl⟩
      · have c2' : (x % 2 ^ m.toNat == 2 ^ (m.toNat - 1)) = false := by simpa using c2
        have C2 := Lib.hid c2
        clear c2
        go_enter Tryd.func27, Tryd.ntmps27
        go_wp2_with (go_at_call 29; refine (hb _).mono ?_; rintro e w' ⟨rfl, rfl⟩)
        go_ret
        exact ⟨ret_int (by have := P3.out; have := C2.out; unfold half; rw [if_neg (by omega)]), rfl⟩

end Go.Proofs.YtbggklhnmkiamaaDoor
