/-
  Contracts of rising, Sin, Cos and Angle: in a world whose table holds the document's numbers each returns what the document says, for every argument of its type, and makes no memory.
-/
import Derived.Test.YtbggklhnmkiamaaDoorRopeMath
import Derived.Test.YtbggklhnmkiamaaDoorShift
namespace Go.Proofs.YtbggklhnmkiamaaDoor
open Go.RowKit
set_option linter.unusedVariables false

/-- the program's table of sines holds the document's numbers -/
def STab (w : World) : Prop := ∀ i, i < 33 → w.cell? ⟨0, i, none⟩ = some (.int .i32 (stab.getD i 0))
theorem STab.below {w w' : World} (h : STab w) (hb : Below w.heap.size w w') : STab w' := fun i hi => (hb.cell (p := ⟨0, i, none⟩) (World.block_lt_of_cell? _ _ (h i hi))).trans (h i hi)
theorem STab.drewN {w : World} (h : STab w) (d : Nat) : STab (w.drewN d) := h

theorem rising (s : Int) (h0 : 0 ≤ s) (h1 : s ≤ 16384) (w : World) (hT : STab w) :
    Calls Tryd.prog 19 #[.int .i64 s] w fun e w' => e = .returned (.int .i32 (rise s)) ∧ ∃ d, w' = w.drewN d := by
  obtain ⟨i, hi⟩ : ∃ i : Nat, s / 512 = (i : Int) := ⟨(s / 512).toNat, by omega⟩
  have hm : bits .and .i64 s 511 = s % 512 := by have := and_mask s 9 (by decide); simpa using this
  have ha := hT i (by omega)
  by_cases c0 : s % 512 = 0
  · have hr := rise_at i s (by omega)
    rw [hr]
    rw [c0] at hm
    generalize stab.getD i 0 = p at ha
    have hi' : s / 512 = (i : Int) := hi
    have i33 : (i : Int) < 33 := by omega
    clear hr hT
    go_enter Tryd.func19, Tryd.ntmps19
    go_wp2
    go_ret
    exact ⟨rfl, 0, rfl⟩
  · have hi2 : i < 32 := by omega
    have hb := hT (i + 1) (by omega)
    have a1 := stab_bd i (by omega)
    have a3 := stab_bd (i + 1) (by omega)
    have a2 := stab_rises i hi2
    have hr : rise s = stab.getD i 0 + half ((stab.getD (i + 1) 0 - stab.getD i 0) * (s % 512)) 512 := by unfold rise; rw [hi]; rfl
    rw [hr]
    clear hr hT
    generalize stab.getD i 0 = p at ha a1 a2 ⊢
    generalize stab.getD (i + 1) 0 = q at hb a2 a3 ⊢
    obtain ⟨r, hr⟩ : ∃ r, s % 512 = r := ⟨_, rfl⟩
    have r0 : 0 ≤ r ∧ r < 512 := by omega
    have r1 : (r == 0) = false := by simp; omega
    rw [hr] at hm ⊢
    obtain ⟨m0, m1, m2, m3⟩ := add_bd (q - p) r a2.1 r0.1 r0.2
    have hs : ∀ w, Calls Tryd.prog 27 #[.int .i64 ((q - p) * r), .int .i64 9] w fun e w' => e = .returned (.int .i64 (half ((q - p) * r) 512)) ∧ w' = w := fun w => (by
      rw [← shr_nine]; exact (shift _ _ (by omega) (by omega) w).mono (fun e w' h => ⟨h.1, h.2.symm⟩))
    generalize hu : (q - p) * r = u at hs m0 m1 m2 m3
    generalize hv : half u 512 = v at hs m2 m3
    have e0 : IntKind.i32.wrap (q - p) = q - p := IntWalk.i32_in _ (by omega)
    have e1 : IntKind.i64.wrap (q - p) = q - p := IntWalk.i64_in _ (by omega)
    have e2 : IntKind.i64.wrap u = u := IntWalk.i64_in _ (by omega)
    have e3 : IntKind.i32.wrap v = v := IntWalk.i32_in _ (by omega)
    have e4 : IntKind.i32.wrap (p + v) = p + v := IntWalk.i32_in _ (by omega)
    have e5 : IntKind.i64.wrap ((i : Int) + 1) = (i : Int) + 1 := IntWalk.i64_in _ (by omega)
    have hi' : s / 512 = (i : Int) := hi
    have i33 : (i : Int) + 1 < 33 := by omega
    clear hr hv
    go_enter Tryd.func19, Tryd.ntmps19
    go_wp2
    go_quiet (first | (go_at_call 27; refine Calls.quiet_of_same (hs _)))
    go_wp2
    go_ret
    exact ⟨rfl, _, rfl⟩

theorem sin_any (a : Int) (h1 : -9223372036854775808 ≤ a) (h2 : a ≤ 9223372036854775807) (w : World) (hT : STab w) :
    Calls Tryd.prog 9 #[.int .i64 a] w fun e w' => e = .returned (.int .i32 (sine a)) ∧ ∃ d, w' = w.drewN d := by
  have hm1 : bits .and .i64 (a / 16384) 3 = a / 16384 % 4 := by have := and_mask (a / 16384) 2 (by decide); simpa using this
  have hm2 : bits .and .i64 a 16383 = a % 16384 := by have := and_mask a 14 (by decide); simpa using this
  have hm3 := and_one (a / 16384 % 4)
  have hf := fold4_bd a
  have hr := rising (fold4 a) hf.1 hf.2 w hT
  have hb := rise_bd (fold4 a) hf.1 hf.2
  have q0 : 0 ≤ a / 16384 % 4 ∧ a / 16384 % 4 < 4 := by omega
  have f0 : 0 ≤ a % 16384 ∧ a % 16384 < 16384 := by omega
  have hq2 : a / 16384 % 4 % 2 = a / 16384 % 2 := by omega
  by_cases c0 : a / 16384 % 2 = 1
  · have hfo : fold4 a = 16384 - a % 16384 := by unfold fold4; rw [if_pos c0]
    rw [c0] at hq2
    rw [hq2] at hm3
    by_cases c1 : 2 ≤ a / 16384 % 4
    · have hsn : sine a = -rise (fold4 a) := by unfold sine; rw [if_pos c1]
      rw [hsn]
      rw [hfo] at hr hb ⊢
      generalize a / 16384 % 4 = q at hm1 hm3 q0 c1
      generalize a % 16384 = f at hm2 hr hb f0 ⊢
      generalize rise (16384 - f) = v at hr hb ⊢
      clear hfo hsn hq2 hf c0 hT
      go_enter Tryd.func9, Tryd.ntmps9
      go_wp2_with fail
      refine hr.mono ?_
      rintro e w' ⟨rfl, d, rfl⟩
      go_wp2
      go_ret
      exact ⟨rfl, _, rfl⟩
    · have hsn : sine a = rise (fold4 a) := by unfold sine; rw [if_neg c1]
      rw [hsn]
      rw [hfo] at hr hb ⊢
      have c1' : ¬ 2 ≤ a / 16384 % 4 := c1
      generalize a / 16384 % 4 = q at hm1 hm3 q0 c1 c1'
      generalize a % 16384 = f at hm2 hr hb f0 ⊢
      generalize rise (16384 - f) = v at hr hb ⊢
      clear hfo hsn hq2 hf c0 hT
      go_enter Tryd.func9, Tryd.ntmps9
      go_wp2_with fail
      refine hr.mono ?_
      rintro e w' ⟨rfl, d, rfl⟩
      go_wp2
      go_ret
      exact ⟨rfl, _, rfl⟩
  · have hfo : fold4 a = a % 16384 := by unfold fold4; rw [if_neg c0]
    have hq3 : a / 16384 % 2 = 0 := by omega
    rw [hq3] at hq2
    rw [hq2] at hm3
    by_cases c1 : 2 ≤ a / 16384 % 4
    · have hsn : sine a = -rise (fold4 a) := by unfold sine; rw [if_pos c1]
      rw [hsn]
      rw [hfo] at hr hb ⊢
      generalize a / 16384 % 4 = q at hm1 hm3 q0 c1
      generalize a % 16384 = f at hm2 hr hb f0 ⊢
      generalize rise f = v at hr hb ⊢
      clear hfo hsn hq2 hq3 hf c0 hT
      go_enter Tryd.func9, Tryd.ntmps9
      go_wp2_with fail
      refine hr.mono ?_
      rintro e w' ⟨rfl, d, rfl⟩
      go_wp2
      go_ret
      exact ⟨rfl, _, rfl⟩
    · have hsn : sine a = rise (fold4 a) := by unfold sine; rw [if_neg c1]
      rw [hsn]
      rw [hfo] at hr hb ⊢
      have c1' : ¬ 2 ≤ a / 16384 % 4 := c1
      generalize a / 16384 % 4 = q at hm1 hm3 q0 c1 c1'
      generalize a % 16384 = f at hm2 hr hb f0 ⊢
      generalize rise f = v at hr hb ⊢
      clear hfo hsn hq2 hq3 hf c0 hT
      go_enter Tryd.func9, Tryd.ntmps9
      go_wp2_with fail
      refine hr.mono ?_
      rintro e w' ⟨rfl, d, rfl⟩
      go_wp2
      go_ret
      exact ⟨rfl, _, rfl⟩

theorem cos_any (a : Int) (w : World) (hT : STab w) :
    Calls Tryd.prog 11 #[.int .i64 a] w fun e w' => e = .returned (.int .i32 (cosi a)) ∧ ∃ d, w' = w.drewN d := by
  have hb := wrap64_bd (a + 16384)
  have hs := sin_any (wrap64 (a + 16384)) hb.1 hb.2 w hT
  rw [sine_wrap] at hs
  have hc : sine (a + 16384) = cosi a := rfl
  rw [hc] at hs
  generalize cosi a = c at hs ⊢
  clear hb hc
  go_enter Tryd.func11, Tryd.ntmps11
  go_wp2_with fail
  refine hs.mono ?_
  rintro e w' ⟨rfl, d, rfl⟩
  go_wp2
  go_ret
  exact ⟨rfl, _, rfl⟩

theorem angle_any (place pair : Int) (h1 : -9223372036854775808 ≤ pair) (h2 : pair ≤ 9223372036854775807) (w : World) :
    Calls Tryd.prog 13 #[.int .i64 place, .int .i64 pair] w fun e w' => e = .returned (.int .i64 (ang place pair)) ∧ w = w' := by
  by_cases c0 : place < 0
  · rw [ang_no (.inl c0)]
    go_enter Tryd.func13, Tryd.ntmps13
    go_wp2
    go_ret
    exact ⟨rfl, rfl⟩
  · by_cases c1 : 1048576 < place
    · rw [ang_no (.inr (.inl c1))]
      go_enter Tryd.func13, Tryd.ntmps13
      go_wp2
      go_ret
      exact ⟨rfl, rfl⟩
    · by_cases c2 : pair < 0
      · rw [ang_no (.inr (.inr c2))]
        go_enter Tryd.func13, Tryd.ntmps13
        go_wp2
        go_ret
        exact ⟨rfl, rfl⟩
      · rw [ang_at (by omega) (by omega) (by omega), ← step_min]
        have hs := step_bd (min pair.toNat 64)
        have p0 : 0 ≤ place ∧ place ≤ 1048576 := by omega
        have hp : 0 ≤ place * (8192 / 2 ^ min pair.toNat 64) ∧ place * (8192 / 2 ^ min pair.toNat 64) ≤ 1048576 * 8192 := ⟨Int.mul_nonneg p0.1 hs.1, Int.mul_le_mul p0.2 hs.2 hs.1 (by decide)⟩
        have hm : bits .and .i64 (place * (8192 / 2 ^ min pair.toNat 64)) 65535 = place * (8192 / 2 ^ min pair.toNat 64) % 65536 := by have := and_mask (place * (8192 / 2 ^ min pair.toNat 64)) 16 (by decide); simpa using this
        go_enter Tryd.func13, Tryd.ntmps13
        go_wp2
        go_ret
        exact ⟨rfl, rfl⟩

end Go.Proofs.YtbggklhnmkiamaaDoor
