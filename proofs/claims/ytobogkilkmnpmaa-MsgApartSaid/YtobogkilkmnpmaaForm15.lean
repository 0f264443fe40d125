/-
  Contracts of package msg's formOf, tells, lists, most and numbers.
-/
import Derived.Test.YtobogkilkmnpmaaMath15
import Derived.Test.YtobogkilkmnpmaaMapF
import Derived.Test.YtobogkilkmnpmaaResRow
import Derived.Deep.RegionHeld3
import Derived.BigRegion
import Derived.Deep.CutRange
namespace Go.Proofs.Ytobogkilkmnpmaa
open Go.RowKit Go.Maps
set_option linter.unusedVariables false
set_option linter.unusedSimpArgs false

theorem int_law15 : Keyed Try.prog 3 := int_keyed Try.underlying3

/-- the forms' map -/
noncomputable def FF : Lit → Option Value :=
  upF (upF (upF (upF (upF (upF (upF (upF (upF (upF (upF (upF (upF (fun _ => none) (.int .i64 1) (.int .u8 71)) (.int .i64 2) (.int .u8 143)) (.int .i64 3) (.int .u8 191)) (.int .i64 4) (.int .u8 71)) (.int .i64 5) (.int .u8 49)) (.int .i64 6) (.int .u8 1)) (.int .i64 7) (.int .u8 49)) (.int .i64 8) (.int .u8 35)) (.int .i64 9) (.int .u8 194)) (.int .i64 10) (.int .u8 2)) (.int .i64 11) (.int .u8 66)) (.int .i64 12) (.int .u8 70)) (.int .i64 13) (.int .u8 6)
theorem FF_at (k : Int) : (FF (.int .i64 k)).getD (.int .u8 0) = .int .u8 (fm k : Nat) ∧ (FF (.int .i64 k)).isSome = decide (fm k ≠ 0) := by
  rcases kind_cases k with rfl | rfl | rfl | rfl | rfl | rfl | rfl | rfl | rfl | rfl | rfl | rfl | rfl | h
  case inr.inr.inr.inr.inr.inr.inr.inr.inr.inr.inr.inr.inr =>
    rw [fm_none h]
    have e : FF (.int .i64 k) = none := by
      unfold FF
      rw [upF_other _ (by simp; omega), upF_other _ (by simp; omega), upF_other _ (by simp; omega), upF_other _ (by simp; omega), upF_other _ (by simp; omega), upF_other _ (by simp; omega), upF_other _ (by simp; omega), upF_other _ (by simp; omega), upF_other _ (by simp; omega), upF_other _ (by simp; omega), upF_other _ (by simp; omega), upF_other _ (by simp; omega), upF_other _ (by simp; omega)]
    rw [e]; exact ⟨rfl, rfl⟩
  all_goals simp [FF, upF, fm]

set_option maxHeartbeats 1600000 in
set_option maxRecDepth 100000 in
theorem formOf15 (k : Int) (hk : (Lit.int .i64 k).wf = true) (w : World) :
    Calls Try.prog 34 #[.int .i64 k] w fun e w' => e = .returned (.tuple #[.int .u8 (fm k : Nat), .bool (decide (fm k ≠ 0))]) ∧ Below w.heap.size w w' := by
  have hmm := @run_makeMap Try.prog
  have m0 : MapAt (w.alloc (.map #[] 0)) 3 w.heap.size 0 (fun _ => none) := mapAt_made w _ rfl
  have b0 : Below w.heap.size w (w.alloc (.map #[] 0)) := (Below.refl _ _).alloc (Nat.le_refl _) _
  have ky : ∀ a : Int, (Lit.int .i64 a).wf = true → keyOf Try.prog 3 (.int .i64 a) = some (.int .i64 a) := fun a h => keyOf_int_mk Try.underlying3 h
  have nx : ∀ b : Nat, some w.heap.size = some b → w.heap.size ≤ b := fun b h => by cases h; exact Nat.le_refl _
  obtain ⟨w1, r1, m1, g1⟩ := m0.upd int_law15 Try.underlying77 (by unfold maxLen; omega) (ky 1 (by decide)) (.int .u8 71) (n' := 1) (by simp)
  have b1 := b0.grown g1 b0.size nx
  obtain ⟨w2, r2, m2, g2⟩ := m1.upd int_law15 Try.underlying77 (by unfold maxLen; omega) (ky 2 (by decide)) (.int .u8 143) (n' := 2) (by simp [upF])
  have b2 := b1.grown g2 b1.size nx
  obtain ⟨w3, r3, m3, g3⟩ := m2.upd int_law15 Try.underlying77 (by unfold maxLen; omega) (ky 3 (by decide)) (.int .u8 191) (n' := 3) (by simp [upF])
  have b3 := b2.grown g3 b2.size nx
  obtain ⟨w4, r4, m4, g4⟩ := m3.upd int_law15 Try.underlying77 (by unfold maxLen; omega) (ky 4 (by decide)) (.int .u8 71) (n' := 4) (by simp [upF])
  have b4 := b3.grown g4 b3.size nx
  obtain ⟨w5, r5, m5, g5⟩ := m4.upd int_law15 Try.underlying77 (by unfold maxLen; omega) (ky 5 (by decide)) (.int .u8 49) (n' := 5) (by simp [upF])
  have b5 := b4.grown g5 b4.size nx
  obtain ⟨w6, r6, m6, g6⟩ := m5.upd int_law15 Try.underlying77 (by unfold maxLen; omega) (ky 6 (by decide)) (.int .u8 1) (n' := 6) (by simp [upF])
  have b6 := b5.grown g6 b5.size nx
  obtain ⟨w7, r7, m7, g7⟩ := m6.upd int_law15 Try.underlying77 (by unfold maxLen; omega) (ky 7 (by decide)) (.int .u8 49) (n' := 7) (by simp [upF])
  have b7 := b6.grown g7 b6.size nx
  obtain ⟨w8, r8, m8, g8⟩ := m7.upd int_law15 Try.underlying77 (by unfold maxLen; omega) (ky 8 (by decide)) (.int .u8 35) (n' := 8) (by simp [upF])
  have b8 := b7.grown g8 b7.size nx
  obtain ⟨w9, r9, m9, g9⟩ := m8.upd int_law15 Try.underlying77 (by unfold maxLen; omega) (ky 9 (by decide)) (.int .u8 194) (n' := 9) (by simp [upF])
  have b9 := b8.grown g9 b8.size nx
  obtain ⟨w10, r10, m10, g10⟩ := m9.upd int_law15 Try.underlying77 (by unfold maxLen; omega) (ky 10 (by decide)) (.int .u8 2) (n' := 10) (by simp [upF])
  have b10 := b9.grown g10 b9.size nx
  obtain ⟨w11, r11, m11, g11⟩ := m10.upd int_law15 Try.underlying77 (by unfold maxLen; omega) (ky 11 (by decide)) (.int .u8 66) (n' := 11) (by simp [upF])
  have b11 := b10.grown g11 b10.size nx
  obtain ⟨w12, r12, m12, g12⟩ := m11.upd int_law15 Try.underlying77 (by unfold maxLen; omega) (ky 12 (by decide)) (.int .u8 70) (n' := 12) (by simp [upF])
  have b12 := b11.grown g12 b11.size nx
  obtain ⟨w13, r13, m13, g13⟩ := m12.upd int_law15 Try.underlying77 (by unfold maxLen; omega) (ky 13 (by decide)) (.int .u8 6) (n' := 13) (by simp [upF])
  have b13 := b12.grown g13 b12.size nx
  have hz : (zeroValue 59).run Try.prog w13 = .ok (.int .u8 0) w13 := by
    have h := Try.zeroValue59
    first
      | exact h w13
      | simp [go_sem, h]
  have hl := m13.look int_law15 Try.underlying77 hz (ky k hk) (FF_at k).1 (FF_at k).2
  have HB := Lib.hid b13
  clear m0 m1 m2 m3 m4 m5 m6 m7 m8 m9 m10 m11 m12 m13 g1 g2 g3 g4 g5 g6 g7 g8 g9 g10 g11 g12 g13 b0 b1 b2 b3 b4 b5 b6 b7 b8 b9 b10 b11 b12 b13 ky nx hz
  generalize decide (fm k ≠ 0) = ok at *
  generalize fm k = f at *
  go_enter Try.func34, Try.ntmps34
  go_wp2
  go_ret2
  exact ⟨rfl, HB.out⟩

/-- a byte's bit -/
theorem bit15 (f i : Nat) (hf : f < 256) (hi : i < 8) : (bits .and .u8 ((f / 2 ^ i : Nat) : Int) 1 == 1) = f.testBit i := by
  have h : ∀ f : Fin 256, ∀ i : Fin 8, (bits .and .u8 ((f.1 / 2 ^ i.1 : Nat) : Int) 1 == 1) = f.1.testBit i.1 := by decide +kernel
  exact h ⟨f, hf⟩ ⟨i, hi⟩
theorem bit15b (f : Nat) (hf : f < 256) : (bits .and .u8 (f : Int) 128 != 0) = f.testBit 7 := by
  have h : ∀ f : Fin 256, (bits .and .u8 (f.1 : Int) 128 != 0) = f.1.testBit 7 := by decide +kernel
  exact h ⟨f, hf⟩

set_option maxHeartbeats 800000 in
set_option maxRecDepth 100000 in
theorem tells15 (f i : Nat) (hf : f < 256) (hi : i < 7) (w : World) :
    Calls Try.prog 35 #[.int .u8 (f : Int), .int .i64 (i : Int)] w fun e w' => e = .returned (.bool (f.testBit i)) ∧ w' = w := by
  obtain ⟨q, hq⟩ : ∃ q, f / 2 ^ i = q := ⟨_, rfl⟩
  have hb := bit15 f i hf (by omega)
  have hle : f / 2 ^ i ≤ f := Nat.div_le_self _ _
  rw [hq] at hb hle
  have h1 : ¬ (i : Int) < 0 := by omega
  have h2 : ((f : Int) / 2 ^ i) = (q : Int) := by rw [← hq, Int.natCast_ediv]; norm_cast
  have h3 : IntKind.u8.wrap (q : Int) = (q : Int) := by rw [IntKind.wrap_u8']; omega
  clear hq hle
  go_enter Try.func35, Try.ntmps35
  go_wp2
  go_ret
  exact ⟨rfl, rfl⟩
set_option maxRecDepth 100000 in
theorem lists15 (f : Nat) (hf : f < 256) (w : World) :
    Calls Try.prog 40 #[.int .u8 (f : Int)] w fun e w' => e = .returned (.bool (f.testBit 7)) ∧ w' = w := by
  have hb := bit15b f hf
  go_enter Try.func40, Try.ntmps40
  go_wp2
  go_ret
  exact ⟨rfl, rfl⟩
set_option maxRecDepth 100000 in
theorem most15_c (f : Nat) (hf : f < 256) (w : World) :
    Calls Try.prog 36 #[.int .u8 (f : Int)] w fun e w' => e = .returned (.int .i64 (most15 f : Nat)) ∧ w' = w := by
  have h := lists15 f hf
  cases hb : f.testBit 7 with
  | true =>
    have hm : most15 f = 4096 := by unfold most15; rw [hb]; rfl
    rw [hm]
    rw [hb] at h
    go_enter Try.func36, Try.ntmps36
    go_wp2_with (go_at_call 40; refine (h _).mono ?_; rintro e w' ⟨rfl, rfl⟩)
    go_ret
    exact ⟨rfl, rfl⟩
  | false =>
    have hm : most15 f = 0 := by unfold most15; rw [hb]; rfl
    rw [hm]
    rw [hb] at h
    go_enter Try.func36, Try.ntmps36
    go_wp2_with (go_at_call 40; refine (h _).mono ?_; rintro e w' ⟨rfl, rfl⟩)
    go_ret
    exact ⟨rfl, rfl⟩

/-- where a message's numbers lie -/
def ptr15 (b i : Nat) : Value := .pointer (some ⟨b, 1 + i, none⟩)
def ptrs15 (b : Nat) : Array Value := #[.pointer (some ⟨b, 1, none⟩), .pointer (some ⟨b, 2, none⟩), .pointer (some ⟨b, 3, none⟩), .pointer (some ⟨b, 4, none⟩), .pointer (some ⟨b, 5, none⟩), .pointer (some ⟨b, 6, none⟩), .pointer (some ⟨b, 7, none⟩)]
theorem run_index7 (b k : Nat) (hk : k < 7) (w : World) : Sem.run Try.prog (Instr.index 49 (.agg #[.pointer (some ⟨b, 1, none⟩), .pointer (some ⟨b, 2, none⟩), .pointer (some ⟨b, 3, none⟩), .pointer (some ⟨b, 4, none⟩), .pointer (some ⟨b, 5, none⟩), .pointer (some ⟨b, 6, none⟩), .pointer (some ⟨b, 7, none⟩)]) (.int .i64 (k : Int))) w = .ok (.pointer (some ⟨b, 1 + k, none⟩)) w := by
  have hu := run_underlying (P := Try.prog) Try.underlying49 w
  obtain ⟨i, hi, hs⟩ : ∃ i, Try.prog.info? 48 = some i ∧ i.size = 1 := by
    have h : (Try.prog.info? 48).map (fun i => i.size) = some 1 := by kernel_rfl
    obtain ⟨i, hi, h2⟩ := Option.map_eq_some_iff.1 h
    exact ⟨i, hi, h2⟩
  unfold Instr.index
  have : k = 0 ∨ k = 1 ∨ k = 2 ∨ k = 3 ∨ k = 4 ∨ k = 5 ∨ k = 6 := by omega
  rcases this with rfl | rfl | rfl | rfl | rfl | rfl | rfl <;> simp [Sem.run_bind, asIntOf, hu, sizeOf, typeInfo, hi, hs, part, isAgg]

set_option maxHeartbeats 3200000 in
set_option maxRecDepth 100000 in
theorem numbers15 (b : Nat) (w : World) :
    Calls Try.prog 27 #[.pointer (some ⟨b, 0, none⟩)] w fun e w' => e = .returned (.agg #[.pointer (some ⟨b, 1, none⟩), .pointer (some ⟨b, 2, none⟩), .pointer (some ⟨b, 3, none⟩), .pointer (some ⟨b, 4, none⟩), .pointer (some ⟨b, 5, none⟩), .pointer (some ⟨b, 6, none⟩), .pointer (some ⟨b, 7, none⟩)]) ∧ Below w.heap.size w w' := by
  have X : Box (w.alloc (.cells #[.pointer none, .pointer none, .pointer none, .pointer none, .pointer none, .pointer none, .pointer none] 49)) w.heap.size 49 _ := box_new w _ _
  go_enter Try.func27, Try.ntmps27
  go_upto_region 1 with fail
  have hB : Below w.heap.size w (w.alloc (.cells #[.pointer none, .pointer none, .pointer none, .pointer none, .pointer none, .pointer none, .pointer none] 49)) := (Below.refl _ _).alloc (Nat.le_refl _) _
  generalize (w.alloc (.cells #[.pointer none, .pointer none, .pointer none, .pointer none, .pointer none, .pointer none, .pointer none] 49)) = w1 at X hB ⊢
  refine wp_region_held_drew (S := (fun _ => True)) (by kernel_rfl) ?_ (fun hHeld => ?_)
  · trivial
  refine wpAnyH_take (i := 0) (oi := ⟨some 3, _, _, _, _, _⟩) (v := ?_) rfl (by kernel_rfl) (by kernel_rfl) (by kernel_rfl) (fun _ _ _ h => h) (Or.inl ⟨by rfl, ?hy1⟩) hHeld ?rest1
  case hy1 => (intro W hSw; (try dsimp only at hSw); go_simp; (try with_reducible rfl))
  simp only [Act.put, List.setIfInBounds_toArray, List.set_cons_zero, List.set_cons_succ]
  refine wpAnyH_take (i := 1) (oi := ⟨some 4, _, _, _, _, _⟩) (v := ?_) rfl (by kernel_rfl) (by kernel_rfl) (by kernel_rfl) (fun _ _ _ h => h) (Or.inl ⟨by rfl, ?hy2⟩) hHeld ?rest2
  case hy2 => (intro W hSw; (try dsimp only at hSw); go_simp; (try with_reducible rfl))
  simp only [Act.put, List.setIfInBounds_toArray, List.set_cons_zero, List.set_cons_succ]
  refine wpAnyH_take (i := 2) (oi := ⟨some 5, _, _, _, _, _⟩) (v := ?_) rfl (by kernel_rfl) (by kernel_rfl) (by kernel_rfl) (fun _ _ _ h => h) (Or.inl ⟨by rfl, ?hy3⟩) hHeld ?rest3
  case hy3 => (intro W hSw; (try dsimp only at hSw); go_simp; (try with_reducible rfl))
  simp only [Act.put, List.setIfInBounds_toArray, List.set_cons_zero, List.set_cons_succ]
  refine wpAnyH_take (i := 3) (oi := ⟨some 6, _, _, _, _, _⟩) (v := ?_) rfl (by kernel_rfl) (by kernel_rfl) (by kernel_rfl) (fun _ _ _ h => h) (Or.inl ⟨by rfl, ?hy4⟩) hHeld ?rest4
  case hy4 => (intro W hSw; (try dsimp only at hSw); go_simp; (try with_reducible rfl))
  simp only [Act.put, List.setIfInBounds_toArray, List.set_cons_zero, List.set_cons_succ]
  refine wpAnyH_take (i := 4) (oi := ⟨some 7, _, _, _, _, _⟩) (v := ?_) rfl (by kernel_rfl) (by kernel_rfl) (by kernel_rfl) (fun _ _ _ h => h) (Or.inl ⟨by rfl, ?hy5⟩) hHeld ?rest5
  case hy5 => (intro W hSw; (try dsimp only at hSw); go_simp; (try with_reducible rfl))
  simp only [Act.put, List.setIfInBounds_toArray, List.set_cons_zero, List.set_cons_succ]
  refine wpAnyH_take (i := 5) (oi := ⟨some 8, _, _, _, _, _⟩) (v := ?_) rfl (by kernel_rfl) (by kernel_rfl) (by kernel_rfl) (fun _ _ _ h => h) (Or.inl ⟨by rfl, ?hy6⟩) hHeld ?rest6
  case hy6 => (intro W hSw; (try dsimp only at hSw); go_simp; (try with_reducible rfl))
  simp only [Act.put, List.setIfInBounds_toArray, List.set_cons_zero, List.set_cons_succ]
  refine wpAnyH_take (i := 6) (oi := ⟨some 9, _, _, _, _, _⟩) (v := ?_) rfl (by kernel_rfl) (by kernel_rfl) (by kernel_rfl) (fun _ _ _ h => h) (Or.inl ⟨by rfl, ?hy7⟩) hHeld ?rest7
  case hy7 => (intro W hSw; (try dsimp only at hSw); go_simp; (try with_reducible rfl))
  simp only [Act.put, List.setIfInBounds_toArray, List.set_cons_zero, List.set_cons_succ]
  refine wpAnyH_take (i := 7) (oi := ⟨some 10, _, _, _, _, _⟩) (v := ?_) rfl (by kernel_rfl) (by kernel_rfl) (by kernel_rfl) (fun _ _ _ h => h) (Or.inl ⟨by rfl, ?hy8⟩) hHeld ?rest8
  case hy8 => (intro W hSw; (try dsimp only at hSw); go_simp; (try with_reducible rfl))
  simp only [Act.put, List.setIfInBounds_toArray, List.set_cons_zero, List.set_cons_succ]
  refine wpAnyH_take (i := 8) (oi := ⟨some 11, _, _, _, _, _⟩) (v := ?_) rfl (by kernel_rfl) (by kernel_rfl) (by kernel_rfl) (fun _ _ _ h => h) (Or.inl ⟨by rfl, ?hy9⟩) hHeld ?rest9
  case hy9 => (intro W hSw; (try dsimp only at hSw); go_simp; (try with_reducible rfl))
  simp only [Act.put, List.setIfInBounds_toArray, List.set_cons_zero, List.set_cons_succ]
  refine wpAnyH_take (i := 9) (oi := ⟨some 12, _, _, _, _, _⟩) (v := ?_) rfl (by kernel_rfl) (by kernel_rfl) (by kernel_rfl) (fun _ _ _ h => h) (Or.inl ⟨by rfl, ?hy10⟩) hHeld ?rest10
  case hy10 => (intro W hSw; (try dsimp only at hSw); go_simp; (try with_reducible rfl))
  simp only [Act.put, List.setIfInBounds_toArray, List.set_cons_zero, List.set_cons_succ]
  refine wpAnyH_take (i := 10) (oi := ⟨some 13, _, _, _, _, _⟩) (v := ?_) rfl (by kernel_rfl) (by kernel_rfl) (by kernel_rfl) (fun _ _ _ h => h) (Or.inl ⟨by rfl, ?hy11⟩) hHeld ?rest11
  case hy11 => (intro W hSw; (try dsimp only at hSw); go_simp; (try with_reducible rfl))
  simp only [Act.put, List.setIfInBounds_toArray, List.set_cons_zero, List.set_cons_succ]
  refine wpAnyH_take (i := 11) (oi := ⟨some 14, _, _, _, _, _⟩) (v := ?_) rfl (by kernel_rfl) (by kernel_rfl) (by kernel_rfl) (fun _ _ _ h => h) (Or.inl ⟨by rfl, ?hy12⟩) hHeld ?rest12
  case hy12 => (intro W hSw; (try dsimp only at hSw); go_simp; (try with_reducible rfl))
  simp only [Act.put, List.setIfInBounds_toArray, List.set_cons_zero, List.set_cons_succ]
  refine wpAnyH_take (i := 12) (oi := ⟨some 15, _, _, _, _, _⟩) (v := ?_) rfl (by kernel_rfl) (by kernel_rfl) (by kernel_rfl) (fun _ _ _ h => h) (Or.inl ⟨by rfl, ?hy13⟩) hHeld ?rest13
  case hy13 => (intro W hSw; (try dsimp only at hSw); go_simp; (try with_reducible rfl))
  simp only [Act.put, List.setIfInBounds_toArray, List.set_cons_zero, List.set_cons_succ]
  refine wpAnyH_take (i := 13) (oi := ⟨some 16, _, _, _, _, _⟩) (v := ?_) rfl (by kernel_rfl) (by kernel_rfl) (by kernel_rfl) (fun _ _ _ h => h) (Or.inl ⟨by rfl, ?hy14⟩) hHeld ?rest14
  case hy14 => (intro W hSw; (try dsimp only at hSw); go_simp; (try with_reducible rfl))
  simp only [Act.put, List.setIfInBounds_toArray, List.set_cons_zero, List.set_cons_succ]
  refine wpAnyH_take (i := 14) (oi := ⟨some 17, _, _, _, _, _⟩) (v := ?_) rfl (by kernel_rfl) (by kernel_rfl) (by kernel_rfl) (fun _ _ _ h => h) (Or.inl ⟨by rfl, ?hy15⟩) hHeld ?rest15
  case hy15 => (intro W hSw; (try dsimp only at hSw); go_simp; (try with_reducible rfl))
  simp only [Act.put, List.setIfInBounds_toArray, List.set_cons_zero, List.set_cons_succ]
  refine wpAnyH_take (i := 15) (oi := ⟨some 18, _, _, _, _, _⟩) (v := ?_) rfl (by kernel_rfl) (by kernel_rfl) (by kernel_rfl) (fun _ _ _ h => h) (Or.inl ⟨by rfl, ?hy16⟩) hHeld ?rest16
  case hy16 => (intro W hSw; (try dsimp only at hSw); go_simp; (try with_reducible rfl))
  simp only [Act.put, List.setIfInBounds_toArray, List.set_cons_zero, List.set_cons_succ]
  refine wpAnyH_take (i := 16) (oi := ⟨some 19, _, _, _, _, _⟩) (v := ?_) rfl (by kernel_rfl) (by kernel_rfl) (by kernel_rfl) (fun _ _ _ h => h) (Or.inl ⟨by rfl, ?hy17⟩) hHeld ?rest17
  case hy17 => (intro W hSw; (try dsimp only at hSw); go_simp; (try with_reducible rfl))
  simp only [Act.put, List.setIfInBounds_toArray, List.set_cons_zero, List.set_cons_succ]
  refine wpAnyH_take (i := 17) (oi := ⟨some 20, _, _, _, _, _⟩) (v := ?_) rfl (by kernel_rfl) (by kernel_rfl) (by kernel_rfl) (fun _ _ _ h => h) (Or.inl ⟨by rfl, ?hy18⟩) hHeld ?rest18
  case hy18 => (intro W hSw; (try dsimp only at hSw); go_simp; (try with_reducible rfl))
  simp only [Act.put, List.setIfInBounds_toArray, List.set_cons_zero, List.set_cons_succ]
  refine wpAnyH_take (i := 18) (oi := ⟨some 21, _, _, _, _, _⟩) (v := ?_) rfl (by kernel_rfl) (by kernel_rfl) (by kernel_rfl) (fun _ _ _ h => h) (Or.inl ⟨by rfl, ?hy19⟩) hHeld ?rest19
  case hy19 => (intro W hSw; (try dsimp only at hSw); go_simp; (try with_reducible rfl))
  simp only [Act.put, List.setIfInBounds_toArray, List.set_cons_zero, List.set_cons_succ]
  refine wpAnyH_take (i := 19) (oi := ⟨some 22, _, _, _, _, _⟩) (v := ?_) rfl (by kernel_rfl) (by kernel_rfl) (by kernel_rfl) (fun _ _ _ h => h) (Or.inl ⟨by rfl, ?hy20⟩) hHeld ?rest20
  case hy20 => (intro W hSw; (try dsimp only at hSw); go_simp; (try with_reducible rfl))
  simp only [Act.put, List.setIfInBounds_toArray, List.set_cons_zero, List.set_cons_succ]
  refine wpAnyH_take (i := 20) (oi := ⟨some 23, _, _, _, _, _⟩) (v := ?_) rfl (by kernel_rfl) (by kernel_rfl) (by kernel_rfl) (fun _ _ _ h => h) (Or.inl ⟨by rfl, ?hy21⟩) hHeld ?rest21
  case hy21 => (intro W hSw; (try dsimp only at hSw); go_simp; (try with_reducible rfl))
  simp only [Act.put, List.setIfInBounds_toArray, List.set_cons_zero, List.set_cons_succ]
  refine wpAnyH_take (i := 21) (oi := ⟨some 24, _, _, _, _, _⟩) (v := ?_) rfl (by kernel_rfl) (by kernel_rfl) (by kernel_rfl) (fun _ _ _ h => h) (Or.inl ⟨by rfl, ?hy22⟩) hHeld ?rest22
  case hy22 => (intro W hSw; (try dsimp only at hSw); go_simp; (try with_reducible rfl))
  simp only [Act.put, List.setIfInBounds_toArray, List.set_cons_zero, List.set_cons_succ]
  refine wpAnyH_ready (rs := [22]) (by kernel_rfl) (by simp) ?_
  refine AllReadyH.cons (o := ⟨none, _, _, _, _, _⟩) rfl (fun K hK => ?_) AllReadyH.nil
  refine wp_store_row 49 _ _ rfl w.heap.size #[.pointer (some ⟨b, 1, none⟩), .pointer (some ⟨b, 2, none⟩), .pointer (some ⟨b, 3, none⟩), .pointer (some ⟨b, 4, none⟩), .pointer (some ⟨b, 5, none⟩), .pointer (some ⟨b, 6, none⟩), .pointer (some ⟨b, 7, none⟩)] rfl rfl 49 _ X (by kernel_rfl) rfl (by simp [Value.oneCell']) ?_
  refine hK.out _ _ ?_ (fun hNew => ?_)
  · (first | exact True.intro | ((try dsimp only); trivial))
  clear hK K hHeld
  have hHeld := hNew
  clear hNew
  try simp only [Act.put, List.setIfInBounds_toArray, List.set_cons_zero, List.set_cons_succ]
  refine wpAnyH_done (by kernel_rfl) ?_ _
  have hB2 : Below w.heap.size w (w1.drew.setRow w.heap.size #[.pointer (some ⟨b, 1, none⟩), .pointer (some ⟨b, 2, none⟩), .pointer (some ⟨b, 3, none⟩), .pointer (some ⟨b, 4, none⟩), .pointer (some ⟨b, 5, none⟩), .pointer (some ⟨b, 6, none⟩), .pointer (some ⟨b, 7, none⟩)]) := below_setRow hB.drew (Nat.le_refl _) _
  have X2 : Box (w1.drew.setRow w.heap.size #[.pointer (some ⟨b, 1, none⟩), .pointer (some ⟨b, 2, none⟩), .pointer (some ⟨b, 3, none⟩), .pointer (some ⟨b, 4, none⟩), .pointer (some ⟨b, 5, none⟩), .pointer (some ⟨b, 6, none⟩), .pointer (some ⟨b, 7, none⟩)]) w.heap.size 49 _ := setRow_heap _ _ _ _ _ (0, 0) X.drew
  go_wp2_with fail
  exact bodyPost_ret (v := .agg #[.pointer (some ⟨b, 1, none⟩), .pointer (some ⟨b, 2, none⟩), .pointer (some ⟨b, 3, none⟩), .pointer (some ⟨b, 4, none⟩), .pointer (some ⟨b, 5, none⟩), .pointer (some ⟨b, 6, none⟩), .pointer (some ⟨b, 7, none⟩)]) (results_row rfl rfl X2 Try.underlying49 rfl (by kernel_rfl)) rfl ⟨rfl, hB2⟩

end Go.Proofs.Ytobogkilkmnpmaa
