/-
  Contracts of layer 5's sum of products in two parts: add lays a product, down is the sum shifted down and brought to 8 bits. A slice of such sums that was just made.
-/
import Derived.Test.YthblniakghfchaaDoorScale
import Derived.Test.YthblniakghfchaaDoorRw
import Derived.Test.YthblniakghfchaaDoorShrMath
import Derived.Deep.QuietTactic
import Derived.BigQuiet
namespace Go.Proofs.YthblniakghfchaaDoor
open Go.RowKit
set_option linter.unusedVariables false

/-- what a sum comes to -/
def mix1 (T : Int) : Int := near (shr T 16) (-128) 127
theorem mix1_wf (T : Int) : (Lit.int .i8 (mix1 T)).wf = true := WalkArith.wf_i8 (near_in _ _ _ (by decide))

theorem info_sum : (Tryd.prog.info? 68).map (fun i => (i.zero, i.size, i.bytes)) = some (some (.agg #[.int .i64 0, .int .i64 0]), 2, 16) := by kernel_rfl

theorem made_sums (n : Nat) : madeCells (Value.agg #[.int .i64 0, .int .i64 0]).cells (n * 2) = Array.replicate (2 * n) (Value.int .i64 0) := by
  apply Array.ext
  · simp [size_madeCells]; omega
  · intro i h1 h2
    simp [madeCells, Value.cells]
    rcases Nat.mod_two_eq_zero_or_one i with h | h <;> simp [h]

theorem run_make_sums (n : Nat) (hn : n ≤ 16777216) (w : World) : (Instr.makeSlice 66 (.int .i64 (n : Int)) (.int .i64 (n : Int))).run Tryd.prog w = .ok (.slice (some ⟨w.heap.size, 0, none⟩) n n) (w.alloc (.cells (Array.replicate (2 * n) (Value.int .i64 0)) 68)) := by
  obtain ⟨i, hi, hzz⟩ := Option.map_eq_some_iff.1 info_sum
  simp only [Prod.mk.injEq] at hzz
  obtain ⟨hz, hs, hb⟩ := hzz
  have hr := run_make (P := Tryd.prog) w 66 68 i _ Tryd.underlying66 hi hz .i64 .i64 n n (by omega) (Int.le_refl _) (by rw [hb]; omega) (by omega)
  simp only [Int.toNat_natCast, hs] at hr
  rw [hr, made_sums]

theorem mineK_noughts {kd : IntKind} {w : World} {T : TypeId} {n b : Nat} (hb : b = w.heap.size) : MineK kd (w.alloc (.cells (Array.replicate n (Value.int kd 0)) T)) b T (List.replicate n 0) := by
  subst hb
  have e : (Array.replicate n (Value.int kd 0)) = ((List.replicate n (0 : Int)).map (Value.int kd)).toArray := by simp
  unfold MineK
  rw [e]
  exact heap_alloc_new w _

set_option maxHeartbeats 400000 in
theorem sum_add (B o : Nat) (t hi lo : Int) (w : World) (c0 : w.cell? ⟨B, o, none⟩ = some (.int .i64 hi)) (c1 : w.cell? ⟨B, o + 1, none⟩ = some (.int .i64 lo)) (f0 : w.frozen? ⟨B, o, none⟩ = false) (f1 : w.frozen? ⟨B, o + 1, none⟩ = false)
    (t1 : -1099511627776 ≤ t) (t2 : t ≤ 1099511627776) (h1 : -1099511627776 ≤ hi) (h2 : hi ≤ 1099511627776) (l1 : 0 ≤ lo) (l2 : lo ≤ 1099511627776) :
    Calls Tryd.prog 36 #[.pointer (some ⟨B, o, none⟩), .int .i64 t] w fun e w' => e = .returned (.tuple #[]) ∧ w' = (w.setCell ⟨B, o, none⟩ (.int .i64 (hi + t / 65536))).setCell ⟨B, o + 1, none⟩ (.int .i64 (lo + t % 65536)) := by
  have hm : bits .and .i64 t 65535 = t % 65536 := by have := and_mask t 16 (by decide); simpa using this
  have c1' : ∀ v, (w.setCell ⟨B, o, none⟩ v).cell? ⟨B, o + 1, none⟩ = some (.int .i64 lo) := fun v => (World.cell?_setCell_other _ _ _ _ (by simp)).trans c1
  have f1' : ∀ v, (w.setCell ⟨B, o, none⟩ v).frozen? ⟨B, o + 1, none⟩ = false := fun v => (World.frozen?_setCell _ _ _ _).trans f1
  go_enter Tryd.func36, Tryd.ntmps36
  go_wp2
  exact bodyPost_end (v := .tuple #[]) (results_none rfl _ _ _) rfl ⟨rfl, rfl⟩

set_option maxHeartbeats 400000 in
theorem sum_down (B o : Nat) (hi lo : Int) (w : World) (c0 : w.cell? ⟨B, o, none⟩ = some (.int .i64 hi)) (c1 : w.cell? ⟨B, o + 1, none⟩ = some (.int .i64 lo))
    (h1 : -1073741824 ≤ hi) (h2 : hi ≤ 1073741824) (l1 : 0 ≤ lo) (l2 : lo ≤ 1099511627776) :
    Calls Tryd.prog 37 #[.pointer (some ⟨B, o, none⟩)] w fun e w' => e = .returned (.int .i8 (mix1 (hi * 65536 + lo))) ∧ ∃ d, w' = w.drewN d := by
  have hm : bits .and .i64 lo 65535 = lo % 65536 := by have := and_mask lo 16 (by decide); simpa using this
  have hsat : ∀ w, Calls Tryd.prog 48 #[.int .i64 (hi + lo / 65536)] w fun e w' => e = .returned (.int .i32 (hi + lo / 65536)) ∧ w' = w := fun w => (sat32 _ w).mono (by
    rintro e w' ⟨rfl, rfl⟩
    exact ⟨ret_int (near_same _ _ _ (by omega) (by omega)), rfl⟩)
  have hT : (hi + lo / 65536) * 65536 + lo % 65536 = hi * 65536 + lo := by omega
  have hsh : ∀ w, Calls Tryd.prog 25 #[.int .i64 ((hi + lo / 65536) * 65536 + lo % 65536), .int .i64 16] w fun e w' => e = .returned (.int .i64 (shr (hi * 65536 + lo) 16)) ∧ w = w' := fun w => by
    rw [hT]; exact shift _ _ (by omega) (by omega) w
  have hsa := fun w => sat8 (shr (hi * 65536 + lo) 16) w
  have hv : near (shr (hi * 65536 + lo) 16) (-128) 127 = mix1 (hi * 65536 + lo) := rfl
  rw [hv] at hsa
  generalize mix1 (hi * 65536 + lo) = z at hsa
  generalize shr (hi * 65536 + lo) 16 = s at hsh hsa
  have e1 : IntKind.i64.wrap (hi + lo / 65536) = hi + lo / 65536 := IntWalk.i64_in _ (by omega)
  clear hT hv
  go_enter Tryd.func37, Tryd.ntmps37
  go_wp2
  go_quiet (first | (go_at_call 48; refine Calls.quiet_of_same (hsat _)))
  clear e1
  go_wp2_with (first | (go_at_call 25; refine (hsh _).mono ?_; rintro e w' ⟨rfl, rfl⟩) | (go_at_call 24; refine (hsa _).mono ?_; rintro e w' ⟨rfl, rfl⟩))
  go_ret
  exact ⟨rfl, _, rfl⟩

end Go.Proofs.YthblniakghfchaaDoor
