import Derived.Test.YtoeihigdndkjeaaGreatDoorJ10
import Derived.Test.YtoeihigdndkjeaaGreatDoorJ04
import Derived.Deep.RegionHeld3
import Derived.IntWalk
import Derived.Deep.CutRange
/-
  The document's Tiny: a small right shape out of six numbers.
-/
namespace Go.Proofs.YtoeihigdndkjeaaGreatDoor
open Go.RowKit
set_option linter.unusedVariables false

/-- a small right shape -/
def Sz.Tiny (s : Sz) : Prop := s.Ok ∧ s.l ≤ 3 ∧ s.w ≤ 16 ∧ s.i ≤ 8 ∧ s.v ≤ 10

theorem rest_math (n m : Int) (hm : 1 ≤ m) : (n.tmod m + m).tmod m = n % m := by
  have hb := rest_by n m hm
  rw [Int.tmod_eq_emod_of_nonneg (by omega), Int.add_emod_right]
  have h := Int.mul_tdiv_add_tmod n m
  have : n.tmod m = n - m * n.tdiv m := by omega
  rw [this, Int.sub_mul_emod_self_left]

theorem rest_any (n m : Int) (w : World) (h1 : 1 ≤ m) (h2 : m ≤ 16) :
    Calls Tryz.prog 66 #[.int .i64 n, .int .i64 m] w fun e w' => e = .returned (.int .i64 (n % m)) ∧ w = w' := by
  have hb := rest_by n m h1
  have E := Lib.hid (rest_math n m h1)
  obtain ⟨r, hr⟩ : ∃ r, n.tmod m = r := ⟨_, rfl⟩
  rw [hr] at hb E
  have e2 : (r + m).tmod m = (r + m) % m := Int.tmod_eq_emod_of_nonneg (by omega)
  have E2 := Lib.hid e2
  clear e2
  go_enter Tryz.func66, Tryz.ntmps66
  go_wp2
  go_ret
  exact ⟨ret_int (by first | exact E.out | (rw [← E2.out]; exact E.out)), rfl⟩

end Go.Proofs.YtoeihigdndkjeaaGreatDoor
