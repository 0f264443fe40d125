import Derived.Test.YtoeihigdndkjeaaGreatDoorJ06
import Derived.Test.YtoeihigdndkjeaaGreatDoorJ04
import Derived.Deep.CutRange
/-
  Contract of the document's Turn of layer 6: the same row as layer 6's, in new memory; what was in memory stays.
-/
namespace Go.Proofs.YtoeihigdndkjeaaGreatDoor
open Go.RowKit
set_option linter.unusedVariables false

theorem turnL_two (place : Int) (xs : List Int) (j : Nat) : (turnL place xs j ++ [turnAt place xs j]) ++ [turnAt place xs (j + 1)] = turnL place xs (j + 2) := by
  unfold turnL
  rw [List.range_succ, List.range_succ, List.map_append, List.map_append]; rfl

set_option maxHeartbeats 1000000 in
theorem ref_turn6 (place : Int) (a : Option Addr) (n cap : Nat) (xs : List Int) (w : World) (hx : Elems .i8 w a n xs) (hn : n ≤ 1000) (h : n % 2 = 0) :
    Calls Tryz.prog 73 #[.int .i64 place, .slice a n cap] w fun e w' => (∃ b c, e = .returned (.slice b n c) ∧ Elems .i8 w' b n (turnL place xs n)) ∧ Below w.heap.size w w' := by
  go_enter Tryz.func73, Tryz.ntmps73
  go_wp2
  go_loopw [5, 6] (fun o i wr => ∃ (k j : Nat), (j ≤ 2 * k ∧ 2 * k ≤ j) ∧ j ≤ n ∧ i = .int .i64 j ∧ wr.ownsRow w.heap.size 64 1 o j ((turnL place xs j).map (.int .i8)) ∧ Below w.heap.size w wr) (fun _ i _ => n - (intOf i).toNat)
  case atStart => exact ⟨0, 0, by omega, by omega, rfl, own_nil w w.heap.size 64, Below.refl _ _⟩
  case round =>
    obtain ⟨k, j, hjk, hj, rfl, hown, hbel⟩ := hrel
    by_cases hlt : j + 1 < n
    · have hxr := hx.below hbel
      obtain ⟨j1, hj1⟩ : ∃ j1 : Nat, (j : Int) + 1 = (j1 : Int) := ⟨j + 1, by omega⟩
      have hje : j = 2 * k := by omega
      have hjk1 : j1 = 2 * k + 1 := by omega
      have hjn1 : j1 < n := by omega
      have hj2 : (j : Int) / 2 = (k : Int) := by omega
      obtain ⟨b, off, x, rfl, hc, hv, wv⟩ := hxr.at_ (i := j) (by omega)
      obtain ⟨b', off', y, he, hc2, hu, wu⟩ := hxr.at_ hjn1
      cases he
      obtain ⟨v1, v2⟩ := wf8 wv
      obtain ⟨u1, u2⟩ := wf8 wu
      have hang := ref_angle6 place k (by omega) wr
      have eb := ang_bd place k
      have t0 : turnAt place xs j = tx (cosi (ang place k)) (sine (ang place k)) x y := by rw [hje, turnAt_even, ← hje, hv.out, ← hu.out, hjk1, ← hje]
      have t1 : turnAt place xs j1 = ty (cosi (ang place k)) (sine (ang place k)) x y := by rw [hjk1, turnAt_odd, ← hjk1, hu.out, ← hv.out, hje]
      have hnext := turnL_two place xs j
      have hj1e : j + 1 = j1 := by omega
      rw [hj1e] at hnext
      generalize ang place k = g at hang eb t0 t1
      have hcos := ref_cos6 g (by omega) (by omega)
      have hsin := ref_sin6 g (by omega) (by omega)
      have ec := cosi_bd g
      have es := sine_bd g
      generalize cosi g = c at hcos ec t0 t1
      generalize sine g = s at hsin es t0 t1
      have m1 := mul_bd6 x c v1 v2 ec.1 ec.2
      have m2 := mul_bd6 y s u1 u2 es.1 es.2
      have m3 := mul_bd6 x s v1 v2 es.1 es.2
      have m4 := mul_bd6 y c u1 u2 ec.1 ec.2
      have hs1 : ∀ w, Calls Tryz.prog 72 #[.int .i64 (x * c - y * s), .int .i64 14] w fun e w' => e = .returned (.int .i64 (shr (x * c - y * s) 14)) ∧ w = w' := fun w => ref_shift _ _ (by omega) (by omega) w
      have hs2 : ∀ w, Calls Tryz.prog 72 #[.int .i64 (x * s + y * c), .int .i64 14] w fun e w' => e = .returned (.int .i64 (shr (x * s + y * c) 14)) ∧ w = w' := fun w => ref_shift _ _ (by omega) (by omega) w
      have hn1 : ∀ w, Calls Tryz.prog 70 #[.int .i64 (shr (x * c - y * s) 14), .int .i64 (-128), .int .i64 127] w fun e w' => e = .returned (.int .i64 (tx c s x y)) ∧ w = w' := fun w => ref_near _ _ _ w
      have hn2 : ∀ w, Calls Tryz.prog 70 #[.int .i64 (shr (x * s + y * c) 14), .int .i64 (-128), .int .i64 127] w fun e w' => e = .returned (.int .i64 (ty c s x y)) ∧ w = w' := fun w => ref_near _ _ _ w
      rw [← t0] at hn1
      rw [← t1] at hn2
      have w0 := wf8 (turnAt_wf place xs j)
      have w1 := wf8 (turnAt_wf place xs j1)
      generalize turnAt place xs j = p at hn1 w0 hnext
      generalize turnAt place xs j1 = q at hn2 w1 hnext
      generalize shr (x * c - y * s) 14 = z1 at hs1 hn1
      generalize shr (x * s + y * c) 14 = z2 at hs2 hn2
      have HN := Lib.hid hnext
      clear t0 t1 hnext hx hv hu hj1e hje hjk1
      go_wp2_with fail
      refine hang.mono ?_
      rintro e w' ⟨rfl, rfl⟩
      go_wp2_with fail
      refine (hcos _).mono ?_
      rintro e wa ⟨rfl, hb1⟩
      go_wp2_with fail
      refine (hsin _).mono ?_
      rintro e wb ⟨rfl, hb2⟩
      have hb3 := below_two hb1 hb2
      have k0 := cell_kept6 hb3 hc
      have k1 := cell_kept6 hb3 hc2
      have ho := own_below hown hb3
      have hbb := below_two hbel hb3
      obtain ⟨ga, ca, wc, hrun, ho2, hg1, hz1⟩ := run_append_one8 wb w.heap.size _ j (turnL place xs j) p ho (by omega) hbb.size
      have hbc := hbb.grown hg1 hbb.size (own_lt ho)
      obtain ⟨gb, cb, wd, hrun2, ho3, hg2, hz2⟩ := run_append_one8 wc w.heap.size _ (j + 1) (turnL place xs j ++ [p]) q ho2 (by omega) hbc.size
      have hbd := hbc.grown hg2 hbc.size (own_lt ho2)
      rw [HN.out] at ho3
      have HO := Lib.hid ho3
      clear hang hcos hsin hb1 hb2 hb3 hown ho hbb ho2 hg1 hg2 hbc ho3 hc hc2
      go_wp2_with (first
        | (go_at_call 72; (with_reducible refine (hs1 _).mono ?_); rintro e w' ⟨rfl, rfl⟩)
        | (go_at_call 70; (with_reducible refine (hn1 _).mono ?_); rintro e w' ⟨rfl, rfl⟩)
        | (at_builtin; refine wpList_append_at (by rfl) _ _ _ (by rfl) _ _ (by rfl) (by rfl) hrun ?_))
      clear hrun hs1 hn1
      go_wp2_with (first
        | (go_at_call 72; (with_reducible refine (hs2 _).mono ?_); rintro e w' ⟨rfl, rfl⟩)
        | (go_at_call 70; (with_reducible refine (hn2 _).mono ?_); rintro e w' ⟨rfl, rfl⟩)
        | (at_builtin; refine wpList_append_at (by rfl) _ _ _ (by rfl) _ _ (by rfl) (by rfl) hrun2 ?_))
      clear hrun2 hs2 hn2
      go_wp2
      go_roundw
      case rel => exact ⟨k + 1, j + 2, by omega, by omega, by go_num, HO.out, hbd⟩
      case measure => simp [intOf]; omega
    · obtain rfl : j = n := by omega
      obtain ⟨aS, capS, hvS, hE⟩ := own_form hown (by omega) (turnL_wf place xs j)
      subst hvS
      clear hx hown
      go_wp2
      go_ret
      exact ⟨⟨_, _, rfl, hE⟩, hbel⟩

end Go.Proofs.YtoeihigdndkjeaaGreatDoor
