/-
  Contract of the document's Join: the same row as layer 5's, in new memory.
-/
import Derived.Test.YthblniakghfchaaDoorJoins
namespace Go.Proofs.YthblniakghfchaaDoor
open Go.RowKit
set_option linter.unusedVariables false

set_option maxHeartbeats 2000000 in
theorem ref_join (xa ya : Option Addr) (n xcap ycap : Nat) (b s : Int) (xs ys : List Int) (w : World) (hx : Elems .i32 w xa n xs) (hy : Elems .i32 w ya n ys) (hn : n ≤ 1000) (b1 : -2147483648 ≤ b) (b2 : b ≤ 2147483647) :
    Calls Tryd.prog 21 #[.slice xa n xcap, .slice ya n ycap, .int .i32 b, .int .i64 s] w fun e w' => (∃ a cap, e = .returned (.slice a n cap) ∧ Elems .i32 w' a n (joinL b s xs ys n)) ∧ Below w.heap.size w w' := by
  go_enter Tryd.func21, Tryd.ntmps21
  go_wp2
  go_loopw [9, 10] (fun o i wr => ∃ (j : Nat), j ≤ n ∧ i = .int .i64 j ∧ wr.ownsRow w.heap.size 21 1 o j ((joinL b s xs ys j).map (.int .i32)) ∧ Below w.heap.size w wr) (fun _ i _ => n - (intOf i).toNat)
  case atStart => exact ⟨0, by omega, rfl, own_nil w w.heap.size 21, Below.refl _ _⟩
  case round =>
    obtain ⟨k, hk, rfl, hown, hbel⟩ := hrel
    by_cases hlt : k < n
    · obtain ⟨bx, ox, v, rfl, hc, hv, wv⟩ := (hx.below hbel).at_ hlt
      obtain ⟨bY, oY, u, rfl, hc2, hu, wu⟩ := (hy.below hbel).at_ hlt
      obtain ⟨v1, v2⟩ := wf32 wv
      obtain ⟨u1, u2⟩ := wf32 wu
      have hsz := hbel.size
      have hnext : Hid (joinL b s xs ys k ++ [join1 b s v u] = joinL b s xs ys (k + 1)) := Lib.hid (by
        rw [← hu.out, ← hv.out]; exact range_snoc (fun i => join1 b s (xs.getD i 0) (ys.getD i 0)) k)
      have hz := scl_bd b s u
      have hsc : ∀ w, Calls Tryd.prog 41 #[.int .i32 u, .int .i32 b, .int .i64 s, .int .i64 (-2147483648), .int .i64 2147483647] w fun e w' => e = .returned (.int .i64 (scl b s u)) ∧ w = w' := fun w => ref_scale u b s _ _ u1 u2 b1 b2 w
      have hval : join1 b s v u = wsum [v, scl b s u] := by unfold join1 wsum; simp
      generalize scl b s u = z at hsc hz hval
      have hsu : ∀ (W : World) (g : Nat), W.cell? ⟨g, 0, none⟩ = some (.int .i64 v) → W.cell? ⟨g, 1, none⟩ = some (.int .i64 z) → Calls Tryd.prog 40 #[.slice (some ⟨g, 0, none⟩) 2 2] W fun e w' => e = .returned (.int .i32 (wsum [v, z])) ∧ W = w' := fun W g h0 h1 =>
        ref_wrap (some ⟨g, 0, none⟩) 2 2 [v, z] W (pair_elems h0 h1 (WalkArith.wf_i64 ⟨by omega, by omega⟩) (WalkArith.wf_i64 ⟨by omega, by omega⟩))
      rw [← hval] at hsu
      generalize join1 b s v u = y at hnext hsu hval
      generalize joinL b s xs ys k = cs at hown hnext
      have e0 : IntKind.i64.wrap v = v := IntWalk.i64_in _ (by omega)
      have hownA : (wr.alloc (.cells #[.int .i64 v, .int .i64 z] 2)).drew.ownsRow w.heap.size 21 1 u9 k (cs.map (.int .i32)) := hown.alloc _
      have hbelA := (hbel.alloc hsz (.cells #[.int .i64 v, .int .i64 z] 2)).drew
      obtain ⟨g, cap3, w3, hrun, hown3, hgr3, hlt3⟩ := run_append_one (wr.alloc (.cells #[.int .i64 v, .int .i64 z] 2)).drew w.heap.size u9 k cs y hownA (by omega) hbelA.size
      have hrunD : Sem.run Tryd.prog (Builtin.append_ #[23, 23] 23 #[u9, .slice (some ⟨wr.heap.size + 1, 0, none⟩) 1 1]) ((wr.alloc (.cells #[.int .i64 v, .int .i64 z] 2)).alloc (.cells #[.int .i32 y] 21)).drew = .ok (.slice (some ⟨g, 0, none⟩) (k + 1) cap3) w3 := by
        have h := hrun
        rw [show (wr.alloc (.cells #[.int .i64 v, .int .i64 z] 2)).drew.heap.size = wr.heap.size + 1 by simp [World.drew]] at h
        exact h
      have hbel3 := hbelA.grown hgr3 hbelA.size (own_lt hownA)
      have hE1 := hx.below hbel3
      have hE2 := hy.below hbel3
      rw [hnext.out] at hown3
      have hN : ∀ (k2 : Nat), wr.heap.size ≤ k2 → bx ≠ k2 ∧ bY ≠ k2 := fun k2 hk2 => by
        have := hx.blk _ rfl (by omega)
        have := hy.blk _ rfl (by omega)
        simp only at *
        omega
      have m1 : w3.cell? ⟨bx, ox + k, none⟩ = some (.int .i32 v) := by
        obtain ⟨b', o', v', he, hc', hv', _⟩ := hE1.at_ hlt
        cases he
        rw [hc', ← hv'.out, hv.out]
      have m2 : w3.cell? ⟨bY, oY + k, none⟩ = some (.int .i32 u) := by
        obtain ⟨b', o', v', he, hc', hv', _⟩ := hE2.at_ hlt
        cases he
        rw [hc', ← hv'.out, hu.out]
      clear hv hu hval hE1 hE2 hown hN hbelA hgr3 hrun
      go_wp2_with fail
      go_region_held3 (fun w' => w'.cell? ⟨bx, ox + k, none⟩ = some (.int .i32 v) ∧ w'.cell? ⟨bY, oY + k, none⟩ = some (.int .i32 u))
        (first | go_keep | (go_split_ands; refine ⟨?_, ?_⟩ <;> assumption))
        (first
          | (go_at_call 41; (with_reducible refine (hsc _).mono ?_); rintro e w' ⟨rfl, rfl⟩)
          | (go_at_call 40; (refine (hsu _ _ (by simp) (by simp)).mono ?_); rintro e w' ⟨rfl, rfl⟩)
          | ((with_reducible refine step_append_run ?_ (.tmp 17) (.tmp 32) 23 ?_ _ _ ?_ ?_ hrunD ?_); rfl; rfl; rfl; rfl))
      clear hsc hsu m1 m2 hrunD
      all_goals go_wp2
      all_goals
        go_roundw
        case rel => exact ⟨k + 1, by omega, by go_num, hown3, hbel3⟩
        case measure => simp [intOf]; omega
    · obtain rfl : k = n := by omega
      obtain ⟨aS, capS, hvS, hE⟩ := own_form hown (by omega) (joinL_wf b s xs ys k)
      subst hvS
      clear hx hy hown
      go_wp2
      go_ret
      exact ⟨⟨_, _, rfl, hE⟩, hbel⟩

end Go.Proofs.YthblniakghfchaaDoor
