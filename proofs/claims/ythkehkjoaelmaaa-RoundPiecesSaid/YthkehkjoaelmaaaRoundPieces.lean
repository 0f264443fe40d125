/-
  Proved: for every two rows of 8 bits and every cut, RoundPieces returns true (a sum of products is the sum of its pieces' sums, and turned about it is the same) and nothing that was in memory turns. Conditions: none.
-/
import Derived.Test.YthkehkjoaelmaaaRows
import Derived.WalkKit
import Derived.ProofKit
import Derived.OpenShut
import Derived.ShutString
import Derived.ChangeOld
import Derived.Below
import Derived.Test.YthkehkjoaelmaaaAwake
import Derived.Test.YthkehkjoaelmaaaDots
import Derived.Deep.CutBlock
import Derived.Deep.RegionHeld3
namespace Go.Proofs.Ythkehkjoaelmaaa.roundPieces
open Go.ChangeShapes Go.WideShapes Go.ChangeAt Go.RowKit
open Go.ChangeMaps (open_string shut_string)
set_option linter.unusedVariables false

theorem own : ownKnob Try.prog.godebug = none := by kernel_rfl
theorem laidOut : laidOutB Try.prog = true := by kernel_rfl

/-- WHAT THE WALK IS TOLD OF A SLICE OF INTEGERS THAT CAME IN: it is nil; or it leads to a row of 'cap' cells, the numbers 'zs' (the first 'len' are its elements, the rest its spare room), each fitting its kind. -/
def IsRow (k : IntKind) (w : World) (a : Option Addr) (len cap : Nat) (zs : List Int) : Prop :=
  (a = none ∧ len = 0 ∧ cap = 0 ∧ zs = []) ∨
  ∃ x, a = some x ∧ len ≤ cap ∧ cap ≤ maxLen ∧ zs.length = cap ∧ (∀ i, i < zs.length → w.cell? (x.add i) = some (.int k (zs.getD i 0))) ∧ ∀ n ∈ zs, (Lit.int k n).wf = true

/-! ### STEP 1: THE WALK: the Go text returns true, AND WRITES NOTHING THAT WAS THERE: 'Below w.heap.size w w'' (Derived/Below.lean: '.refl', '.alloc', '.drew', '.setCell' at a new block, '.trans'). Open each 'IsRow' by 'rcases' AHEAD of 'go_enter'; part every test ahead of the walk. -/
set_option maxHeartbeats 3200000 in
set_option maxRecDepth 100000 in
theorem walk (a0 : Option Addr) (len0 cap0 : Nat) (z0 : List Int) (a1 : Option Addr) (len1 cap1 : Nat) (z1 : List Int) (a2 : Int) (w : World) (w0 : IsRow .i8 w a0 len0 cap0 z0) (w1 : IsRow .i8 w a1 len1 cap1 z1) (w2 : (Lit.int .i64 a2).wf = true) :
    Calls Try.prog 11 #[.slice a0 len0 cap0, .slice a1 len1 cap1, .int .i64 a2] w fun e w' => e = .returned (.bool true) ∧ Below w.heap.size w w' := by
  obtain ⟨⟨xs, hX⟩, hcap0, hmax0⟩ := elems_of_row w0
  obtain ⟨⟨ys, hY⟩, hcap1, hmax1⟩ := elems_of_row w1
  clear w0 w1
  by_cases c0 : 300 < len0
  · have c0' : (300 : Int) < (len0 : Int) := by omega
    go_enter Try.func11, Try.ntmps11
    go_wp2_with fail
    refine (awake _).mono ?_
    rintro e wa ⟨rfl, _, hb1⟩
    go_wp2_with fail
    refine (awake _).mono ?_
    rintro e wb ⟨rfl, _, hb2⟩
    go_wp2
    go_ret
    exact ⟨rfl, below_two hb1 hb2⟩
  · have c0' : ¬ (300 : Int) < (len0 : Int) := by omega
    by_cases c1 : 300 < len1
    · have c1' : (300 : Int) < (len1 : Int) := by omega
      go_enter Try.func11, Try.ntmps11
      go_wp2_with fail
      refine (awake _).mono ?_
      rintro e wa ⟨rfl, _, hb1⟩
      go_wp2_with fail
      refine (awake _).mono ?_
      rintro e wb ⟨rfl, _, hb2⟩
      go_wp2
      go_ret
      exact ⟨rfl, below_two hb1 hb2⟩
    · have c1' : ¬ (300 : Int) < (len1 : Int) := by omega
      go_enter Try.func11, Try.ntmps11
      go_wp2_with fail
      refine (awake _).mono ?_
      rintro e wa ⟨rfl, _, hb1⟩
      have hX1 := hX.below hb1
      have hY1 := hY.below hb1
      clear hX hY
      go_upto_region 3 with fail
      go_cut [7] from 9 (fun v wx => ∃ n : Nat, v = .int .i64 n ∧ wa = wx ∧ n ≤ len0 ∧ n ≤ len1 ∧ Hid (n = min len0 len1))
      case first =>
        by_cases hmn : (len1 : Int) < (len0 : Int)
        · go_wp2_with fail
          go_meet
          case rel => exact ⟨len1, rfl, rfl, by omega, by omega, Lib.hid (by omega)⟩
        · go_wp2_with fail
          go_meet
          case rel => exact ⟨len0, rfl, rfl, by omega, by omega, Lib.hid (by omega)⟩
      case rest =>
        obtain ⟨n, rfl, rfl, n0, n1, hn⟩ := hcut
        obtain ⟨r, hr⟩ : ∃ r, a2.tmod ((n : Int) + 1) = r := ⟨_, rfl⟩
        obtain ⟨r1, r2⟩ := rest_by a2 ((n : Int) + 1) (by omega)
        rw [hr] at r1 r2
        obtain ⟨k, hk⟩ : ∃ k : Nat, (r + (n : Int) + 1) % ((n : Int) + 1) = (k : Int) := ⟨((r + (n : Int) + 1) % ((n : Int) + 1)).toNat, by have := Int.emod_nonneg (r + (n : Int) + 1) (b := (n : Int) + 1) (by omega); omega⟩
        have kn : k ≤ n := by have := Int.emod_lt_of_pos (r + (n : Int) + 1) (b := (n : Int) + 1) (by omega); omega
        have kn' : (k : Int) ≤ (n : Int) := by omega
        go_upto_region 4 with fail
        go_cut [8] from 9 (fun v wx => v = .int .i64 k ∧ wa = wx)
        case first =>
          go_wp2_with fail
          go_meet
          case rel => exact ⟨val_int hk, rfl⟩
        case rest =>
          obtain ⟨rfl, rfl⟩ := hcut
          clear hk hr r1 r2
          obtain ⟨T, hT⟩ : ∃ T, wsum (prods xs ys) = T := ⟨_, rfl⟩
          obtain ⟨P, hP⟩ : ∃ P, wsum (prods (xs.take k) (ys.take k)) = P := ⟨_, rfl⟩
          obtain ⟨R, hR⟩ : ∃ R, wsum (prods ((xs.drop k).take (n - k)) ((ys.drop k).take (n - k))) = R := ⟨_, rfl⟩
          have hPR : Hid (wrap32 (P + R) = T) := Lib.hid (by rw [← hP, ← hR, ← hT]; exact pieces hX1.1 hY1.1 hn.out kn)
          have d1 : ∀ W, Below wa.heap.size wa W → Calls Try.prog 25 #[.slice a0 len0 cap0, .slice a1 len1 cap1] W fun e w' => e = .returned (.int .i32 T) ∧ ∃ d, w' = W.drewN d := fun W hW => by
            rw [← hT]; exact dot _ _ _ xs _ _ _ ys W (hX1.below hW) (hY1.below hW)
          have d2 : ∀ W, Below wa.heap.size wa W → Calls Try.prog 25 #[.slice a1 len1 cap1, .slice a0 len0 cap0] W fun e w' => e = .returned (.int .i32 T) ∧ ∃ d, w' = W.drewN d := fun W hW => by
            rw [← hT, ← prods_comm ys xs]; exact dot _ _ _ ys _ _ _ xs W (hY1.below hW) (hX1.below hW)
          have d3 : ∀ W, Below wa.heap.size wa W → Calls Try.prog 25 #[.slice a0 k cap0, .slice a1 k cap1] W fun e w' => e = .returned (.int .i32 P) ∧ ∃ d, w' = W.drewN d := fun W hW => by
            rw [← hP]; exact dot _ _ _ _ _ _ _ _ W ((hX1.below hW).take k (by omega)) ((hY1.below hW).take k (by omega))
          obtain ⟨A, hA⟩ : ∃ A, (if cap0 = k then a0 else Option.map (fun x => x.add k) a0) = A := ⟨_, rfl⟩
          obtain ⟨B, hB⟩ : ∃ B, (if cap1 = k then a1 else Option.map (fun x => x.add k) a1) = B := ⟨_, rfl⟩
          have hEA : Elems .i8 wa A (n - k) ((xs.drop k).take (n - k)) := by
            rw [← hA]
            split
            · exact Elems.empty _ (by have := hX1.1; rw [List.length_take, List.length_drop]; omega) (by omega)
            · exact (hX1.cut k (by omega)).take (n - k) (by omega)
          have hEB : Elems .i8 wa B (n - k) ((ys.drop k).take (n - k)) := by
            rw [← hB]
            split
            · exact Elems.empty _ (by have := hY1.1; rw [List.length_take, List.length_drop]; omega) (by omega)
            · exact (hY1.cut k (by omega)).take (n - k) (by omega)
          have d4 : ∀ W, Below wa.heap.size wa W → Calls Try.prog 25 #[.slice A (n - k) (cap0 - k), .slice B (n - k) (cap1 - k)] W fun e w' => e = .returned (.int .i32 R) ∧ ∃ d, w' = W.drewN d := fun W hW => by
            rw [← hR]; exact dot _ _ _ _ _ _ _ _ W (hEA.below hW) (hEB.below hW)
          have ds : ∀ (W : World) (g : Nat), W.cell? ⟨g, 0, none⟩ = some (.int .i32 P) → W.cell? ⟨g, 1, none⟩ = some (.int .i32 R) → Calls Try.prog 15 #[.slice (some ⟨g, 0, none⟩) 2 2] W fun e w' => e = .returned (.int .i32 T) ∧ W = w' := fun W g h0 h1 => by
            have h := sum32 (some ⟨g, 0, none⟩) 2 2 [P, R] W (pair_elems h0 h1 (by rw [← hP]; exact wsum_wf _) (by rw [← hR]; exact wsum_wf _))
            rwa [show wsum [P, R] = T from by rw [← hPR.out]; simp [wsum]] at h
          have ds2 : ∀ m : Nat, Calls Try.prog 15 #[.slice (some ⟨wa.heap.size, 0, none⟩) 2 2] ((wa.drewN m).alloc (.cells #[.int .i32 P, .int .i32 R] 21)) fun e w' => e = .returned (.int .i32 T) ∧ (wa.drewN m).alloc (.cells #[.int .i32 P, .int .i32 R] 21) = w' := fun m =>
            ds _ wa.heap.size (World.cell?_alloc_new (wa.drewN m) _ _ 0) (World.cell?_alloc_new (wa.drewN m) _ _ 1)
          clear ds hT hP hR hEA hEB hPR hX1 hY1 hn
          go_upto_region 5 with fail
          have b0 : (0 : Int) ≤ (k : Int) := by omega
          have b1 : (k : Int) ≤ (cap0 : Int) := by omega
          have b2 : (k : Int) ≤ (cap1 : Int) := by omega
          have b3 : (n : Int) ≤ (cap0 : Int) := by omega
          have b4 : (n : Int) ≤ (cap1 : Int) := by omega
          have hS0 : Below wa.heap.size wa wa.drew := (Below.refl _ _).drew
          go_region_held3 (fun W => Below wa.heap.size wa W)
            (first | assumption | exact below_drewN (Below.refl _ _) _ | exact below_drewN ((below_drewN (Below.refl _ _) _).alloc (by simp) _) _ | exact (below_drewN (Below.refl _ _) _).alloc (by simp) _ | exact below_drewN ((Below.refl _ _).alloc (Nat.le_refl _) _) _ | exact (Below.refl _ _).alloc (Nat.le_refl _) _)
            (first
              | (go_at_call 25; (with_reducible refine (d1 _ (by assumption)).mono ?_); rintro e w' ⟨rfl, d, rfl⟩)
              | (go_at_call 25; (with_reducible refine (d2 _ (by assumption)).mono ?_); rintro e w' ⟨rfl, d, rfl⟩)
              | (go_at_call 25; (with_reducible refine (d3 _ (by assumption)).mono ?_); rintro e w' ⟨rfl, d, rfl⟩)
              | (go_at_call 25; (with_reducible refine (d4 _ (by assumption)).mono ?_); rintro e w' ⟨rfl, d, rfl⟩)
              | (go_at_call 15; (with_reducible refine (ds2 _).mono ?_); rintro e w' ⟨rfl, rfl⟩))
          go_wp2
          go_ret
          exact ⟨rfl, below_two hb1 (by first | assumption | exact below_drewN ((below_drewN (Below.refl _ _) _).alloc (by simp) _) _)⟩

/-! ### THE ROW's STEP: WRITTEN OUT: LEAVE IT -/
set_option maxRecDepth 100000 in
theorem lifted (os : Os) (started : os.Started) (H : Type) (enc : TypeId × Value → H) :
    ReturnsInHanded {} Try.checked os 11 .any (Rows.roundPiecesSpec.pre6 enc Try.prog Try.f11 Rows.roundPiecesRow.domain false) (Rows.roundPiecesSpec.post enc Try.prog Try.f11 false true false false) := by
  refine returnsInHanded_of_change (C := Try.checked) own started (by kernel_rfl) Try.func11
    (ChangeSpec.witness6 (enc := enc) (C := Try.checked) false ⟨#[], #[.slice none 0 0, .slice none 0 0, .int .i64 0], []⟩ 8 (by kernel_rfl) (by kernel_rfl) (by kernel_rfl) (by kernel_rfl)) ?_
  intro W base args ds gs before hval0 hW hcnd _
  have hval : ∀ (j : Nat) t v, Try.f11.params[j]? = some t → args[j]? = some v → Value.okWide Try.prog W .any base t v := hval0
  have hW' := hW
  obtain ⟨p, q, hA0, hV, rfl, hfz, hnd⟩ := hW
  have hA : DataW.TrodAll enc Try.prog W 0 (fun _ => true) true Try.f11.params.toList args.toList ds p := hA0
  rw [Try.params11] at hA hval
  obtain ⟨v0, vs0, d0, ds0, p0, q0, hargs, rfl, rfl, h0, r0⟩ := trodAll_cons hA
  obtain ⟨v1, vs1, d1, ds1, p1, q1, rfl, rfl, rfl, h1, r1⟩ := trodAll_cons r0
  obtain ⟨v2, vs2, d2, ds2, p2, q2, rfl, rfl, rfl, h2, r2⟩ := trodAll_cons r1
  obtain ⟨rfl, rfl, rfl⟩ := trodAll_nil r2
  obtain rfl : args = #[v0, v1, v2] := by cases args; simp_all
  obtain ⟨rfl, rfl⟩ := trodVars_none hV
  obtain ⟨a0, len0, cap0, rfl⟩ := okWide_slice Try.underlying37 (hval 0 37 v0 rfl rfl)
  have k0 := h0
  have lt0 : ∀ x ∈ p0, x.block < W.heap.size := by obtain ⟨m, hm⟩ := k0; exact DataW.trod_lt m _ _ _ hm
  obtain ⟨z0, w0⟩ : ∃ zs, IsRow .i8 W a0 len0 cap0 zs := by
    obtain ⟨fuel, hf⟩ := h0
    rcases open_ints Try.underlying37 Try.underlying29 (by kernel_rfl) hf with ⟨hcs, _⟩ | ⟨x, l, c, zs, hcs, _, hl, hm, hz, _, hcell, hwz⟩
    · simp [Value.cells] at hcs
      obtain ⟨rfl, rfl, rfl⟩ := hcs
      exact ⟨[], .inl ⟨rfl, rfl, rfl, rfl⟩⟩
    · simp [Value.cells] at hcs
      obtain ⟨rfl, rfl, rfl⟩ := hcs
      exact ⟨zs, .inr ⟨_, rfl, hl, hm, by simpa using hz, hcell, hwz⟩⟩
  obtain ⟨a1, len1, cap1, rfl⟩ := okWide_slice Try.underlying37 (hval 1 37 v1 rfl rfl)
  have k1 := h1
  have lt1 : ∀ x ∈ p1, x.block < W.heap.size := by obtain ⟨m, hm⟩ := k1; exact DataW.trod_lt m _ _ _ hm
  obtain ⟨z1, w1⟩ : ∃ zs, IsRow .i8 W a1 len1 cap1 zs := by
    obtain ⟨fuel, hf⟩ := h1
    rcases open_ints Try.underlying37 Try.underlying29 (by kernel_rfl) hf with ⟨hcs, _⟩ | ⟨x, l, c, zs, hcs, _, hl, hm, hz, _, hcell, hwz⟩
    · simp [Value.cells] at hcs
      obtain ⟨rfl, rfl, rfl⟩ := hcs
      exact ⟨[], .inl ⟨rfl, rfl, rfl, rfl⟩⟩
    · simp [Value.cells] at hcs
      obtain ⟨rfl, rfl, rfl⟩ := hcs
      exact ⟨zs, .inr ⟨_, rfl, hl, hm, by simpa using hz, hcell, hwz⟩⟩
  obtain ⟨a2, rfl, rfl, rfl, w2⟩ := open_int Try.underlying3 (hval 2 3 v2 rfl rfl) h2
  clear hA0 hval0
  refine (walk a0 len0 cap0 z0 a1 len1 cap1 z1 a2 W w0 w1 w2).mono fun e W' ⟨he, bel⟩ => ?_
  subst he
  exact ⟨_, rfl, _, _, _, [], _, [], hW', trodAll_mk1 (shut_bool Try.underlying4 _), (trodAll_cons_mk (Below.trod laidOut (by kernel_rfl) (of_decide_eq_true (by kernel_rfl)) k0 bel lt0) (trodAll_cons_mk (Below.trod laidOut (by kernel_rfl) (of_decide_eq_true (by kernel_rfl)) k1 bel lt1) (trodAll_cons_mk (shut_int Try.underlying3 w2) trodAll_mk0))), rfl, bel.frame _, fun h => by cases h⟩

theorem over : Rows.roundPiecesRow.holds Try.pinned (OpenSpec.ofChange Rows.roundPiecesSpec) :=
  OpenClaim.holds_of_wide 11 Try.f11 rfl rfl rfl rfl rfl rfl rfl ⟨rfl, rfl, rfl, rfl, rfl⟩ rfl rfl rfl rfl rfl (by kernel_rfl) Try.func11 (by kernel_rfl)
    (of_decide_eq_true (by kernel_rfl)) (by unfold Func.isWrapper; first | (rw [if_pos (by decide +kernel)]; kernel_rfl) | (rw [if_neg (by decide +kernel)]; exact ⟨rfl, rfl⟩))
    (fun os started H enc _ => lifted os started H enc)

/-- ████ THE STATEMENT ████ -/
theorem proved : Rows.RoundPiecesSaid := over
#print axioms proved
end Go.Proofs.Ythkehkjoaelmaaa.roundPieces
