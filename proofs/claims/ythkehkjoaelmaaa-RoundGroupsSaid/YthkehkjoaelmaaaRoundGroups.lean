/-
  Proved: for every list of numbers, every list of cuts and every turn, RoundGroups returns true (sums in any groups and orders are the same) and nothing that was in memory turns. Conditions: none.
-/
import Derived.Test.YthkehkjoaelmaaaRows
import Derived.WalkKit
import Derived.ProofKit
import Derived.OpenShut
import Derived.ShutString
import Derived.ChangeOld
import Derived.Below
import Derived.Test.YthkehkjoaelmaaaAwake
import Derived.Test.YthkehkjoaelmaaaOwn
import Derived.Maps.AppendAt
import Derived.Deep.CutBlock
namespace Go.Proofs.Ythkehkjoaelmaaa.roundGroups
open Go.ChangeShapes Go.WideShapes Go.ChangeAt Go.RowKit
open Go.ChangeMaps (open_string shut_string)
set_option linter.unusedVariables false

theorem own : ownKnob Try.prog.godebug = none := by kernel_rfl
theorem laidOut : laidOutB Try.prog = true := by kernel_rfl

/-- WHAT THE WALK IS TOLD OF A SLICE OF INTEGERS THAT CAME IN: it is nil; or it leads to a row of 'cap' cells, the numbers 'zs' (the first 'len' are its elements, the rest its spare room), each fitting its kind. -/
def IsRow (k : IntKind) (w : World) (a : Option Addr) (len cap : Nat) (zs : List Int) : Prop :=
  (a = none ∧ len = 0 ∧ cap = 0 ∧ zs = []) ∨
  ∃ x, a = some x ∧ len ≤ cap ∧ cap ≤ maxLen ∧ zs.length = cap ∧ (∀ i, i < zs.length → w.cell? (x.add i) = some (.int k (zs.getD i 0))) ∧ ∀ n ∈ zs, (Lit.int k n).wf = true

/-! ### STEP 1: THE WALK: the Go text returns true, AND WRITES NOTHING THAT WAS THERE: 'Below w.heap.size w w'' (Derived/Below.lean: '.refl', '.alloc', '.drew', '.setCell' at a new block, '.trans'). Open each 'IsRow' by 'rcases' AHEAD of 'go_enter'; part every test ahead of the walk. -/
set_option maxHeartbeats 1600000 in
set_option maxRecDepth 100000 in
theorem walk (a0 : Option Addr) (len0 cap0 : Nat) (z0 : List Int) (a1 : Option Addr) (len1 cap1 : Nat) (z1 : List Int) (a2 : Int) (w : World) (w0 : IsRow .i32 w a0 len0 cap0 z0) (w1 : IsRow .i64 w a1 len1 cap1 z1) (w2 : (Lit.int .i64 a2).wf = true) :
    Calls Try.prog 9 #[.slice a0 len0 cap0, .slice a1 len1 cap1, .int .i64 a2] w fun e w' => e = .returned (.bool true) ∧ Below w.heap.size w w' := by
  obtain ⟨⟨xs, hX⟩, hcap0, hmax0⟩ := elems_of_row w0
  obtain ⟨⟨cs, hC⟩, hcap1, hmax1⟩ := elems_of_row w1
  obtain ⟨i0, hi, hz0, hz1, hz2⟩ := info_parts info_int32
  clear w0 w1
  by_cases c0 : 100 < len0
  · have c0' : (100 : Int) < (len0 : Int) := by omega
    go_enter Try.func9, Try.ntmps9
    go_wp2_with fail
    refine (awake _).mono ?_
    rintro e wa ⟨rfl, _, hb1⟩
    go_wp2_with fail
    refine (awake _).mono ?_
    rintro e wb ⟨rfl, _, hb2⟩
    go_wp2
    go_ret
    exact ⟨rfl, below_two hb1 hb2⟩
  · have c0' : ¬ (100 : Int) < (len0 : Int) := by omega
    by_cases c1 : 20 < len1
    · have c1' : (20 : Int) < (len1 : Int) := by omega
      go_enter Try.func9, Try.ntmps9
      go_wp2_with fail
      refine (awake _).mono ?_
      rintro e wa ⟨rfl, _, hb1⟩
      go_wp2_with fail
      refine (awake _).mono ?_
      rintro e wb ⟨rfl, _, hb2⟩
      go_wp2
      go_ret
      exact ⟨rfl, below_two hb1 hb2⟩
    · have c1' : ¬ (20 : Int) < (len1 : Int) := by omega
      go_enter Try.func9, Try.ntmps9
      go_wp2_with fail
      refine (awake _).mono ?_
      rintro e wa ⟨rfl, _, hb1⟩
      have hX1 := hX.below hb1
      have hC1 := hC.below hb1
      clear hX hC
      go_wp2_with fail
      refine (sum32 _ _ _ xs _ hX1).mono ?_
      rintro e wb ⟨rfl, rfl⟩
      go_upto_block 0 with fail
      go_cut [8, 9, 10] from 30 (fun v p i wx => ∃ (q at_ : Nat) (ss : List Int), q ≤ len1 ∧ at_ ≤ len0 ∧ p = .int .i64 at_ ∧ wx.ownsRow wa.heap.size 21 1 v q (ss.map (.int .i32)) ∧ Below wa.heap.size wa wx ∧ Hid (wrap32 ss.sum = wrap32 (xs.take at_).sum ∧ ∀ s ∈ ss, (Lit.int .i32 s).wf = true))
      case first =>
        go_wp2_with fail
        go_loopw [8, 9, 10] (fun v p i wr => ∃ (q at_ : Nat) (ss : List Int), q ≤ len1 ∧ at_ ≤ len0 ∧ i = .int .i64 q ∧ p = .int .i64 at_ ∧ wr.ownsRow wa.heap.size 21 1 v q (ss.map (.int .i32)) ∧ Below wa.heap.size wa wr ∧ Hid (wrap32 ss.sum = wrap32 (xs.take at_).sum ∧ ∀ s ∈ ss, (Lit.int .i32 s).wf = true)) (fun _ _ i _ => len1 - (intOf i).toNat)
        case atStart => exact ⟨0, 0, [], by omega, by omega, rfl, rfl, own_nil _ _ _, Below.refl _ _, Lib.hid ⟨by simp, by simp⟩⟩
        case round =>
          obtain ⟨q, at_, ss, hq, hat, rfl, rfl, hown, hbel, hss⟩ := hrel
          have hs := hbel.size
          rcases Nat.lt_or_ge q len1 with d1 | d1
          · have d1' : (q : Int) < (len1 : Int) := by omega
            rcases Nat.lt_or_ge at_ len0 with d2 | d2
            · have d2' : (at_ : Int) < (len0 : Int) := by omega
              obtain ⟨b, off, c, rfl, hc, hv, wv⟩ := (hC1.below hbel).at_ d1
              obtain ⟨r, hr⟩ : ∃ r, c.tmod 9 = r := ⟨_, rfl⟩
              obtain ⟨r1, r2⟩ : -8 ≤ r ∧ r ≤ 8 := by rw [← hr]; exact rest9 c
              obtain ⟨m, hm⟩ : ∃ m : Nat, (r + 9) % 9 = (m : Int) := ⟨((r + 9) % 9).toNat, by omega⟩
              have m1 : m ≤ 8 := by omega
              rcases Nat.lt_or_ge (len0 - at_) m with d3 | d3
              · go_wp2_with fail
                refine (sum32 _ _ _ _ _ ((hX1.below hbel).cut at_ hat)).mono ?_
                rintro e wx ⟨rfl, rfl⟩
                obtain ⟨S, hS⟩ : ∃ S, wsum (xs.drop at_) = S := ⟨_, rfl⟩
                have hss2 : Hid (wrap32 (ss ++ [S]).sum = wrap32 (xs.take (len0)).sum ∧ ∀ s ∈ ss ++ [S], (Lit.int .i32 s).wf = true) := Lib.hid (by
                  rw [← hS]
                  have h := groups_step hss.out.1 hss.out.2 (len0 - at_)
                  rwa [List.take_of_length_le (by have := hX1.1; rw [List.length_drop]; omega), show at_ + (len0 - at_) = len0 by omega] at h)
                rw [hS]
                go_wp2_with (at_builtin; refine wpList_append_own _ rfl _ _ 23 rfl wa.heap.size 21 i0 (.int .i32 0) 1 4 Try.underlying23 hi hz0 hz1 hz2 rfl (by decide) _ _ _ rfl (hown.alloc _) ⟨wr.heap.size, 0, none⟩ 1 1 [.int .i32 S] rfl rfl (cell_one_new _ _ _) one_cell (by unfold maxLen; omega) (by omega) (by simp; omega) ?_)
                intro v' w' hown' hgrow _
                have hown2 : w'.ownsRow wa.heap.size 21 1 v' (q + 1) ((ss ++ [S]).map (.int .i32)) := by
                  rw [List.map_append]; exact hown'
                have hbel2 := (hbel.alloc hs (.cells #[.int .i32 S] 21)).grown hgrow (by simp; omega) (own_lt hown)
                clear hown' hgrow hown hbel hc hv wv hX1 hC1 hs hss hS
                go_wp2
                go_roundw
                case rel => exact ⟨q + 1, len0, ss ++ [S], by omega, by omega, by go_num, val_int (by omega), hown2, hbel2, hss2⟩
                case measure => simp [intOf]; omega
              · go_wp2_with fail
                refine (sum32 _ _ _ _ _ (((hX1.below hbel).cut at_ hat).take m (by omega))).mono ?_
                rintro e wx ⟨rfl, rfl⟩
                obtain ⟨S, hS⟩ : ∃ S, wsum ((xs.drop at_).take m) = S := ⟨_, rfl⟩
                have hss2 : Hid (wrap32 (ss ++ [S]).sum = wrap32 (xs.take (at_ + m)).sum ∧ ∀ s ∈ ss ++ [S], (Lit.int .i32 s).wf = true) := Lib.hid (by
                  rw [← hS]
                  have h := groups_step hss.out.1 hss.out.2 (m)
                  exact h)
                rw [hS]
                go_wp2_with (at_builtin; refine wpList_append_own _ rfl _ _ 23 rfl wa.heap.size 21 i0 (.int .i32 0) 1 4 Try.underlying23 hi hz0 hz1 hz2 rfl (by decide) _ _ _ rfl (hown.alloc _) ⟨wr.heap.size, 0, none⟩ 1 1 [.int .i32 S] rfl rfl (cell_one_new _ _ _) one_cell (by unfold maxLen; omega) (by omega) (by simp; omega) ?_)
                intro v' w' hown' hgrow _
                have hown2 : w'.ownsRow wa.heap.size 21 1 v' (q + 1) ((ss ++ [S]).map (.int .i32)) := by
                  rw [List.map_append]; exact hown'
                have hbel2 := (hbel.alloc hs (.cells #[.int .i32 S] 21)).grown hgrow (by simp; omega) (own_lt hown)
                clear hown' hgrow hown hbel hc hv wv hX1 hC1 hs hss hS
                go_wp2
                go_roundw
                case rel => exact ⟨q + 1, at_ + m, ss ++ [S], by omega, by omega, by go_num, val_int (by omega), hown2, hbel2, hss2⟩
                case measure => simp [intOf]; omega
            · have d2' : ¬ (at_ : Int) < (len0 : Int) := by omega
              go_wp2_with fail
              go_meet
              case rel => exact ⟨q, at_, ss, hq, hat, rfl, hown, hbel, hss⟩
          · have d1' : ¬ (q : Int) < (len1 : Int) := by omega
            go_wp2_with fail
            go_meet
            case rel => exact ⟨q, at_, ss, hq, hat, rfl, hown, hbel, hss⟩
      case rest =>
        obtain ⟨q, at_, ss, hq, hat, rfl, hown, hbel, hss⟩ := hcut
        have hs := hbel.size
        obtain ⟨A, hA⟩ : ∃ A, (if cap0 = at_ then a0 else Option.map (fun x => x.add at_) a0) = A := ⟨_, rfl⟩
        have hEA : Elems .i32 wc A (len0 - at_) (xs.drop at_) := by
          rw [← hA]
          split
          · exact Elems.empty _ (by have := hX1.1; rw [List.length_drop]; omega) (by omega)
          · exact (hX1.below hbel).cut at_ hat
        go_wp2_with fail
        refine (sum32 _ _ _ (xs.drop at_) _ hEA).mono ?_
        rintro e wx ⟨rfl, rfl⟩
        obtain ⟨S, hS⟩ : ∃ S, wsum (xs.drop at_) = S := ⟨_, rfl⟩
        have hss2 : Hid (wrap32 (ss ++ [S]).sum = wrap32 xs.sum ∧ ∀ s ∈ ss ++ [S], (Lit.int .i32 s).wf = true) := Lib.hid (by
          rw [← hS]
          have h := groups_step hss.out.1 hss.out.2 (len0 - at_)
          rwa [List.take_of_length_le (by have := hX1.1; rw [List.length_drop]; omega), show at_ + (len0 - at_) = len0 by omega, sum_all xs len0 (by have := hX1.1; omega)] at h)
        rw [hS]
        go_wp2_with (at_builtin; refine wpList_append_own _ rfl _ _ 23 rfl wa.heap.size 21 i0 (.int .i32 0) 1 4 Try.underlying23 hi hz0 hz1 hz2 rfl (by decide) _ _ _ rfl (hown.alloc _) ⟨wc.heap.size, 0, none⟩ 1 1 [.int .i32 S] rfl rfl (cell_one_new _ _ _) one_cell (by unfold maxLen; omega) (by omega) (by simp; omega) ?_)
        intro v' w' hown' hgrow _
        have hown2 : w'.ownsRow wa.heap.size 21 1 v' (q + 1) ((ss ++ [S]).map (.int .i32)) := by
          rw [List.map_append]; exact hown'
        have hbel2 := (hbel.alloc hs (.cells #[.int .i32 S] 21)).grown hgrow (by simp; omega) (own_lt hown)
        obtain ⟨aS, capS, hvS, hSS⟩ := own_form hown2 (by omega) hss2.out.2
        subst hvS
        have hX2 := hX1.below hbel2
        have hb3 := below_two hb1 hbel2
        clear hown' hgrow hown hbel hC1 hs hss hS hX1 hown2 hbel2 hb1 hEA hA
        go_upto_if 76 with fail
        go_cut [13] from 74 (fun k wx => ∃ kk : Nat, k = .int .i64 kk ∧ wx = w' ∧ (kk < len0 ∨ len0 = 0 ∧ kk = 0))
        case first =>
          rcases Nat.eq_zero_or_pos len0 with z0 | z0
          · have z0' : ¬ (0 : Int) < (len0 : Int) := by omega
            have Z := Lib.hid z0
            clear z0
            go_wp2_with fail
            go_meet
            case rel => exact ⟨0, rfl, rfl, .inr ⟨Z.out, rfl⟩⟩
          · obtain ⟨r', hr'⟩ : ∃ r', a2.tmod (len0 : Int) = r' := ⟨_, rfl⟩
            obtain ⟨r1', r2'⟩ := rest_by a2 (len0 : Int) (by omega)
            rw [hr'] at r1' r2'
            obtain ⟨kk, hkk⟩ : ∃ kk : Nat, (r' + (len0 : Int)) % (len0 : Int) = (kk : Int) := ⟨((r' + (len0 : Int)) % (len0 : Int)).toNat, by have := Int.emod_nonneg (r' + (len0 : Int)) (b := (len0 : Int)) (by omega); omega⟩
            have kk1 : kk < len0 := by have := Int.emod_lt_of_pos (r' + (len0 : Int)) (b := (len0 : Int)) (by omega); omega
            have z0' : (0 : Int) < (len0 : Int) := by omega
            go_wp2_with fail
            go_meet
            case rel => exact ⟨kk, val_int hkk, rfl, .inl kk1⟩
        case rest =>
          obtain ⟨kk, rfl, rfl, kk1⟩ := hcut
          go_wp2
          go_loopw [12, 14] (fun v i wr2 => ∃ (j : Nat) (os : List Int), j ≤ len0 ∧ i = .int .i64 ((j : Int) - 1) ∧ wr2.ownsRow wc.heap.size 21 1 v (len0 - j) (os.map (.int .i32)) ∧ Below wc.heap.size wc wr2 ∧ Hid (os.sum = ((xs.drop kk ++ xs.take kk).drop j).sum ∧ ∀ s ∈ os, (Lit.int .i32 s).wf = true)) (fun _ i _ => (intOf i + 1).toNat)
          case atStart =>
            refine ⟨len0, [], by omega, rfl, ?_, Below.refl _ _, Lib.hid ⟨?_, by simp⟩⟩
            · rw [Nat.sub_self]; exact own_nil _ _ _
            · rw [List.drop_of_length_le (by rw [List.length_append, List.length_drop, List.length_take]; have := hX2.1; omega)]
          case round =>
            obtain ⟨j, os, hj, rfl, hown3, hbel3, hos⟩ := hrel
            have hs3 := hbel3.size
            rcases Nat.eq_zero_or_pos j with j0 | j0
            · subst j0
              obtain ⟨aO, capO, hvO, hOO⟩ := own_form hown3 (by omega) hos.out.2
              subst hvO
              have hA : ∀ w, Elems .i32 w aS (q + 1) (ss ++ [S]) → Calls Try.prog 15 #[.slice aS (q + 1) capS] w fun e w' => e = .returned (.int .i32 (wsum xs)) ∧ w = w' := by
                intro w h
                have h2 := sum32 aS (q + 1) capS _ w h
                rwa [show wsum (ss ++ [S]) = wsum xs from hss2.out.1] at h2
              have hB : ∀ w, Elems .i32 w aO (len0 - 0) os → Calls Try.prog 15 #[.slice aO len0 capO] w fun e w' => e = .returned (.int .i32 (wsum xs)) ∧ w = w' := by
                intro w h
                have h2 := sum32 aO (len0 - 0) capO _ w h
                rwa [show wsum os = wsum xs from by unfold wsum; rw [hos.out.1, List.drop_zero, List.sum_append, Int.add_comm, ← sum_rest], Nat.sub_zero] at h2
              have hSS2 := hSS.below hbel3
              clear hos hss2 hX2 hown3 hSS
              go_wp2_with fail
              refine (hA _ hSS2).mono ?_
              rintro e wy ⟨rfl, rfl⟩
              go_wp2_with fail
              refine (hB _ hOO).mono ?_
              rintro e wy ⟨rfl, rfl⟩
              go_wp2
              go_ret
              exact ⟨rfl, below_two hb3 hbel3⟩
            · have j1 : ¬ ((j : Int) - 1 < 0) := by omega
              have j2 : (0 : Int) ≤ (j : Int) - 1 := by omega
              obtain ⟨p, hp⟩ : ∃ p : Nat, ((j : Int) - 1 + (kk : Int)) % (len0 : Int) = (p : Int) := ⟨(((j : Int) - 1 + (kk : Int)) % (len0 : Int)).toNat, by have := Int.emod_nonneg ((j : Int) - 1 + (kk : Int)) (b := (len0 : Int)) (by omega); omega⟩
              have hp1 : p < len0 := by have := Int.emod_lt_of_pos ((j : Int) - 1 + (kk : Int)) (b := (len0 : Int)) (by omega); omega
              obtain ⟨b', off', u, rfl, hc', hu, wu⟩ := (hX2.below hbel3).at_ hp1
              have hos2 : Hid ((os ++ [u]).sum = ((xs.drop kk ++ xs.take kk).drop (j - 1)).sum ∧ ∀ s ∈ os ++ [u], (Lit.int .i32 s).wf = true) := Lib.hid (turn_step hos.out.1 hos.out.2 hX2.1 (by omega) j0 hj hp hu.out wu)
              go_wp2_with (at_builtin; refine wpList_append_own _ rfl _ _ 23 rfl wc.heap.size 21 i0 (.int .i32 0) 1 4 Try.underlying23 hi hz0 hz1 hz2 rfl (by decide) _ _ _ rfl (hown3.alloc _) ⟨wr.heap.size, 0, none⟩ 1 1 [.int .i32 u] rfl rfl (cell_one_new _ _ _) one_cell (by unfold maxLen; omega) (by omega) (by simp; omega) ?_)
              intro v2 w2' hown' hgrow _
              have hown4 : w2'.ownsRow wc.heap.size 21 1 v2 (len0 - (j - 1)) ((os ++ [u]).map (.int .i32)) := by
                rw [List.map_append, show len0 - (j - 1) = len0 - j + 1 by omega]; exact hown'
              have hbel4 := (hbel3.alloc hs3 (.cells #[.int .i32 u] 21)).grown hgrow (by simp; omega) (own_lt hown3)
              clear hown' hgrow hown3 hbel3 hc' hu wu hos hX2 hs3 hSS hss2
              go_wp2
              go_roundw
              case rel => exact ⟨j - 1, os ++ [u], by omega, val_int (by omega), hown4, hbel4, hos2⟩
              case measure => simp [intOf]; omega

/-! ### THE ROW's STEP: WRITTEN OUT: LEAVE IT -/
set_option maxRecDepth 100000 in
theorem lifted (os : Os) (started : os.Started) (H : Type) (enc : TypeId × Value → H) :
    ReturnsInHanded {} Try.checked os 9 .any (Rows.roundGroupsSpec.pre6 enc Try.prog Try.f9 Rows.roundGroupsRow.domain false) (Rows.roundGroupsSpec.post enc Try.prog Try.f9 false true false false) := by
  refine returnsInHanded_of_change (C := Try.checked) own started (by kernel_rfl) Try.func9
    (ChangeSpec.witness6 (enc := enc) (C := Try.checked) false ⟨#[], #[.slice none 0 0, .slice none 0 0, .int .i64 0], []⟩ 8 (by kernel_rfl) (by kernel_rfl) (by kernel_rfl) (by kernel_rfl)) ?_
  intro W base args ds gs before hval0 hW hcnd _
  have hval : ∀ (j : Nat) t v, Try.f9.params[j]? = some t → args[j]? = some v → Value.okWide Try.prog W .any base t v := hval0
  have hW' := hW
  obtain ⟨p, q, hA0, hV, rfl, hfz, hnd⟩ := hW
  have hA : DataW.TrodAll enc Try.prog W 0 (fun _ => true) true Try.f9.params.toList args.toList ds p := hA0
  rw [Try.params9] at hA hval
  obtain ⟨v0, vs0, d0, ds0, p0, q0, hargs, rfl, rfl, h0, r0⟩ := trodAll_cons hA
  obtain ⟨v1, vs1, d1, ds1, p1, q1, rfl, rfl, rfl, h1, r1⟩ := trodAll_cons r0
  obtain ⟨v2, vs2, d2, ds2, p2, q2, rfl, rfl, rfl, h2, r2⟩ := trodAll_cons r1
  obtain ⟨rfl, rfl, rfl⟩ := trodAll_nil r2
  obtain rfl : args = #[v0, v1, v2] := by cases args; simp_all
  obtain ⟨rfl, rfl⟩ := trodVars_none hV
  obtain ⟨a0, len0, cap0, rfl⟩ := okWide_slice Try.underlying23 (hval 0 23 v0 rfl rfl)
  have k0 := h0
  have lt0 : ∀ x ∈ p0, x.block < W.heap.size := by obtain ⟨m, hm⟩ := k0; exact DataW.trod_lt m _ _ _ hm
  obtain ⟨z0, w0⟩ : ∃ zs, IsRow .i32 W a0 len0 cap0 zs := by
    obtain ⟨fuel, hf⟩ := h0
    rcases open_ints Try.underlying23 Try.underlying21 (by kernel_rfl) hf with ⟨hcs, _⟩ | ⟨x, l, c, zs, hcs, _, hl, hm, hz, _, hcell, hwz⟩
    · simp [Value.cells] at hcs
      obtain ⟨rfl, rfl, rfl⟩ := hcs
      exact ⟨[], .inl ⟨rfl, rfl, rfl, rfl⟩⟩
    · simp [Value.cells] at hcs
      obtain ⟨rfl, rfl, rfl⟩ := hcs
      exact ⟨zs, .inr ⟨_, rfl, hl, hm, by simpa using hz, hcell, hwz⟩⟩
  obtain ⟨a1, len1, cap1, rfl⟩ := okWide_slice Try.underlying47 (hval 1 47 v1 rfl rfl)
  have k1 := h1
  have lt1 : ∀ x ∈ p1, x.block < W.heap.size := by obtain ⟨m, hm⟩ := k1; exact DataW.trod_lt m _ _ _ hm
  obtain ⟨z1, w1⟩ : ∃ zs, IsRow .i64 W a1 len1 cap1 zs := by
    obtain ⟨fuel, hf⟩ := h1
    rcases open_ints Try.underlying47 Try.underlying3 (by kernel_rfl) hf with ⟨hcs, _⟩ | ⟨x, l, c, zs, hcs, _, hl, hm, hz, _, hcell, hwz⟩
    · simp [Value.cells] at hcs
      obtain ⟨rfl, rfl, rfl⟩ := hcs
      exact ⟨[], .inl ⟨rfl, rfl, rfl, rfl⟩⟩
    · simp [Value.cells] at hcs
      obtain ⟨rfl, rfl, rfl⟩ := hcs
      exact ⟨zs, .inr ⟨_, rfl, hl, hm, by simpa using hz, hcell, hwz⟩⟩
  obtain ⟨a2, rfl, rfl, rfl, w2⟩ := open_int Try.underlying3 (hval 2 3 v2 rfl rfl) h2
  clear hA0 hval0
  refine (walk a0 len0 cap0 z0 a1 len1 cap1 z1 a2 W w0 w1 w2).mono fun e W' ⟨he, bel⟩ => ?_
  subst he
  exact ⟨_, rfl, _, _, _, [], _, [], hW', trodAll_mk1 (shut_bool Try.underlying4 _), (trodAll_cons_mk (Below.trod laidOut (by kernel_rfl) (of_decide_eq_true (by kernel_rfl)) k0 bel lt0) (trodAll_cons_mk (Below.trod laidOut (by kernel_rfl) (of_decide_eq_true (by kernel_rfl)) k1 bel lt1) (trodAll_cons_mk (shut_int Try.underlying3 w2) trodAll_mk0))), rfl, bel.frame _, fun h => by cases h⟩

theorem over : Rows.roundGroupsRow.holds Try.pinned (OpenSpec.ofChange Rows.roundGroupsSpec) :=
  OpenClaim.holds_of_wide 9 Try.f9 rfl rfl rfl rfl rfl rfl rfl ⟨rfl, rfl, rfl, rfl, rfl⟩ rfl rfl rfl rfl rfl (by kernel_rfl) Try.func9 (by kernel_rfl)
    (of_decide_eq_true (by kernel_rfl)) (by unfold Func.isWrapper; first | (rw [if_pos (by decide +kernel)]; kernel_rfl) | (rw [if_neg (by decide +kernel)]; exact ⟨rfl, rfl⟩))
    (fun os started H enc _ => lifted os started H enc)

/-- ████ THE STATEMENT ████ -/
theorem proved : Rows.RoundGroupsSaid := over
#print axioms proved
end Go.Proofs.Ythkehkjoaelmaaa.roundGroups
