/-
  Proved: for every total, every list of weights and every turn CurveParts returns true (a share depends on its own weight and the sum of all alone) and nothing that was in memory turns. Conditions: the table reads as the program's initialisers lay it (tied by the card).
-/
import Derived.Test.YthoknlpfnmjipaaDoorRows
import Derived.WalkKit
import Derived.ProofKit
import Derived.OpenShut
import Derived.ShutString
import Derived.ChangeOld
import Derived.Below
import Derived.Test.YthoknlpfnmjipaaDoorLaid
import Derived.Test.YthoknlpfnmjipaaDoorTie
import Derived.Test.YthoknlpfnmjipaaDoorCards
import Derived.SevenTiedAt
import Derived.Test.YthoknlpfnmjipaaDoorAwake2
import Derived.Test.YthoknlpfnmjipaaDoorTurned
import Derived.Deep.QuietTactic
import Derived.BigQuiet
import Derived.Deep.RegionHeld3
import Derived.Deep.AppendLies
import Derived.Deep.CutBlock
namespace Go.Proofs.YthoknlpfnmjipaaDoor.curveParts
open Go.ChangeShapes Go.WideShapes Go.ChangeAt Go.RowKit
open Go.ChangeMaps (open_string shut_string)
set_option linter.unusedVariables false

theorem own : ownKnob Tryd.prog.godebug = none := by kernel_rfl
theorem laidOut : laidOutB Tryd.prog = true := by kernel_rfl

/-- WHAT THE WALK IS TOLD OF A SLICE OF INTEGERS THAT CAME IN: it is nil; or it leads to a row of 'cap' cells, the numbers 'zs' (the first 'len' are its elements, the rest its spare room), each fitting its kind. -/
def IsRow (k : IntKind) (w : World) (a : Option Addr) (len cap : Nat) (zs : List Int) : Prop :=
  (a = none ∧ len = 0 ∧ cap = 0 ∧ zs = []) ∨
  ∃ x, a = some x ∧ len ≤ cap ∧ cap ≤ maxLen ∧ zs.length = cap ∧ (∀ i, i < zs.length → w.cell? (x.add i) = some (.int k (zs.getD i 0))) ∧ ∀ n ∈ zs, (Lit.int k n).wf = true

/-! ### STEP 1: THE WALK: the Go text returns true, AND WRITES NOTHING THAT WAS THERE: 'Below w.heap.size w w'' (Derived/Below.lean: '.refl', '.alloc', '.drew', '.setCell' at a new block, '.trans'). Open each 'IsRow' by 'rcases' AHEAD of 'go_enter'; part every test ahead of the walk. -/
set_option maxHeartbeats 3200000 in
set_option maxRecDepth 100000 in
theorem walk (a0 : Int) (a1 : Option Addr) (len1 cap1 : Nat) (z1 : List Int) (a2 : Int) (w : World) (w0 : (Lit.int .i32 a0).wf = true) (w1 : IsRow .i32 w a1 len1 cap1 z1) (w2 : (Lit.int .i64 a2).wf = true) (hT : Tab w) :
    Calls Tryd.prog 9 #[.int .i32 a0, .slice a1 len1 cap1, .int .i64 a2] w fun e w' => e = .returned (.bool true) ∧ Below w.heap.size w w' := by
  obtain ⟨⟨xs, hX⟩, hcap1, hmax1⟩ := elems_of_row w1
  obtain ⟨t1, t2⟩ := wf32 w0
  obtain ⟨i0, hi, hz0, hz1, hz2⟩ := info_parts info_int32
  clear w0 w1
  by_cases c0 : 100 < len1
  · have c0' : (100 : Int) < (len1 : Int) := by omega
    go_enter Tryd.func9, Tryd.ntmps9
    go_wp2_with fail
    refine (awake _ hT).mono ?_
    rintro e wa ⟨rfl, hb1⟩
    have hT1 := hT.below hb1
    clear hT
    go_wp2_with fail
    refine (awake _ hT1).mono ?_
    rintro e wb ⟨rfl, hb2⟩
    clear hT1
    go_wp2
    go_ret
    exact ⟨rfl, below_two hb1 hb2⟩
  · have c0' : ¬ (100 : Int) < (len1 : Int) := by omega
    by_cases cz : len1 = 0
    · subst cz
      go_enter Tryd.func9, Tryd.ntmps9
      go_wp2_with fail
      refine (awake _ hT).mono ?_
      rintro e wa ⟨rfl, hb1⟩
      have hT1 := hT.below hb1
      clear hT hX
      go_wp2_with fail
      refine (awake _ hT1).mono ?_
      rintro e wb ⟨rfl, hb2⟩
      clear hT1
      go_wp2
      go_ret
      exact ⟨rfl, below_two hb1 hb2⟩
    · have cz1 : (1 : Int) ≤ (len1 : Int) := by omega
      have cz' : ((len1 : Int) == 0) = false := by simp; omega
      go_enter Tryd.func9, Tryd.ntmps9
      go_wp2_with fail
      refine (awake _ hT).mono ?_
      rintro e wa ⟨rfl, hb1⟩
      have hX1 := hX.below hb1
      clear hX hT
      have ht := rest_by a2 (len1 : Int) (by omega)
      obtain ⟨r, hr⟩ : ∃ r, a2.tmod (len1 : Int) = r := ⟨_, rfl⟩
      rw [hr] at ht
      obtain ⟨k, hk⟩ : ∃ k : Nat, (r + (len1 : Int)) % (len1 : Int) = (k : Int) := ⟨((r + (len1 : Int)) % (len1 : Int)).toNat, by have := Int.emod_nonneg (r + (len1 : Int)) (b := (len1 : Int)) (by omega); omega⟩
      have kn : k < len1 := by have := Int.emod_lt_of_pos (r + (len1 : Int)) (b := (len1 : Int)) (by omega); omega
      go_upto_region 3 with fail
      go_cut [7] from 12 (fun v wx => v = .int .i64 k ∧ wa = wx)
      case first =>
        go_wp2_with fail
        go_meet
        case rel => exact ⟨val_int hk, rfl⟩
      case rest =>
        obtain ⟨rfl, rfl⟩ := hcut
        clear hk hr ht
        obtain ⟨b, off, rfl, _⟩ := hX1.2.2.2 (by omega)
        have kc : ¬ cap1 = k := by omega
        have kc' : (cap1 == k) = false := by simpa using kc
        have b0 : (0 : Int) ≤ (k : Int) := by omega
        have b1 : (k : Int) ≤ (cap1 : Int) := by omega
        have b2 : (k : Int) ≤ (len1 : Int) := by omega
        have hS0 : Below wa.heap.size wa wa.drew := (Below.refl _ _).drew
        have hl := hX1.1
        have hx : ∀ x ∈ xs, x ≤ 2147483647 := fun x hm => (wf32 (hX1.2.2.1 x hm)).2
        have HX := Lib.hid hx
        have HL := Lib.hid hl
        have hown0 : (wa.alloc (.cells #[] 21)).ownsRow wa.heap.size 21 1 (.slice (some ⟨wa.heap.size, 0, none⟩) 0 0) 0 (([] : List Int).map (.int .i32)) := World.ownsRow_lit (e := 21) (size := 1) wa #[] 0 (Nat.le_refl _) (by unfold maxLen; omega) rfl
        have hn1 : ∀ W, Below wa.heap.size wa W → ∀ j u, ((xs.drop k).map (Value.int .i32))[j]? = some u → W.cell? ((⟨b, off + k, none⟩ : Addr).add j) = some u := fun W hW => ((hX1.below hW).drop k (by omega)).news
        have hn2 : ∀ W, Below wa.heap.size wa W → ∀ j u, ((xs.take k).map (Value.int .i32))[j]? = some u → W.cell? ((⟨b, off, none⟩ : Addr).add j) = some u := fun W hW => ((hX1.below hW).take k (by omega)).news
        have hb0 : Below wa.heap.size wa (wa.alloc (.cells #[] 21)).drew := ((Below.refl _ _).alloc (Nat.le_refl _) _).drew
        have hl1 : ((xs.drop k).map (Value.int .i32)).length = (len1 - k) * 1 := by rw [List.length_map, List.length_drop, hl, Nat.mul_one]
        have hl2 : ((xs.take k).map (Value.int .i32)).length = k * 1 := by rw [List.length_map, List.length_take, hl, Nat.mul_one]; omega
        have k1 : 0 < len1 - k := by omega
        have k2 : len1 - k ≤ 100 := by omega
        have k3 : k ≤ 100 := by omega
        clear hl hx
        go_upto_region 4 with fail
        go_region_held3 (fun W => Below wa.heap.size wa W)
            (first | assumption | exact below_drewN (Below.refl _ _) _ | exact below_drewN ((below_drewN (Below.refl _ _) _).alloc (by simp) _) _ | exact (below_drewN (Below.refl _ _) _).alloc (by simp) _ | exact below_drewN ((Below.refl _ _).alloc (Nat.le_refl _) _) _ | exact (Below.refl _ _).alloc (Nat.le_refl _) _)
            (first
              | (refine step_append_lies _ (by rfl) _ _ _ (by rfl) wa.heap.size 21 i0 (.int .i32 0) 1 4 Tryd.underlying24 hi hz0 hz1 hz2 rfl (by omega) (.slice (some ⟨wa.heap.size, 0, none⟩) 0 0) 0 _ (by rfl) hown0.drew
                  ⟨b, off + k, none⟩ (len1 - k) (cap1 - k) ((xs.drop k).map (.int .i32)) (by rfl) hl1 (hn1 _ hb0) (ints_one _) k1 (by unfold maxLen; omega) (by omega) (by simp) (wa.heap.size + 1) (by simp) ?_
                 intro g1 cp1 w1 hown1 hgrow1 _ _
                 have hb1' : Below wa.heap.size wa w1 := hb0.grown hgrow1 (by simp) (own_lt hown0)
                 rw [Nat.zero_add] at hown1 ⊢)
              | (refine step_append_any _ (by rfl) _ _ _ (by rfl) wa.heap.size 21 i0 (.int .i32 0) 1 4 Tryd.underlying24 hi hz0 hz1 hz2 rfl (by omega) (.slice (some ⟨g1, 0, none⟩) (len1 - k) cp1) (len1 - k) _ (by rfl) hown1
                  ⟨b, off, none⟩ k cap1 ((xs.take k).map (.int .i32)) (by rfl) hl2 (hn2 _ hb1') (ints_one _) (by unfold maxLen; omega) (by omega) hb1'.size ?_
                 intro v2 w2 hown2 hgrow2
                 have hb2' : Below wa.heap.size wa w2 := hb1'.grown hgrow2 hb1'.size (own_lt hown1)))
        obtain ⟨ys, hys⟩ : ∃ ys, xs.drop k ++ xs.take k = ys := ⟨_, rfl⟩
        have hoth : w2.ownsRow wa.heap.size 21 1 v2 len1 (ys.map (.int .i32)) := by
          have h := hown2
          rw [List.map_nil, List.nil_append, ← List.map_append, hys, show len1 - k + k = len1 by omega] at h
          exact h
        have hyl : ys.length = len1 := by have h := hoth.1; simpa using h
        have hytot : tot (ys ++ [0, -5]) = tot xs := by rw [← hys]; exact tot_more xs k
        have hyat : ∀ i, i < len1 → ys.getD i 0 = xs.getD ((i + k) % len1) 0 := fun i hi => by rw [← hys]; exact turned_at HL.out kn hi
        have hywf : ∀ c ∈ ys ++ [0, -5], (Lit.int .i32 c).wf = true := by
          intro c hc
          rcases List.mem_append.1 hc with h | h
          · rw [← hys] at h
            rcases List.mem_append.1 h with h | h
            · exact hX1.2.2.1 c (List.mem_of_mem_drop h)
            · exact hX1.2.2.1 c (List.mem_of_mem_take h)
          · simp only [List.mem_cons, List.not_mem_nil, or_false] at h
            rcases h with rfl | rfl <;> rfl
        obtain ⟨g2, cap2, rfl, hg2, hg3⟩ := hoth.form (by omega)
        have hX2 := hX1.below hb2'
        obtain ⟨n2, hn2e⟩ : ∃ n2, len1 + 2 = n2 := ⟨_, rfl⟩
        have hn2i : (len1 : Int) + 2 = (n2 : Int) := by omega
        obtain ⟨m, hme⟩ : ∃ m, len1 + 1 = m := ⟨_, rfl⟩
        have hmi : (len1 : Int) + 1 = (m : Int) := by omega
        have HYL := Lib.hid hyl
        have HYT := Lib.hid hytot
        have HYA := Lib.hid hyat
        have HYW := Lib.hid hywf
        have HN2 := Lib.hid hn2e
        have HM := Lib.hid hme
        have mn : m < n2 := by omega
        have ln : len1 < n2 := by omega
        have nb : n2 ≤ 102 := by omega
        clear hys hyl hytot hyat hywf hown0 hown1 hown2 hgrow1 hgrow2 hn1 hn2 hl1 hl2 hb0 hX1 hn2e hme
        have hs2 := hb2'.size
        go_wp2_with fail
        refine (shares_at a0 _ len1 cap1 xs _ hX2 (by omega) t1 t2).mono ?_
        rintro e wc ⟨rfl, hA, hbc⟩
        have hown3 := own_below hoth hbc
        have hbwc : Below wa.heap.size wa wc := hb2'.trans (hbc.mono hb2'.size)
        have hsc := hbwc.size
        have hsc2 := hbc.size
        have hA1 : ∀ o, Elems .i32 (wc.alloc o) (some ⟨w2.heap.size, 0, none⟩) len1 (xs.map (share a0 (tot xs))) := fun o => hA.below ((Below.refl _ _).alloc (Nat.le_refl _) o)
        clear hoth hX2 hA
        go_wp2_with (at_builtin; refine wpList_append_own _ rfl _ _ 24 rfl wa.heap.size 21 i0 (.int .i32 0) 1 4 Tryd.underlying24 hi hz0 hz1 hz2 rfl (by decide) _ _ _ rfl (hown3.alloc _) ⟨wc.heap.size, 0, none⟩ 2 2 [.int .i32 0, .int .i32 (-5)] rfl rfl (World.news_of_block (cs := #[.int .i32 0, .int .i32 (-5)]) (t := 21) (fr := (0, 0)) (heap_alloc_new wc _)) (ints_one [0, -5]) (by unfold maxLen; omega) (by omega) (by simp; omega) ?_)
        intro v' w' hown' hgrow _
        have hown4 : w'.ownsRow wa.heap.size 21 1 v' n2 ((ys ++ [0, -5]).map (.int .i32)) := by
          rw [List.map_append, ← HN2.out]; exact hown'
        have hbw' : Below wa.heap.size wa w' := (hbwc.alloc hsc (.cells #[.int .i32 0, .int .i32 (-5)] 21)).grown hgrow (by simp; omega) (own_lt hown3)
        have hA2 : Elems .i32 w' (some ⟨w2.heap.size, 0, none⟩) len1 (xs.map (share a0 (tot xs))) := (hA1 _).grown hgrow (by simp [Value.ownBlock]; omega)
        obtain ⟨aB, capB, hvB, hBE⟩ := own_form hown4 (by omega) HYW.out
        subst hvB
        clear hown' hgrow hown4 hown3 hA1
        go_wp2_with fail
        refine (shares_at a0 _ n2 capB (ys ++ [0, -5]) _ hBE (by omega) t1 t2).mono ?_
        rintro e wd ⟨rfl, hB, hbd⟩
        rw [HYT.out] at hB
        have hA3 := hA2.below hbd
        have hbwd := below_two hb1 (hbw'.trans (hbd.mono hbw'.size))
        clear hBE hA2
        have hcB : ∀ i, i < n2 → wd.cell? ⟨w'.heap.size, i, none⟩ = some (.int .i32 (share a0 (tot xs) ((ys ++ [0, -5]).getD i 0))) := fun j hj => by
          obtain ⟨b', off', u, he, hc', hu, wu⟩ := hB.at_ hj
          simp only [Option.some.injEq, Addr.mk.injEq] at he
          obtain ⟨rfl, rfl, _⟩ := he
          rw [Nat.zero_add] at hc'
          rw [hc', ← hu.out]
          have hl : (ys ++ [0, -5]).length = n2 := by rw [List.length_append, HYL.out]; exact HN2.out
          simp only [List.getD_eq_getElem?_getD, List.getElem?_map, List.getElem?_eq_getElem (show j < (ys ++ [0, -5]).length by omega), Option.map_some, Option.getD_some]
        have hcA : ∀ i, i < len1 → wd.cell? ⟨w2.heap.size, i, none⟩ = some (.int .i32 (share a0 (tot xs) (xs.getD i 0))) := fun j hj => by
          obtain ⟨b', off', u, he, hc', hu, wu⟩ := hA3.at_ hj
          simp only [Option.some.injEq, Addr.mk.injEq] at he
          obtain ⟨rfl, rfl, _⟩ := he
          rw [Nat.zero_add] at hc'
          rw [hc', ← hu.out]
          have hl := HL.out
          simp only [List.getD_eq_getElem?_getD, List.getElem?_map, List.getElem?_eq_getElem (show j < xs.length by omega), Option.map_some, Option.getD_some]
        have z0 : wd.cell? ⟨w'.heap.size, len1, none⟩ = some (.int .i32 0) := by
          rw [hcB len1 ln]
          have e : (ys ++ [0, -5]).getD len1 0 = 0 := by
            rw [List.getD_eq_getElem?_getD, List.getElem?_append_right (by rw [HYL.out]; omega), HYL.out, Nat.sub_self]; rfl
          rw [e, share_none (by decide)]
        have z1 : wd.cell? ⟨w'.heap.size, m, none⟩ = some (.int .i32 0) := by
          rw [hcB m mn]
          have e : (ys ++ [0, -5]).getD m 0 = -5 := by
            rw [List.getD_eq_getElem?_getD, List.getElem?_append_right (by rw [HYL.out, ← HM.out]; omega), HYL.out, ← HM.out, Nat.add_sub_cancel_left]; rfl
          rw [e, share_none (by decide)]
        have HCA := Lib.hid hcA
        have HCB := Lib.hid hcB
        clear hcA hcB hA3 hB
        go_wp2
        go_loopw [11] (fun i wr => ∃ (j d : Nat), j ≤ len1 ∧ i = .int .i64 j ∧ wr = wd.drewN d) (fun i _ => len1 - (intOf i).toNat)
        case atStart => exact ⟨0, 0, by omega, rfl, rfl⟩
        case round =>
          obtain ⟨j, d, hj, rfl, rfl⟩ := hrel
          by_cases hlt : j < len1
          · obtain ⟨p, hpe⟩ : ∃ p, (j + k) % len1 = p := ⟨_, rfl⟩
            have hp : ((j : Int) + (k : Int)) % (len1 : Int) = (p : Int) := by rw [← hpe, Int.natCast_emod, Int.natCast_add]
            have hp1 : p < len1 := by have := Nat.mod_lt (j + k) (show 0 < len1 by omega); omega
            have ca := HCA.out p hp1
            have cb := HCB.out j (by omega)
            have e : (ys ++ [0, -5]).getD j 0 = xs.getD p 0 := by
              rw [← hpe, ← HYA.out j hlt, List.getD_eq_getElem?_getD, List.getD_eq_getElem?_getD, List.getElem?_append_left (by rw [HYL.out]; exact hlt)]
            rw [e] at cb
            obtain ⟨s, hs⟩ : ∃ s, share a0 (tot xs) (xs.getD p 0) = s := ⟨_, rfl⟩
            rw [hs] at ca cb
            clear e hs hpe z0 z1
            have ss : (s != s) = false := by simp
            go_wp2
            go_quiet (fail)
            go_wp2
            go_roundw
            case rel => exact ⟨j + 1, _, by omega, by go_num, rfl⟩
            case measure => simp [intOf]; omega
          · obtain rfl : j = len1 := by omega
            clear z0 z1
            go_wp2
            go_ret
            exact ⟨rfl, below_drewN hbwd _⟩

/-! ### THE ROW's STEP: WRITTEN OUT: LEAVE IT -/
set_option maxRecDepth 100000 in
theorem lifted (os : Os) (started : os.Started) (H : Type) (enc : TypeId × Value → H) :
    ReturnsInHanded {} Tryd.checked os 9 .any (fun w args => (Rows.curvePartsSpec.pre enc Tryd.prog Tryd.f9 [] false w args ∧ laidMetH Tryd.prog laidList w) ∧ sizedMet enc Tryd.prog Tryd.f9 (OpenSpec.ofChange Rows.curvePartsSpec) false w args) (Rows.curvePartsSpec.post enc Tryd.prog Tryd.f9 false true false false) := by
  refine returnsInHanded_of_change_and (C := Tryd.checked) (X := fun w _ => laidMetH Tryd.prog laidList w) (fun _ _ _ hh h => h.of_heap hh) own started (by kernel_rfl) Tryd.func9
    (ChangeSpec.witness_shaped (enc := enc) (C := Tryd.checked) (os := os) (X := fun w _ => laidMetH Tryd.prog laidList w) false (World.doorLaid Tryd.prog 400 os) #[.int .i32 0, .slice none 0 0, .int .i64 0] 8 rfl (World.shaped_of_RefB (by kernel_rfl) (by kernel_rfl)) (by kernel_rfl) (by kernel_rfl) (by kernel_rfl) (door_met os _)) ?_
  intro W base args ds gs before hval0 hW _ _ hL _
  have hval : ∀ (j : Nat) t v, Tryd.f9.params[j]? = some t → args[j]? = some v → Value.okWide Tryd.prog W .any base t v := hval0
  have hW' := hW
  obtain ⟨p, q, hA0, hV, rfl, hfz, hnd⟩ := hW
  have hA : DataW.TrodAll enc Tryd.prog W 0 (fun _ => true) true Tryd.f9.params.toList args.toList ds p := hA0
  rw [Tryd.params9] at hA hval
  obtain ⟨v0, vs0, d0, ds0, p0, q0, hargs, rfl, rfl, h0, r0⟩ := trodAll_cons hA
  obtain ⟨v1, vs1, d1, ds1, p1, q1, rfl, rfl, rfl, h1, r1⟩ := trodAll_cons r0
  obtain ⟨v2, vs2, d2, ds2, p2, q2, rfl, rfl, rfl, h2, r2⟩ := trodAll_cons r1
  obtain ⟨rfl, rfl, rfl⟩ := trodAll_nil r2
  obtain rfl : args = #[v0, v1, v2] := by cases args; simp_all
  obtain ⟨rfl, rfl⟩ := trodVars_none hV
  obtain ⟨a0, rfl, rfl, rfl, w0⟩ := open_int Tryd.underlying21 (hval 0 21 v0 rfl rfl) h0
  obtain ⟨a1, len1, cap1, rfl⟩ := okWide_slice Tryd.underlying24 (hval 1 24 v1 rfl rfl)
  have k1 := h1
  have lt1 : ∀ x ∈ p1, x.block < W.heap.size := by obtain ⟨m, hm⟩ := k1; exact DataW.trod_lt m _ _ _ hm
  obtain ⟨z1, w1⟩ : ∃ zs, IsRow .i32 W a1 len1 cap1 zs := by
    obtain ⟨fuel, hf⟩ := h1
    rcases open_ints Tryd.underlying24 Tryd.underlying21 (by kernel_rfl) hf with ⟨hcs, _⟩ | ⟨x, l, c, zs, hcs, _, hl, hm, hz, _, hcell, hwz⟩
    · simp [Value.cells] at hcs
      obtain ⟨rfl, rfl, rfl⟩ := hcs
      exact ⟨[], .inl ⟨rfl, rfl, rfl, rfl⟩⟩
    · simp [Value.cells] at hcs
      obtain ⟨rfl, rfl, rfl⟩ := hcs
      exact ⟨zs, .inr ⟨_, rfl, hl, hm, by simpa using hz, hcell, hwz⟩⟩
  obtain ⟨a2, rfl, rfl, rfl, w2⟩ := open_int Tryd.underlying3 (hval 2 3 v2 rfl rfl) h2
  clear hA0 hval0
  have hT := tab_of_laid hL
  refine (walk a0 a1 len1 cap1 z1 a2 W w0 w1 w2 hT).mono fun e W' ⟨he, bel⟩ => ?_
  subst he
  exact ⟨_, rfl, _, _, _, [], _, [], hW', trodAll_mk1 (shut_bool Tryd.underlying4 _), (trodAll_cons_mk (shut_int Tryd.underlying21 w0) (trodAll_cons_mk (Below.trod laidOut (by kernel_rfl) (of_decide_eq_true (by kernel_rfl)) k1 bel lt1) (trodAll_cons_mk (shut_int Tryd.underlying3 w2) trodAll_mk0))), rfl, bel.frame _, fun h => by cases h⟩

theorem over : Rows.curvePartsRow.holds Tryd.pinned (OpenSpec.ofChange Rows.curvePartsSpec) :=
  OpenClaim.holds_of_wide 9 Tryd.f9 rfl rfl rfl rfl rfl rfl rfl ⟨rfl, rfl, rfl, rfl, rfl⟩ rfl rfl rfl rfl rfl (by kernel_rfl) Tryd.func9 (by kernel_rfl)
    (of_decide_eq_true (by kernel_rfl)) (by unfold Func.isWrapper; first | (rw [if_pos (by decide +kernel)]; kernel_rfl) | (rw [if_neg (by decide +kernel)]; exact ⟨rfl, rfl⟩))
    (fun os started H enc _ => lifted os started H enc)

/-- the row's statement -/
theorem said : Rows.CurvePartsSaid := over

/-- THE STATEMENT: the tied card -/
theorem proved : Rows.CurvePartsCardSaid :=
  Claim7.holds_tied_plain_at .later [] [.data] true (true, "4bf39e601c0bef885d605a565528bdf0db9fce48cf7e75ebb9db6c5d31bef3df") false
    said (fun _ h => by cases h) (by kernel_rfl) (fun _ h => by cases h) curveParts_row_tie rfl ⟨rfl, rfl⟩ (by kernel_rfl) rfl
    (fun f fn hf hfn => by
      obtain rfl : f = 9 := Option.some.inj ((show Tryd.prog.funcNamed "peloton/pelotonlaw02.CurveParts" = some 9 by kernel_rfl).symm.trans hf) |>.symm
      obtain rfl : fn = Tryd.f9 := (Option.some.inj (Tryd.func9.symm.trans hfn)).symm
      exact ⟨by kernel_rfl, fun j t ht => by
        rw [Tryd.params9] at ht
        have hm : t ∈ [21, 24, 3] := by simpa using Array.mem_of_getElem? ht
        have hall : ([21, 24, 3].all fun u => !Tryd.prog.wantsStandIn u) = true := by kernel_rfl
        exact (show Tryd.prog.wantsStandIn t = false by simpa using List.all_eq_true.1 hall t hm)⟩)
    (by kernel_rfl)
#print axioms proved
end Go.Proofs.YthoknlpfnmjipaaDoor.curveParts
