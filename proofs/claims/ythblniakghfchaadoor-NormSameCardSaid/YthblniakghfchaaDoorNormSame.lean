/-
  Proved: for every row, other rows and numbers NormSame returns true (a row with the whole weight comes out as it is, a gated row stays as it is, joined with noughts a row stays) and nothing that was in memory turns. Conditions: the table reads as the program's initialisers lay it (tied by the card).
-/
import Derived.Test.YthblniakghfchaaDoorRows
import Derived.WalkKit
import Derived.ProofKit
import Derived.OpenShut
import Derived.ShutString
import Derived.ChangeOld
import Derived.Below
import Derived.Test.YthblniakghfchaaDoorRwRow
import Derived.Test.YthblniakghfchaaDoorLaid
import Derived.Test.YthblniakghfchaaDoorTie
import Derived.Test.YthblniakghfchaaDoorCards
import Derived.SevenTiedAt
import Derived.Test.YthblniakghfchaaDoorAwake5
import Derived.Test.YthblniakghfchaaDoorTwoVals
import Derived.Deep.CutRange
namespace Go.Proofs.YthblniakghfchaaDoor.normSame
open Go.ChangeShapes Go.WideShapes Go.ChangeAt Go.RowKit
open Go.ChangeMaps (open_string shut_string)
set_option linter.unusedVariables false

theorem own : ownKnob Tryd.prog.godebug = none := by kernel_rfl
theorem laidOut : laidOutB Tryd.prog = true := by kernel_rfl

set_option maxHeartbeats 12800000 in
set_option maxRecDepth 100000 in
theorem walk (q0 : Rw) (a1 : Option Addr) (n1 cap1 : Nat) (qs1 : List Rw) (q2 : Rw) (w : World) (h0 : q0.In .i8 w) (h1 : Rws .i8 w a1 n1 qs1 ∧ n1 ≤ cap1 ∧ cap1 ≤ 9223372036854775807 ∧ Sl a1 cap1) (h2 : q2.In .i32 w) (hT : Tab w) :
    Calls Tryd.prog 7 #[.slice q0.a q0.n q0.cap, .slice a1 n1 cap1, .slice q2.a q2.n q2.cap] w fun e w' => e = .returned (.bool true) ∧ Below w.heap.size w w' := by
  have n0 := h0.2.1
  have n0' := h0.2.2.1
  have n1' := h1.1.2.1
  have n2 := h2.2.1
  have n2' := h2.2.2.1
  by_cases c0 : 200 < q0.n
  · have c0' : (200 : Int) < (q0.n : Int) := by omega
    go_enter Tryd.func7, Tryd.ntmps7
    go_wp2_with fail
    refine (awake5 _ hT).mono ?_
    rintro e wa ⟨rfl, hb1⟩
    have hT1 := hT.below hb1
    clear hT h0 h1 h2
    go_wp2_with fail
    refine (awake5 _ hT1).mono ?_
    rintro e wb ⟨rfl, hb2⟩
    clear hT1
    go_wp2
    go_ret
    exact ⟨rfl, below_two hb1 hb2⟩
  · have c0' : ¬ (200 : Int) < (q0.n : Int) := by omega
    by_cases c1 : 30 < n1
    · have c1' : (30 : Int) < (n1 : Int) := by omega
      go_enter Tryd.func7, Tryd.ntmps7
      go_wp2_with fail
      refine (awake5 _ hT).mono ?_
      rintro e wa ⟨rfl, hb1⟩
      have hT1 := hT.below hb1
      clear hT h0 h1 h2
      go_wp2_with fail
      refine (awake5 _ hT1).mono ?_
      rintro e wb ⟨rfl, hb2⟩
      clear hT1
      go_wp2
      go_ret
      exact ⟨rfl, below_two hb1 hb2⟩
    · have c1' : ¬ (30 : Int) < (n1 : Int) := by omega
      by_cases c2 : 200 < q2.n
      · have c2' : (200 : Int) < (q2.n : Int) := by omega
        go_enter Tryd.func7, Tryd.ntmps7
        go_wp2_with fail
        refine (awake5 _ hT).mono ?_
        rintro e wa ⟨rfl, hb1⟩
        have hT1 := hT.below hb1
        clear hT h0 h1 h2
        go_wp2_with fail
        refine (awake5 _ hT1).mono ?_
        rintro e wb ⟨rfl, hb2⟩
        clear hT1
        go_wp2
        go_ret
        exact ⟨rfl, below_two hb1 hb2⟩
      · have c2' : ¬ (200 : Int) < (q2.n : Int) := by omega
        have HQ := Lib.hid h0
        have HR := Lib.hid h1.1
        have HX := Lib.hid h2
        clear h0 h1 h2
        have hmk := run_make_row' (P := Tryd.prog) 23 21 (.int .i32 0) 4 Tryd.underlying23 info_int32 rfl .i64 .i64 q2.n (by omega) (by omega)
        go_enter Tryd.func7, Tryd.ntmps7
        go_wp2_with fail
        refine (awake5 _ hT).mono ?_
        rintro e wa ⟨rfl, hb1⟩
        clear hT
        go_wp2
        go_loopw [7, 8, 9] (fun va vb i wr => ∃ (k c : Nat) (fs : List Rw), k ≤ n1 ∧ i = .int .i64 k ∧ c ≤ k ∧ Below wa.heap.size wa wr ∧ Hid (fs.length = c ∧ (∀ f ∈ fs, f.n = q0.n ∧ f ∈ qs1) ∧ TwoV wa.heap.size 21 22 va vb (c + 1) (c + 1) ((65536 :: List.replicate c 0).map (Value.int .i32)) (rvals (q0 :: fs)) wr)) (fun _ _ i _ => n1 - (intOf i).toNat)
        case atStart => exact ⟨0, 0, [], by omega, rfl, by omega, ((Below.refl wa.heap.size wa).alloc (Nat.le_refl _) _).alloc (by simp) _, Lib.hid ⟨rfl, by simp, twoV_start wa _ _ _ _⟩⟩
        case round =>
          obtain ⟨k, c, fs, hk, rfl, hck, hbel, hinv⟩ := hrel
          by_cases hlt : k < n1
          · have hRk := HR.out.below (below_two hb1 hbel)
            obtain ⟨b, off, q, rfl, _, cq, hq, hin⟩ := hRk.at_ hlt
            have hqm : q ∈ qs1 := by
              rw [← hq.out]
              exact row_mem HR.out hlt
            have hqw := hin.2.2.1
            have hqw2 := hin.2.1
            by_cases ce : q.n = q0.n
            · obtain ⟨hl, hall, htwo⟩ := hinv.out
              obtain ⟨va, w2, hrun, htw, hbw⟩ := htwo.next 23 (.int .i32 0) 4 Tryd.underlying23 info_int32 rfl (by decide) (by omega) (.int .i32 0) rfl
              have hbel2 := hbw wa rfl hbel
              obtain ⟨vb, w3, hrun2, htw2, hbw2⟩ := htw.symm.next 35 (.slice none 0 0) 24 Tryd.underlying35 info_slice8 rfl (by decide) (by omega) (.slice q.a q.n q.cap) rfl
              have hbel3 := hbw2 wa rfl hbel2
              have hR2 := HR.out.below (below_two hb1 hbel2)
              obtain ⟨b', off', q', he, _, cq2, hq', _⟩ := hR2.at_ hlt
              cases he
              obtain rfl : q' = q := by rw [← hq'.out, hq.out]
              have hst : Hid ((fs ++ [q']).length = c + 1 ∧ (∀ f ∈ fs ++ [q'], f.n = q0.n ∧ f ∈ qs1) ∧ TwoV wa.heap.size 21 22 va vb (c + 1 + 1) (c + 1 + 1) ((65536 :: List.replicate (c + 1) 0).map (Value.int .i32)) (rvals (q0 :: (fs ++ [q']))) w3) := Lib.hid (by
                refine ⟨by simp [hl], fun f hf => ?_, ?_⟩
                · rcases List.mem_append.1 hf with h1 | h1
                  · exact hall f h1
                  · simp only [List.mem_singleton] at h1
                    subst h1
                    exact ⟨ce, hqm⟩
                · have := htw2.symm
                  simp only [rvals, List.map_cons, List.map_append, List.map_nil, List.replicate_succ', List.cons_append] at this ⊢
                  exact this)
              have ceq : ((q'.n : Int) == (q0.n : Int)) = true := by simp; omega
              clear hinv hl hall htwo htw htw2 hbw hbw2 hbel hbel2 hRk hR2 hq hq' hin hqm ce
              go_upto_region 10 with (at_builtin; refine wpList_append_at (by rfl) _ _ _ (by rfl) _ _ (by rfl) (by rfl) hrun ?_)
              clear hrun ceq
              go_wp2_with (at_builtin; refine wpList_append_at (by rfl) _ _ _ (by rfl) _ _ (by rfl) (by rfl) hrun2 ?_)
              clear hrun2
              go_roundw
              case rel => exact ⟨k + 1, c + 1, _, by omega, by go_num, by omega, hbel3, hst⟩
              case measure => simp [intOf]; omega
            · have ceq : ((q.n : Int) == (q0.n : Int)) = false := by simp; omega
              clear hRk hq hin hqm ce
              go_wp2
              go_roundw
              case rel => exact ⟨k + 1, c, fs, by omega, by go_num, by omega, hbel, hinv⟩
              case measure => simp [intOf]; omega
          · obtain rfl : k = n1 := by omega
            obtain ⟨hl, hall, htwo⟩ := hinv.out
            obtain ⟨ga, ca, hva, hEa⟩ := own_form htwo.a (by omega) (by
              intro y hy
              rcases List.mem_cons.1 hy with rfl | hy
              · rfl
              · rw [List.eq_of_mem_replicate hy]; rfl)
            have hQ := HQ.out.below (below_two hb1 hbel)
            have hR := HR.out.below (below_two hb1 hbel)
            obtain ⟨gb, cb, hvb, hEb⟩ := rws_own htwo.b (by omega) (by
              intro f hf
              rcases List.mem_cons.1 hf with rfl | hf
              · exact hQ
              · exact hR.2.2.1 f (hall f hf).2) (by omega)
            subst hva hvb
            have HS := Lib.hid (sameW_cons (q := q0) (fs := fs) (fun f hf => (hall f hf).1))
            have HW : Hid (mixL (65536 :: List.replicate c 0) (q0 :: fs) (c + 1) q0.n = q0.v) := Lib.hid (by
              rw [← hl]
              exact mix_whole q0 fs q0.n hQ.1.1 (fun x hx => wf8 (hQ.1.2.2.1 x hx)))
            have hX := HX.out.below (below_two hb1 hbel)
            have hbw := below_two hb1 hbel
            clear hinv hl hall htwo hR hb1 hbel
            go_wp2_with fail
            refine (mix_yes ga (some ⟨gb, 0, none⟩) (c + 1) ca cb q0.n _ (q0 :: fs) wr hEa hEb (by omega) HS.out rfl (by omega)).mono ?_
            rintro e w1 ⟨⟨p, pc, rfl, hP⟩, hb1⟩
            rw [HW.out] at hP
            have hQ1 := hQ.below hb1
            have hX1 := hX.below hb1
            have hw1 := below_two hbw hb1
            clear hEa hEb hQ hX hbw hb1 HS HW
            go_wp2_with fail
            refine (gates q0.a q0.n q0.cap q0.v w1 hQ1.1 (by omega)).mono ?_
            rintro e w2 ⟨rfl, hG, hb2⟩
            generalize w1.heap.size = g at hG
            have hP2 := hP.below hb2
            have hQ2 := hQ1.below hb2
            have hX2 := hX1.below hb2
            have hw2 := below_two hw1 hb2
            clear hP hQ1 hX1 hw1 hb2
            have hM : Elems .i32 (w2.alloc (.cells (madeCells #[Value.int .i32 0] q2.n) 21)) (some ⟨w2.heap.size, 0, none⟩) q2.n (List.replicate q2.n 0) := (mine_made .i32 w2 21 q2.n rfl).elems (by simp) (by omega) (zero_wf q2.n)
            have hb3 : Below w2.heap.size w2 (w2.alloc (.cells (madeCells #[Value.int .i32 0] q2.n) 21)) := (Below.refl _ _).alloc (Nat.le_refl _) _
            have hX3 := hX2.below hb3
            go_wp2_with fail
            refine (join_yes q2.a (some ⟨w2.heap.size, 0, none⟩) q2.n q2.cap q2.n 12345 7 q2.v _ _ hX3.1 hM (by omega) (by decide) (by decide)).mono ?_
            rintro e w4 ⟨⟨z, rfl, hZ⟩, hb4⟩
            rw [join_noughts 12345 7 q2.v q2.n hX3.1.1 (fun x hx => wf32 (hX3.1.2.2.1 x hx))] at hZ
            have hb5 := below_two hb3 hb4
            have hP4 := hP2.below hb5
            have hQ4 := hQ2.below hb5
            have hX4 := hX2.below hb5
            have hG4 := hG.below hb5
            have hw4 := below_two hw2 hb5
            clear hP2 hQ2 hX2 hG hw2 hM hb3 hX3 hb4 hb5 hmk
            go_wp2_with fail
            refine (bytes_yes p q0.a q0.n pc q0.cap q0.v w4 hP4 hQ4.1).mono ?_
            rintro e w5 ⟨rfl, d, rfl⟩
            generalize hwx : w4.drewN d = w5
            have hd : Below w4.heap.size w4 w5 := by rw [← hwx]; exact below_drewN (Below.refl _ _) d
            have hX5 := hX4.below hd
            have hG5 := hG4.below hd
            have hZ5 := hZ.below hd
            have hw5 := below_two hw4 hd
            clear hP4 hQ4 hX4 hG4 hZ hw4 hd hwx
            go_wp2_with fail
            refine (gates (some ⟨g, 0, none⟩) q0.n q0.n (q0.v.map gate1) w5 hG5 (by omega)).mono ?_
            rintro e w6 ⟨rfl, hG2, hb6⟩
            rw [gate_twice] at hG2
            have hX6 := hX5.below hb6
            have hG6 := hG5.below hb6
            have hZ6 := hZ5.below hb6
            have hw6 := below_two hw5 hb6
            generalize w5.heap.size = g2 at hG2
            clear hX5 hG5 hZ5 hw5 hb6
            go_wp2_with fail
            refine (bytes_yes _ _ q0.n q0.n q0.n (q0.v.map gate1) w6 hG2 hG6).mono ?_
            rintro e w7 ⟨rfl, d, rfl⟩
            generalize hwx : w6.drewN d = w7
            have hd : Below w6.heap.size w6 w7 := by rw [← hwx]; exact below_drewN (Below.refl _ _) d
            have hX7 := hX6.below hd
            have hZ7 := hZ6.below hd
            have hw7 := below_two hw6 hd
            clear hX6 hG6 hZ6 hG2 hw6 hd hwx
            go_wp2_with fail
            refine (ints_yes _ q2.a q2.n q2.n q2.cap q2.v w7 hZ7 hX7.1).mono ?_
            rintro e w8 ⟨rfl, d, rfl⟩
            have hw8 := below_drewN hw7 d
            clear hX7 hZ7 hw7
            go_wp2
            go_ret
            exact ⟨rfl, hw8⟩

set_option maxRecDepth 100000 in
theorem lifted (os : Os) (started : os.Started) (H : Type) (enc : TypeId × Value → H) :
    ReturnsInHanded {} Tryd.checked os 7 .any (fun w args => (Rows.normSameSpec.pre enc Tryd.prog Tryd.f7 [] false w args ∧ laidMetH Tryd.prog laidList w) ∧ sizedMet enc Tryd.prog Tryd.f7 (OpenSpec.ofChange Rows.normSameSpec) false w args) (Rows.normSameSpec.post enc Tryd.prog Tryd.f7 false true false false) := by
  refine returnsInHanded_of_change_and (C := Tryd.checked) (X := fun w _ => laidMetH Tryd.prog laidList w) (fun _ _ _ hh h => h.of_heap hh) own started (by kernel_rfl) Tryd.func7
    (ChangeSpec.witness_shaped (enc := enc) (C := Tryd.checked) (os := os) (X := fun w _ => laidMetH Tryd.prog laidList w) false (World.doorLaid Tryd.prog 400 os) #[.slice none 0 0, .slice none 0 0, .slice none 0 0] 8 rfl (World.shaped_of_RefB (by kernel_rfl) (by kernel_rfl)) (by kernel_rfl) (by kernel_rfl) (by kernel_rfl) (door_met os _)) ?_
  intro W base args ds gs before hval0 hW _ _ hL _
  have hval : ∀ (j : Nat) t v, Tryd.f7.params[j]? = some t → args[j]? = some v → Value.okWide Tryd.prog W .any base t v := hval0
  have hW' := hW
  obtain ⟨p, q, hA0, hV, rfl, hfz, hnd⟩ := hW
  have hA : DataW.TrodAll enc Tryd.prog W 0 (fun _ => true) true Tryd.f7.params.toList args.toList ds p := hA0
  rw [Tryd.params7] at hA hval
  obtain ⟨v0, vs0, d0, ds0, p0, q0, hargs, rfl, rfl, h0, r0⟩ := trodAll_cons hA
  obtain ⟨v1, vs1, d1, ds1, p1, q1, rfl, rfl, rfl, h1, r1⟩ := trodAll_cons r0
  obtain ⟨v2, vs2, d2, ds2, p2, q2, rfl, rfl, rfl, h2, r2⟩ := trodAll_cons r1
  obtain ⟨rfl, rfl, rfl⟩ := trodAll_nil r2
  obtain rfl : args = #[v0, v1, v2] := by cases args; simp_all
  obtain ⟨rfl, rfl⟩ := trodVars_none hV
  have k0 := h0
  have lt0 : ∀ x ∈ p0, x.block < W.heap.size := by obtain ⟨m, hm⟩ := k0; exact DataW.trod_lt m _ _ _ hm
  obtain ⟨q0, rfl, w0⟩ := open_rw Tryd.underlying22 Tryd.underlying39 (by kernel_rfl) (hval 0 22 v0 rfl rfl) h0
  have k1 := h1
  have lt1 : ∀ x ∈ p1, x.block < W.heap.size := by obtain ⟨m, hm⟩ := k1; exact DataW.trod_lt m _ _ _ hm
  obtain ⟨a1, n1, cap1, qs1, rfl, w1⟩ := open_rws Tryd.underlying35 (by kernel_rfl) Tryd.underlying22 Tryd.underlying39 (by kernel_rfl) (hval 1 35 v1 rfl rfl) h1
  have k2 := h2
  have lt2 : ∀ x ∈ p2, x.block < W.heap.size := by obtain ⟨m, hm⟩ := k2; exact DataW.trod_lt m _ _ _ hm
  obtain ⟨q2, rfl, w2⟩ := open_rw Tryd.underlying23 Tryd.underlying21 (by kernel_rfl) (hval 2 23 v2 rfl rfl) h2
  clear hA0 hval0
  have hT := tab_of_laid hL
  refine (walk q0 a1 n1 cap1 qs1 q2 W w0 w1 w2 hT).mono fun e W' ⟨he, bel⟩ => ?_
  subst he
  exact ⟨_, rfl, _, _, _, [], _, [], hW', trodAll_mk1 (shut_bool Tryd.underlying4 _), (trodAll_cons_mk (Below.trod laidOut (by kernel_rfl) (of_decide_eq_true (by kernel_rfl)) k0 bel lt0) (trodAll_cons_mk (Below.trod laidOut (by kernel_rfl) (of_decide_eq_true (by kernel_rfl)) k1 bel lt1) (trodAll_cons_mk (Below.trod laidOut (by kernel_rfl) (of_decide_eq_true (by kernel_rfl)) k2 bel lt2) trodAll_mk0))), rfl, bel.frame _, fun h => by cases h⟩

theorem over : Rows.normSameRow.holds Tryd.pinned (OpenSpec.ofChange Rows.normSameSpec) :=
  OpenClaim.holds_of_wide 7 Tryd.f7 rfl rfl rfl rfl rfl rfl rfl ⟨rfl, rfl, rfl, rfl, rfl⟩ rfl rfl rfl rfl rfl (by kernel_rfl) Tryd.func7 (by kernel_rfl)
    (of_decide_eq_true (by kernel_rfl)) (by unfold Func.isWrapper; first | (rw [if_pos (by decide +kernel)]; kernel_rfl) | (rw [if_neg (by decide +kernel)]; exact ⟨rfl, rfl⟩))
    (fun os started H enc _ => lifted os started H enc)

/-- the row's statement -/
theorem said : Rows.NormSameSaid := over

/-- THE STATEMENT: the tied card -/
theorem proved : Rows.NormSameCardSaid :=
  Claim7.holds_tied_plain_at .later [] [.data] true (true, "d25234ddf6c27c6edf394e90a076e1636ca57c252689c4c3bbb1e2edf7642b21") false
    said (fun _ h => by cases h) (by kernel_rfl) (fun _ h => by cases h) normSame_row_tie rfl ⟨rfl, rfl⟩ (by kernel_rfl) rfl
    (fun f fn hf hfn => by
      obtain rfl : f = 7 := Option.some.inj ((show Tryd.prog.funcNamed "peloton/pelotonlaw05.NormSame" = some 7 by kernel_rfl).symm.trans hf) |>.symm
      obtain rfl : fn = Tryd.f7 := (Option.some.inj (Tryd.func7.symm.trans hfn)).symm
      exact ⟨by kernel_rfl, fun j t ht => by
        rw [Tryd.params7] at ht
        have hm : t ∈ [22, 35, 23] := by simpa using Array.mem_of_getElem? ht
        have hall : ([22, 35, 23].all fun u => !Tryd.prog.wantsStandIn u) = true := by kernel_rfl
        exact (show Tryd.prog.wantsStandIn t = false by simpa using List.all_eq_true.1 hall t hm)⟩)
    (by kernel_rfl)
#print axioms proved
end Go.Proofs.YthblniakghfchaaDoor.normSame
