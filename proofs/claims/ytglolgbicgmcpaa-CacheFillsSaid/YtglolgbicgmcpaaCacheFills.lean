/-
  Layer 12, fills: a store takes just as many spots as its room says, and then none, until some are dropped; each line grows by one with each place: proved for every room, number and choice.
-/
import Derived.Test.YtglolgbicgmcpaaRows
import Derived.WalkKit
import Derived.ProofKit
import Derived.OpenShut
import Derived.ShutString
import Derived.Below
import Derived.Test.YtglolgbicgmcpaaFills12
import Derived.Deep.CutRange
namespace Go.Proofs.Ytglolgbicgmcpaa.cacheFills
open Go.ChangeShapes Go.WideShapes Go.ChangeAt Go.RowKit
open Go.ChangeMaps (open_string shut_string)
set_option linter.unusedVariables false      -- a walk need not use every 'w<i>' (that an integer argument fits its kind)

theorem own : ownKnob Try.prog.godebug = none := by kernel_rfl

/-! ### STEP 1: THE WALK: the Go text returns true. 'Grown w w'': the world has at most new blocks (Derived/RowKit3.lean). Part the cases AHEAD of 'go_enter' where a test parts the walk; take each callee by a contract of your own. -/
set_option maxHeartbeats 3200000 in
set_option maxRecDepth 100000 in
theorem walk (a0 : Int) (a1 : Int) (a2 : Bool) (w0 : (Lit.int .i64 a0).wf = true) (w1 : (Lit.int .i64 a1).wf = true) (w : World) :
    Calls Try.prog 5 #[.int .i64 a0, .int .i64 a1, .bool a2] w fun e w' => e = .returned (.bool true) ∧ Below w.heap.size w w' := by
  have cA := awake12 w
  obtain ⟨k, hk, hk40⟩ : ∃ k : Nat, (wrap64 (a0.tmod 40 + 40)).tmod 40 = (k : Int) ∧ k < 40 := by
    have h1 := rest_by a0 40 (by omega)
    have h2 : wrap64 (a0.tmod 40 + 40) = a0.tmod 40 + 40 := by unfold wrap64; omega
    have h3 := rest_by (a0.tmod 40 + 40) 40 (by omega)
    have h4 : 0 ≤ (a0.tmod 40 + 40).tmod 40 := Int.tmod_nonneg _ (by omega)
    exact ⟨((a0.tmod 40 + 40).tmod 40).toNat, by rw [h2, Int.toNat_of_nonneg h4], by omega⟩
  obtain ⟨m, q, hq, hm1, hmq, hm6⟩ : ∃ m q : Nat, (wrap64 (a1.tmod 5 + 5)).tmod 5 = (q : Int) ∧ wrap64 (1 + (q : Int)) = (m : Int) ∧ 0 < m ∧ m < 6 := by
    have h1 := rest_by a1 5 (by omega)
    have h2 : wrap64 (a1.tmod 5 + 5) = a1.tmod 5 + 5 := by unfold wrap64; omega
    have h3 := rest_by (a1.tmod 5 + 5) 5 (by omega)
    have h4 : 0 ≤ (a1.tmod 5 + 5).tmod 5 := Int.tmod_nonneg _ (by omega)
    refine ⟨((a1.tmod 5 + 5).tmod 5).toNat + 1, ((a1.tmod 5 + 5).tmod 5).toNat, by rw [h2, Int.toNat_of_nonneg h4], ?_, by omega, by omega⟩
    unfold wrap64
    omega
  have HM1 := Lib.hid hm1
  clear hm1
  have HMK := Lib.hid (And.intro hk40 (And.intro hmq hm6))
  clear hk40 hmq hm6
  go_enter Try.func5, Try.ntmps5
  go_wp2_with (refine cA.mono ?_)
  (first | rintro e wa rfl hb | rintro e wa ⟨rfl, hb⟩)
  have HB := Lib.hid hb
  have cN := new12_yes k (by have := HMK.out; omega) wa
  clear hb cA
  go_wp2_with (refine cN.mono ?_)
  (first | rintro e wb ⟨sb, rfl, mb, hS, hsb, hmb, hb⟩ | rintro e wb sb rfl mb hS hsb hmb hb)
  have HB2 := Lib.hid (below_two HB.out hb)
  have HS0 : Hid (StoreAt wb sb mb k (fillL m 0)) := Lib.hid hS
  have HM := Lib.hid (Nat.le_trans HB.out.size hmb)
  clear hS hsb hmb hb cN hk
  go_upto_region 9 with (fail)
  rw [HM1.out]
  clear hq
  have HB2s := HB2.out.size
  go_loopw [11, 12, 13, 14] (fun iv fv ks vs wr => ∃ i : Nat, i ≤ 60 ∧ iv = .int .i64 i ∧ Hid (StoreAt wr sb mb k (fillL m (min i k)) ∧ Below w.heap.size w wr)) (fun iv _ _ _ _ => 60 - (intOf iv).toNat)
  case atStart => exact ⟨0, by omega, rfl, Lib.hid ⟨by simpa using HS0.out, HB2.out⟩⟩
  case round =>
    obtain ⟨i, hi, rfl, HI⟩ := hrel
    clear HS0 HB2s
    by_cases hlt : i < 60
    · have hlt2 : (i : Int) < 60 := by omega
      go_upto_region 11 with (fail)
      have cSp := fun (r p : Int) W => spot_call r 2 p W
      obtain ⟨R, hR⟩ : ∃ R : Nat, i % m = R := ⟨_, rfl⟩
      obtain ⟨Pl, hPl⟩ : ∃ Pl : Nat, i / m = Pl := ⟨_, rfl⟩
      have hmod : (i : Int) % (m : Int) = (R : Int) := by rw [← hR]; rfl
      have hmodT : (i : Int).tmod (m : Int) = (R : Int) := by rw [← hR]; rfl
      have hdiv0 : (i : Int) / (m : Int) = (Pl : Int) := by rw [← hPl]; rfl
      have hdiv : IntKind.i64.wrap ((i : Int) / (m : Int)) = (Pl : Int) := by
        rw [hdiv0]
        have : Pl ≤ i := by rw [← hPl]; exact Nat.div_le_self _ _
        exact IntWalk.i64_in _ (by omega)
      have HRP := Lib.hid (And.intro hR hPl)
      have hm0 : ¬ (m : Int) = 0 := by have := HMK.out; omega
      have hm00 : ¬ m = 0 := by have := HMK.out; omega
      have hm1 : ¬ (m : Int) = -1 := by omega
      have hcv : IntKind.i8.wrap (i : Int) = (i : Int) := by unfold IntKind.wrap; simp [IntKind.signed, IntKind.bits]; omega
      have hw8 : (Lit.int .i8 (i : Int)).wf = true := WalkArith.wf_i8 ⟨by omega, by omega⟩
      have HW8 := Lib.hid hw8
      have HWE : Hid (w64 (fillEnt m i).r ∧ w64 (fillEnt m i).l ∧ w64 (fillEnt m i).p) := Lib.hid (by
        have h1 : i % m < 6 := Nat.lt_of_lt_of_le (Nat.mod_lt _ HMK.out.2.1) (by have := HMK.out; omega)
        have h2 : i / m ≤ i := Nat.div_le_self _ _
        simp only [fillEnt]
        generalize i % m = x at h1 ⊢
        generalize i / m = y at h2 ⊢
        exact ⟨w64_bd.2 (by omega), w64_bd.2 (by omega), w64_bd.2 (by omega)⟩)
      have HSW : Hid (∀ W, Below wr.heap.size wr W → StoreAt W sb mb k (fillL m (min i k))) := Lib.hid (fun W hW => HI.out.1.bel hW)
      obtain ⟨res, hres⟩ : ∃ res, putE k (fillL m (min i k)) (fillEnt m i) = res := ⟨_, rfl⟩
      have HRES := Lib.hid hres
      have HP : Hid (∀ W (g h : Nat), Below wr.heap.size wr W → Rw.In .i8 W ⟨some ⟨g, 0, none⟩, 1, 1, [(i : Int)]⟩ → Rw.In .i8 W ⟨some ⟨h, 0, none⟩, 1, 1, [1]⟩ →
          Calls Try.prog 9 #[.pointer (some ⟨sb, 0, none⟩), .agg #[.int .i64 (R : Int), .int .i64 2, .int .i64 (Pl : Int)], .slice (some ⟨g, 0, none⟩) 1 1, .slice (some ⟨h, 0, none⟩) 1 1] W
            fun en w' => en = .returned (.int .i64 res.1) ∧ Hid (StoreAt w' sb mb k res.2 ∧ Below w.heap.size w w')) := Lib.hid (fun W g h hW h1 h2 => by
        have := put12 (HSW.out W hW) (fillEnt m i) ⟨some ⟨g, 0, none⟩, 1, 1, [(i : Int)]⟩ ⟨some ⟨h, 0, none⟩, 1, 1, [1]⟩ ⟨h1, h2, rfl, rfl, by simp, by simp⟩ HWE.out
        rw [HRES.out] at this
        unfold spotV fillEnt at this
        simp only [HRP.out.1, HRP.out.2] at this
        refine this.mono ?_
        rintro e w' ⟨rfl, hs, hg⟩
        have hBW : Below w.heap.size w W := HI.out.2.trans (hW.mono HI.out.2.size)
        exact ⟨rfl, Lib.hid ⟨hs, hBW.grown hg hBW.size (fun j hj => by cases hj; exact HM.out)⟩⟩)
      clear hres hw8 hR hPl hdiv0
      have HDR : Hid (∀ (W : World) (q : Rw), q.In .i8 W → q.In .i8 W.drew) := Lib.hid (fun _ _ h => h)
      unfold spotV at cSp
      go_cut [12] from 42 to 54 (fun v wx => v = .int .i64 res.1 ∧ Hid (StoreAt wx sb mb k res.2 ∧ Below w.heap.size w wx))
      case first =>
        go_region_held3 (fun w' => True)
          (exact trivial)
          (first
            | (go_at_call 22; (with_reducible refine (cSp _ _ _).mono ?_); (first | rintro e ws rfl hb1 | rintro e ws ⟨rfl, hb1⟩)
               have HB1 : Hid (Below wr.heap.size wr ws) := Lib.hid (by
                 first
                   | exact below_two (Below.refl _ _).drew hb1
                   | exact (((Below.refl _ _).alloc (Nat.le_refl _) _).drew).trans (hb1.mono (by simp))
                   | exact ((((Below.refl _ _).alloc (Nat.le_refl _) _).alloc (by simp) _).drew).trans (hb1.mono (by simp; omega)))
               have HR1 := Lib.hid (fun (q : Rw) (h : q.In .i8 _) => h.below hb1)
               clear hb1)
            | (go_at_call 9; (with_reducible refine (HP.out _ _ _ ?h1 ?h2 ?h3).mono ?_)
               case h1 => (first | exact HB1.out | exact HB1.out.alloc HB1.out.size _ | exact (HB1.out.alloc HB1.out.size _).alloc (by have := HB1.out.size; simp; omega) _)
               case h2 => (first
                 | exact lit8 rfl HW8.out
                 | exact lit8 (by simp) HW8.out
                 | exact (lit8 rfl HW8.out).below ((Below.refl _ _).alloc (Nat.le_refl _) _)
                 | exact HR1.out _ (HDR.out _ _ (lit8 rfl HW8.out))
                 | exact HR1.out _ (HDR.out _ _ (lit8 (by simp) HW8.out))
                 | exact HR1.out _ (HDR.out _ _ ((lit8 rfl HW8.out).below ((Below.refl _ _).alloc (Nat.le_refl _) _)))
                 | exact (HR1.out _ (HDR.out _ _ (lit8 rfl HW8.out))).below ((Below.refl _ _).alloc (Nat.le_refl _) _)
)
               case h3 => (first
                 | exact lit8 rfl (by decide)
                 | exact lit8 (by simp) (by decide)
                 | exact (lit8 rfl (by decide)).below ((Below.refl _ _).alloc (Nat.le_refl _) _)
                 | exact HR1.out _ (HDR.out _ _ (lit8 rfl (by decide)))
                 | exact HR1.out _ (HDR.out _ _ (lit8 (by simp) (by decide)))
                 | exact HR1.out _ (HDR.out _ _ ((lit8 rfl (by decide)).below ((Below.refl _ _).alloc (Nat.le_refl _) _)))
                 | exact (HR1.out _ (HDR.out _ _ (lit8 rfl (by decide)))).below ((Below.refl _ _).alloc (Nat.le_refl _) _)
)
               (first | rintro e wp rfl hQ | rintro e wp ⟨rfl, hQ⟩)))
        all_goals (go_wp2_with fail)
        all_goals go_meet
        all_goals (case rel => exact ⟨rfl, hQ⟩)
      case rest =>
        obtain ⟨rfl, hQ⟩ := hcut
        have hi1 : IntKind.i64.wrap ((i : Int) + 1) = ((i + 1 : Nat) : Int) := by rw [IntWalk.i64_in _ (by omega)]; rfl
        have hw2 : w64 2 := w64_bd.2 (by omega)
        have hwR : w64 (R : Int) := by have := HWE.out.1; simp only [fillEnt] at this; rw [HRP.out.1] at this; exact this
        by_cases hik : i < k
        · have hik2 : (i : Int) < (k : Int) := by omega
          have hik3 : ¬ (k : Int) ≤ (i : Int) := by omega
          obtain rfl : res = (0, fillL m (i + 1)) := by
            rw [← HRES.out, Nat.min_eq_left (by omega)]
            exact fill_put HMK.out.2.1 hik
          have cL := line12 hQ.out.1 (r := (R : Int)) (l := 2) hwR hw2
          have hPk : IntKind.i64.wrap ((Pl : Int) + 1) = ((Pl + 1 : Nat) : Int) := by
            have : Pl ≤ i := by rw [← HRP.out.2]; exact Nat.div_le_self _ _
            rw [IntWalk.i64_in _ (by omega)]; rfl
          clear hwR hw2 HSW HP cSp
          simp only
          go_wp2_with (refine cL.mono ?_)
          (first | rintro e wd hL | rintro e wd hL)
          obtain ⟨⟨n, a, b, c, d, ks, vs, rfl, hN, -⟩, hbd⟩ := hL
          obtain rfl : n = Pl + 1 := by
            have := fill_line (i := i) HMK.out.2.1
            rw [HRP.out.1, HRP.out.2] at this
            exact hN.uniq this
          have HN : Hid (StoreAt wd sb mb k (fillL m (min (i + 1) k)) ∧ Below w.heap.size w wd) := Lib.hid (by
            rw [Nat.min_eq_left (by omega)]
            exact ⟨hQ.out.1.bel hbd, hQ.out.2.trans (hbd.mono hQ.out.2.size)⟩)
          clear hN hbd cL
          go_wp2
          go_roundw
          case rel => exact ⟨i + 1, by omega, rfl, HN⟩
          case measure => simp [intOf]; omega
        · have hik2 : ¬ (i : Int) < (k : Int) := by omega
          have hik3 : (k : Int) ≤ (i : Int) := by omega
          obtain ⟨x, hx, hxx⟩ := fill_full (k := k) (i := i) HMK.out.2.1 (by omega)
          obtain rfl : res = (x, fillL m k) := by
            rw [← HRES.out, Nat.min_eq_right (by omega)]
            exact hx
          have cL := line12 hQ.out.1 (r := (R : Int)) (l := 2) hwR hw2
          have HN0 : Hid (StoreAt wc sb mb k (fillL m k) ∧ Below w.heap.size w wc) := hQ
          clear hwR hw2 HSW HP cSp hx hQ
          simp only
          rcases hxx with rfl | rfl
          · go_wp2_with (refine cL.mono ?_)
            rintro e wd hL
            obtain ⟨⟨n, a, b, c, d, ks, vs, rfl, hN, -⟩, hbd⟩ := hL
            have HN : Hid (StoreAt wd sb mb k (fillL m (min (i + 1) k)) ∧ Below w.heap.size w wd) := Lib.hid (by
              rw [Nat.min_eq_right (by omega)]
              exact ⟨HN0.out.1.bel hbd, HN0.out.2.trans (hbd.mono HN0.out.2.size)⟩)
            clear hN hbd cL
            go_wp2
            go_roundw
            case rel => exact ⟨i + 1, by omega, rfl, HN⟩
            case measure => simp [intOf]; omega
          · go_wp2_with (refine cL.mono ?_)
            rintro e wd hL
            obtain ⟨⟨n, a, b, c, d, ks, vs, rfl, hN, -⟩, hbd⟩ := hL
            have HN : Hid (StoreAt wd sb mb k (fillL m (min (i + 1) k)) ∧ Below w.heap.size w wd) := Lib.hid (by
              rw [Nat.min_eq_right (by omega)]
              exact ⟨HN0.out.1.bel hbd, HN0.out.2.trans (hbd.mono HN0.out.2.size)⟩)
            clear hN hbd cL
            go_wp2
            go_roundw
            case rel => exact ⟨i + 1, by omega, rfl, HN⟩
            case measure => simp [intOf]; omega
    · obtain rfl : i = 60 := by omega
      have hmin : min 60 k = k := Nat.min_eq_right (by have := HMK.out; omega)
      have hS := HI.out.1
      rw [hmin] at hS
      have HS := Lib.hid hS
      have HB := Lib.hid HI.out.2
      have hlen : ((fillL m k).length : Int) = (k : Int) := by rw [fillL_len]
      have cLen := len12 hS
      rw [hlen] at cLen
      clear hS hmin hlen hlt hi HI
      go_wp2_with (refine cLen.mono ?_)
      (first | rintro e wd rfl rfl | rintro e wd ⟨rfl, rfl⟩)
      clear cLen
      cases a2 with
      | true =>
        by_cases hk0 : 0 < k
        · obtain ⟨G, hG⟩ : ∃ G : Nat, (k + m - 1) / m = G := ⟨_, rfl⟩
          obtain ⟨KM, hKM⟩ : ∃ KM : Nat, k + m = KM := ⟨_, rfl⟩
          obtain ⟨K1, hK1⟩ : ∃ K1 : Nat, k + m - 1 = K1 := ⟨_, rfl⟩
          have hdr := fill_drop (k := k) (m := m) (by have := HMK.out; omega) HMK.out.2.2 HMK.out.2.1
          rw [hG] at hdr
          have hG1 : 0 < G := by rw [← hG]; exact Nat.div_pos (by omega) HMK.out.2.1
          have e1 : IntKind.i64.wrap ((k : Int) + (m : Int)) = (KM : Int) := by rw [IntWalk.i64_in _ (by have := HMK.out; omega)]; omega
          have e2 : IntKind.i64.wrap ((KM : Int) - 1) = (K1 : Int) := by rw [IntWalk.i64_in _ (by have := HMK.out; omega)]; have := HMK.out; omega
          have e3 : (K1 : Int).tdiv (m : Int) = (G : Int) := by rw [← hG, ← hK1]; rfl
          have e4 : IntKind.i64.wrap ((K1 : Int) / (m : Int)) = (G : Int) := by
            have : (K1 : Int) / (m : Int) = (G : Int) := by rw [← hG, ← hK1]; rfl
            rw [this]
            exact IntWalk.i64_in _ (by have := HMK.out; omega)
          have e5 : IntKind.i64.wrap ((K1 : Int).tdiv (m : Int)) = (G : Int) := by
            rw [e3]
            exact IntWalk.i64_in _ (by have := HMK.out; omega)
          have e6 : IntKind.i64.wrap ((k : Int) - (G : Int)) = ((fillL m k).filter fun x => !(x.r == 0)).length := by rw [IntWalk.i64_in _ (by have := HMK.out; omega)]; omega
          have hm0 : ¬ (m : Int) = 0 := by have := HMK.out; omega
          have hm00 : ¬ m = 0 := by have := HMK.out; omega
          have hm1 : ¬ (m : Int) = -1 := by omega
          have hkp : (0 : Int) < (k : Int) := by omega
          have hkp2 : 0 < k := hk0
          obtain ⟨FL, hFL⟩ : ∃ FL : Nat, ((fillL m k).filter fun x => !(x.r == 0)).length = FL := ⟨_, rfl⟩
          rw [hFL] at e6 hdr
          have hw0 : w64 0 := w64_bd.2 (by omega)
          have cD := drop12 (HS.out.bel ((Below.refl _ _).alloc (Nat.le_refl _) (.cells #[.int .i64 0] 3))) (c := 1) (lit64 rfl hw0)
          have hcd : ((fillL m k).length : Int) - (((fillL m k).filter fun x => !(x.r == 0)).length : Int) = (G : Int) := by rw [fillL_len, hFL]; omega
          rw [hcd] at cD
          have HP0 : Hid ((putE k ((fillL m k).filter fun x => !(x.r == 0)) ⟨0, 0, 0, [], []⟩).1 = 0) := Lib.hid (fill_put0 HMK.out.2.1 hk0 (by rw [hFL]; omega))
          have HFL := Lib.hid hFL
          clear hG hKM hK1 hdr hcd hw0 hFL e3 e5
          go_wp2_with (refine cD.mono ?_)
          (first | rintro e we rfl hSe hge | rintro e we ⟨rfl, hSe, hge⟩)
          have HSe := Lib.hid hSe
          have hlg : wd.grownBy (wd.alloc (.cells #[.int .i64 0] 3)) (some mb) := World.grownBy_alloc _ _ _
          have HBe : Hid (Below w.heap.size w we) := Lib.hid ((HB.out.grown hlg HB.out.size (fun j hj => by cases hj; exact HM.out)).grown hge (by have := HB.out.size; have := hlg.size; omega) (fun j hj => by cases hj; exact HM.out))
          have cL := len12 hSe
          rw [HFL.out] at cL
          clear hSe hge hlg cD
          go_wp2_with (refine cL.mono ?_)
          (first | rintro e wf rfl rfl | rintro e wf ⟨rfl, rfl⟩)
          clear cL
          have cS := spot_call 0 0 0
          go_wp2_with (refine (cS _).mono ?_)
          (first | rintro e wg rfl hb | rintro e wg ⟨rfl, hb⟩)
          have cP := put12 (HSe.out.bel hb) ⟨0, 0, 0, [], []⟩ ⟨none, 0, 0, []⟩ ⟨none, 0, 0, []⟩ ⟨rw_nil _ _, rw_nil _ _, rfl, rfl, by simp, by simp⟩ ⟨w64_bd.2 (by simp), w64_bd.2 (by simp), w64_bd.2 (by simp)⟩
          rw [HP0.out] at cP
          unfold spotV at cP
          have HBg := Lib.hid (HBe.out.trans (hb.mono HBe.out.size))
          clear hb cS
          go_wp2_with (refine cP.mono ?_)
          (first | rintro e wh rfl hS hg | rintro e wh ⟨rfl, hS, hg⟩)
          have HBh : Hid (Below w.heap.size w wh) := Lib.hid (HBg.out.grown hg HBg.out.size (fun j hj => by cases hj; exact HM.out))
          clear hS hg cP
          go_wp2
          go_ret
          exact ⟨rfl, HBh.out⟩
        · have hkn : ¬ (0 : Int) < (k : Int) := by omega
          have hkn2 : ¬ 0 < k := hk0
          have cC := clear12 HS.out
          go_wp2_with (refine cC.mono ?_)
          (first | rintro e we rfl hSe hge | rintro e we ⟨rfl, hSe, hge⟩)
          have HSe := Lib.hid hSe
          have HBe : Hid (Below w.heap.size w we) := Lib.hid (HB.out.grown hge HB.out.size (fun j hj => by cases hj; exact HM.out))
          have cL := len12 hSe
          simp only [List.length_nil] at cL
          clear hSe hge cC
          go_wp2_with (refine cL.mono ?_)
          (first | rintro e wf rfl rfl | rintro e wf ⟨rfl, rfl⟩)
          clear cL
          have cS := spot_call 9 9 0
          go_wp2_with (refine (cS _).mono ?_)
          (first | rintro e wg rfl hb | rintro e wg ⟨rfl, hb⟩)
          have cP := put12 (HSe.out.bel hb) ⟨9, 9, 0, [], []⟩ ⟨none, 0, 0, []⟩ ⟨none, 0, 0, []⟩ ⟨rw_nil _ _, rw_nil _ _, rfl, rfl, by simp, by simp⟩ ⟨w64_bd.2 (by simp), w64_bd.2 (by simp), w64_bd.2 (by simp)⟩
          rw [nil_put] at cP
          unfold spotV at cP
          have HBg := Lib.hid (HBe.out.trans (hb.mono HBe.out.size))
          clear hb cS
          rw [if_pos (by omega)] at cP
          have hkb : ((k : Int) == 0) = true := by simp; omega
          go_wp2_with (refine cP.mono ?_)
          (first | rintro e wh rfl hS hg | rintro e wh ⟨rfl, hS, hg⟩)
          have HBh : Hid (Below w.heap.size w wh) := Lib.hid (HBg.out.grown hg HBg.out.size (fun j hj => by cases hj; exact HM.out))
          clear hS hg cP
          go_wp2
          go_ret
          exact ⟨rfl, HBh.out⟩
      | false =>
        by_cases hk0 : 0 < k
        · have cC := clear12 HS.out
          go_wp2_with (refine cC.mono ?_)
          (first | rintro e we rfl hSe hge | rintro e we ⟨rfl, hSe, hge⟩)
          have HSe := Lib.hid hSe
          have HBe : Hid (Below w.heap.size w we) := Lib.hid (HB.out.grown hge HB.out.size (fun j hj => by cases hj; exact HM.out))
          have cL := len12 hSe
          simp only [List.length_nil] at cL
          clear hSe hge cC
          go_wp2_with (refine cL.mono ?_)
          (first | rintro e wf rfl rfl | rintro e wf ⟨rfl, rfl⟩)
          clear cL
          have cS := spot_call 9 9 0
          go_wp2_with (refine (cS _).mono ?_)
          (first | rintro e wg rfl hb | rintro e wg ⟨rfl, hb⟩)
          have cP := put12 (HSe.out.bel hb) ⟨9, 9, 0, [], []⟩ ⟨none, 0, 0, []⟩ ⟨none, 0, 0, []⟩ ⟨rw_nil _ _, rw_nil _ _, rfl, rfl, by simp, by simp⟩ ⟨w64_bd.2 (by simp), w64_bd.2 (by simp), w64_bd.2 (by simp)⟩
          rw [nil_put] at cP
          unfold spotV at cP
          have HBg := Lib.hid (HBe.out.trans (hb.mono HBe.out.size))
          clear hb cS
          rw [if_neg (by omega)] at cP
          have hkb : ((k : Int) == 0) = false := by simp; omega
          go_wp2_with (refine cP.mono ?_)
          (first | rintro e wh rfl hS hg | rintro e wh ⟨rfl, hS, hg⟩)
          have HBh : Hid (Below w.heap.size w wh) := Lib.hid (HBg.out.grown hg HBg.out.size (fun j hj => by cases hj; exact HM.out))
          clear hS hg cP
          go_wp2
          go_ret
          exact ⟨rfl, HBh.out⟩
        · have cC := clear12 HS.out
          go_wp2_with (refine cC.mono ?_)
          (first | rintro e we rfl hSe hge | rintro e we ⟨rfl, hSe, hge⟩)
          have HSe := Lib.hid hSe
          have HBe : Hid (Below w.heap.size w we) := Lib.hid (HB.out.grown hge HB.out.size (fun j hj => by cases hj; exact HM.out))
          have cL := len12 hSe
          simp only [List.length_nil] at cL
          clear hSe hge cC
          go_wp2_with (refine cL.mono ?_)
          (first | rintro e wf rfl rfl | rintro e wf ⟨rfl, rfl⟩)
          clear cL
          have cS := spot_call 9 9 0
          go_wp2_with (refine (cS _).mono ?_)
          (first | rintro e wg rfl hb | rintro e wg ⟨rfl, hb⟩)
          have cP := put12 (HSe.out.bel hb) ⟨9, 9, 0, [], []⟩ ⟨none, 0, 0, []⟩ ⟨none, 0, 0, []⟩ ⟨rw_nil _ _, rw_nil _ _, rfl, rfl, by simp, by simp⟩ ⟨w64_bd.2 (by simp), w64_bd.2 (by simp), w64_bd.2 (by simp)⟩
          rw [nil_put] at cP
          unfold spotV at cP
          have HBg := Lib.hid (HBe.out.trans (hb.mono HBe.out.size))
          clear hb cS
          rw [if_pos (by omega)] at cP
          have hkb : ((k : Int) == 0) = true := by simp; omega
          go_wp2_with (refine cP.mono ?_)
          (first | rintro e wh rfl hS hg | rintro e wh ⟨rfl, hS, hg⟩)
          have HBh : Hid (Below w.heap.size w wh) := Lib.hid (HBg.out.grown hg HBg.out.size (fun j hj => by cases hj; exact HM.out))
          clear hS hg cP
          go_wp2
          go_ret
          exact ⟨rfl, HBh.out⟩

/-! ### THE ROW's STEP: WRITTEN OUT: LEAVE IT -/
set_option maxRecDepth 100000 in
theorem lifted (os : Os) (started : os.Started) (H : Type) (enc : TypeId × Value → H) :
    ReturnsInHanded {} Try.checked os 5 .any (Rows.cacheFillsSpec.pre6 enc Try.prog Try.f5 Rows.cacheFillsRow.domain false) (Rows.cacheFillsSpec.post enc Try.prog Try.f5 false true false false) := by
  refine returnsInHanded_of_change (C := Try.checked) own started (by kernel_rfl) Try.func5
    (ChangeSpec.witness6 (enc := enc) (C := Try.checked) false ⟨#[], #[.int .i64 0, .int .i64 0, .bool false], []⟩ 8 (by kernel_rfl) (by kernel_rfl) (by kernel_rfl) (by kernel_rfl)) ?_
  intro W base args ds gs before hval0 hW hcnd _
  have hval : ∀ (j : Nat) t v, Try.f5.params[j]? = some t → args[j]? = some v → Value.okWide Try.prog W .any base t v := hval0
  have hW' := hW
  obtain ⟨p, q, hA0, hV, rfl, hfz, hnd⟩ := hW
  have hA : DataW.TrodAll enc Try.prog W 0 (fun _ => true) true Try.f5.params.toList args.toList ds p := hA0
  rw [Try.params5] at hA hval
  obtain ⟨v0, vs0, d0, ds0, p0, q0, hargs, rfl, rfl, h0, r0⟩ := trodAll_cons hA
  obtain ⟨v1, vs1, d1, ds1, p1, q1, rfl, rfl, rfl, h1, r1⟩ := trodAll_cons r0
  obtain ⟨v2, vs2, d2, ds2, p2, q2, rfl, rfl, rfl, h2, r2⟩ := trodAll_cons r1
  obtain ⟨rfl, rfl, rfl⟩ := trodAll_nil r2
  obtain rfl : args = #[v0, v1, v2] := by cases args; simp_all
  obtain ⟨rfl, rfl⟩ := trodVars_none hV
  obtain ⟨a0, rfl, rfl, rfl, w0⟩ := open_int Try.underlying3 (hval 0 3 v0 rfl rfl) h0
  obtain ⟨a1, rfl, rfl, rfl, w1⟩ := open_int Try.underlying3 (hval 1 3 v1 rfl rfl) h1
  obtain ⟨a2, rfl, rfl, rfl⟩ := open_bool Try.underlying4 (hval 2 4 v2 rfl rfl) h2
  clear hA0 hval0
  refine (walk a0 a1 a2 w0 w1 W).mono fun e W' ⟨he, bel⟩ => ?_
  subst he
  exact ⟨_, rfl, _, _, _, [], _, [], hW', trodAll_mk1 (shut_bool Try.underlying4 _), (trodAll_cons_mk (shut_int Try.underlying3 w0) (trodAll_cons_mk (shut_int Try.underlying3 w1) (trodAll_cons_mk (shut_bool Try.underlying4 _) trodAll_mk0))), rfl, bel.frame _, fun h => by cases h⟩

theorem over : Rows.cacheFillsRow.holds Try.pinned (OpenSpec.ofChange Rows.cacheFillsSpec) :=
  OpenClaim.holds_of_wide 5 Try.f5 rfl rfl rfl rfl rfl rfl rfl ⟨rfl, rfl, rfl, rfl, rfl⟩ rfl rfl rfl rfl rfl (by kernel_rfl) Try.func5 (by kernel_rfl)
    (of_decide_eq_true (by kernel_rfl)) (by unfold Func.isWrapper; first | (rw [if_pos (by decide +kernel)]; kernel_rfl) | (rw [if_neg (by decide +kernel)]; exact ⟨rfl, rfl⟩))
    (fun os started H enc _ => lifted os started H enc)

/-- ████ THE STATEMENT ████ -/
theorem proved : Rows.CacheFillsSaid :=
  over
#print axioms proved
end Go.Proofs.Ytglolgbicgmcpaa.cacheFills
