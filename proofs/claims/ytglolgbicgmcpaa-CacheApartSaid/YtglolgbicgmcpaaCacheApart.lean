/-
  Layer 12, apart: requests, and layers, don't touch one another: what is laid, refused and dropped of one is as if there were no others: proved for all acts.
-/
import Derived.Test.YtglolgbicgmcpaaRows
import Derived.WalkKit
import Derived.ProofKit
import Derived.OpenShut
import Derived.ShutString
import Derived.ChangeOld
import Derived.Below
import Derived.Test.YtglolgbicgmcpaaActRow12
import Derived.Test.YtglolgbicgmcpaaActRow12
import Derived.Test.YtglolgbicgmcpaaApart12
import Derived.Deep.CutRange
namespace Go.Proofs.Ytglolgbicgmcpaa.cacheApart
open Go.ChangeShapes Go.WideShapes Go.ChangeAt Go.RowKit
open Go.ChangeMaps (open_string shut_string)
set_option linter.unusedVariables false

theorem own : ownKnob Try.prog.godebug = none := by kernel_rfl
theorem laidOut : laidOutB Try.prog = true := by kernel_rfl

set_option maxHeartbeats 6400000 in
set_option maxRecDepth 100000 in
theorem walk (x0 : RowOf Act12) (w : World) (h0 : x0.In Act12.cells (fun w x => Act12.In w x) 6 w) :
    Calls Try.prog 6 #[.slice x0.a x0.n x0.cap] w fun e w' => e = .returned (.bool true) ∧ Below w.heap.size w w' := by
  have cA := awake12 w
  obtain ⟨xa, xn, xcap, xs⟩ := x0
  have H0 := Lib.hid h0
  have hcap : xn ≤ 9223372036854775807 := Nat.le_trans h0.2.1 h0.2.2.1
  simp only
  clear h0
  by_cases hbig : 60 < xn
  · have hb2 : (60 : Int) < (xn : Int) := by omega
    go_enter Try.func6, Try.ntmps6
    go_wp2_with (refine cA.mono ?_)
    (first | rintro e wa rfl hb | rintro e wa ⟨rfl, hb⟩)
    have HB := Lib.hid hb
    have cB := awake12 wa
    clear hb cA
    go_wp2_with (refine cB.mono ?_)
    (first | rintro e wb rfl hb | rintro e wb ⟨rfl, hb⟩)
    have HB2 := Lib.hid (below_two HB.out hb)
    clear hb cB
    go_wp2
    go_ret
    exact ⟨rfl, HB2.out⟩
  have hb2 : ¬ (60 : Int) < (xn : Int) := by omega
  have hb3 : ¬ 60 < xn := hbig
  go_enter Try.func6, Try.ntmps6
  go_wp2_with (refine cA.mono ?_)
  (first | rintro e wa rfl hb | rintro e wa ⟨rfl, hb⟩)
  have HB := Lib.hid hb
  have cN := new12_yes 1000 (by omega) wa
  clear hb cA
  go_wp2_with (refine cN.mono ?_)
  (first | rintro e wb ⟨sbA, rfl, mbA, hS, hsb, hmb, hb⟩ | rintro e wb sbA rfl mbA hS hsb hmb hb)
  have HI0 : Hid (Build12 w sbA mbA 0 (.slice none 0 0) (fun _ => 0) (fun _ => 0) wb) := Lib.hid ⟨hS, fun i hi => by omega, fun i hi => by omega, fun i j hi => by omega, ⟨Nat.le_trans HB.out.size hmb, fun i hi => by omega⟩, below_two HB.out hb, own_nil _ _ _⟩
  clear hS hsb hmb hb cN HB
  go_upto_region 8 with (fail)
  go_loopw [5, 6, 7, 8] (fun ov iv _ _ wr => ∃ (n : Nat) (a : Option Addr) (c : Nat) (sb mb : Nat → Nat), n ≤ 6 ∧ ov = .slice a n c ∧ iv = .int .i64 n ∧ Hid (Build12 w sbA mbA n (.slice a n c) sb mb wr)) (fun _ iv _ _ _ => 6 - (intOf iv).toNat)
  case atStart => exact ⟨0, none, 0, _, _, by omega, rfl, rfl, HI0⟩
  case round =>
    obtain ⟨n, a, c, sb, mb, hn, rfl, rfl, HI⟩ := hrel
    clear HI0
    by_cases hlt : n < 6
    · have hlt2 : (n : Int) < 6 := by omega
      have cN := new12_yes 1000 (by omega) wr
      have hn1 : IntKind.i64.wrap ((n : Int) + 1) = ((n + 1 : Nat) : Int) := by rw [IntWalk.i64_in _ (by omega)]; rfl
      go_wp2_with (refine cN.mono ?_)
      (first | rintro e w1 ⟨sbn, rfl, mbn, hS, hsb, hmb, hb⟩ | rintro e w1 sbn rfl mbn hS hsb hmb hb)
      obtain ⟨v', w2, sb', mb', hr, hN⟩ := HI.out.next (by omega) hb hS hmb
      obtain ⟨a', c', rfl⟩ : ∃ a' c', v' = .slice a' (n + 1) c' := by
        rcases hN.row.2 with ⟨_, e⟩ | ⟨g, cap, cur, rfl, _⟩
        · omega
        · exact ⟨_, _, rfl⟩
      have HN := Lib.hid hN
      clear hS hsb hmb hb cN hN
      go_wp2_with (at_builtin; (with_reducible refine wpList_append_run ?_ (.tmp 54) (.tmp 56) 59 ?_ _ _ ?_ ?_ hr ?_); rfl; rfl; rfl; rfl)
      go_roundw
      case rel => exact ⟨n + 1, a', c', sb', mb', by omega, rfl, rfl, HN⟩
      case measure => simp [intOf]; omega
    · obtain rfl : n = 6 := by omega
      obtain ⟨g, c2, e, hO⟩ := HI.out.done
      cases e
      have HO0 := Lib.hid hO
      clear hO HI hlt hn
      go_upto_region 15 with (fail)
      rw [show (((6 : Nat) : Int)) = 6 from rfl]
      go_loopw [9, 10, 11, 12, 13, 14, 15, 16, 17, 18, 19] (fun iv _ _ _ _ _ _ _ _ _ _ wr => ∃ (i : Nat) (LA : List Ent) (LO : Nat → List Ent), i ≤ xn ∧ iv = .int .i64 i ∧ Hid (Own12 w sbA mbA g sb mb LA LO wr ∧ Split LA LO ∧ LA.length ≤ i)) (fun iv _ _ _ _ _ _ _ _ _ _ _ => xn - (intOf iv).toNat)
      case atStart => exact ⟨0, [], fun _ => [], by omega, rfl, Lib.hid ⟨HO0.out, split_nil, Nat.le_refl _⟩⟩
      case round =>
        obtain ⟨i, LA, LO, hi, rfl, HI⟩ := hrel
        clear HO0
        by_cases hlt : i < xn
        · have hlt2 : (i : Int) < (xn : Int) := by omega
          have hi1 : IntKind.i64.wrap ((i : Int) + 1) = ((i + 1 : Nat) : Int) := by rw [IntWalk.i64_in _ (by omega)]; rfl
          have hB := HI.out.1.bel
          obtain ⟨b, off, x, ha, -, hmem, hx, hc⟩ := (H0.out.below Act12.len hB (fun x hx => hx.below hB)).at_ hlt
          simp only at ha
          subst ha
          have d0 : wr.cell? ⟨b, off + i * 6, none⟩ = some (.int .i64 x.kind) := hc 0 (by omega)
          have d1 : wr.cell? ⟨b, off + i * 6 + 1, none⟩ = some (.int .i64 x.at_.r) := hc 1 (by omega)
          have d2 : wr.cell? ⟨b, off + i * 6 + 2, none⟩ = some (.int .i64 x.at_.l) := hc 2 (by omega)
          have d3 : wr.cell? ⟨b, off + i * 6 + 3, none⟩ = some (.int .i64 x.at_.p) := hc 3 (by omega)
          have d4 : wr.cell? ⟨b, off + i * 6 + 4, none⟩ = some (.slice x.k.a x.k.n x.k.cap) := hc 4 (by omega)
          have d5 : wr.cell? ⟨b, off + i * 6 + 5, none⟩ = some (.slice x.v.a x.v.n x.v.cap) := hc 5 (by omega)
          have HXin := Lib.hid hx
          have HXin0 : Hid (Act12.In w x) := Lib.hid (H0.out.2.2.2.1 x hmem)
          clear hc hx hmem
          go_upto_region 18 with (fail)
          generalize hwA : World.alloc wr _ = wA
          have XA : Box wA wr.heap.size 36 #[.int .i64 x.kind, .int .i64 x.at_.r, .int .i64 x.at_.l, .int .i64 x.at_.p, .slice x.k.a x.k.n x.k.cap, .slice x.v.a x.v.n x.v.cap] := by rw [← hwA]; exact box_new _ _ _
          have hBA : Below wr.heap.size wr wA := by rw [← hwA]; exact (Below.refl _ _).alloc (Nat.le_refl _) _
          have HOA := Lib.hid (HI.out.1.to hBA)
          have HXA := Lib.hid XA
          have HBA : Hid (Below w.heap.size w wA) := Lib.hid (hB.trans (hBA.mono hB.size))
          have a0 : wA.cell? ⟨wr.heap.size, 0, none⟩ = some (.int .i64 x.kind) := XA.cell 0
          have a1 : wA.cell? ⟨wr.heap.size, 1, none⟩ = some (.int .i64 x.at_.r) := XA.cell 1
          have a2 : wA.cell? ⟨wr.heap.size, 2, none⟩ = some (.int .i64 x.at_.l) := XA.cell 2
          have a3 : wA.cell? ⟨wr.heap.size, 3, none⟩ = some (.int .i64 x.at_.p) := XA.cell 3
          have a4 : wA.cell? ⟨wr.heap.size, 4, none⟩ = some (.slice x.k.a x.k.n x.k.cap) := XA.cell 4
          have a5 : wA.cell? ⟨wr.heap.size, 5, none⟩ = some (.slice x.v.a x.v.n x.v.cap) := XA.cell 5
          clear hwA XA hBA hB d0 d1 d2 d3 d4 d5
          by_cases hk1 : 100 < x.k.n
          · have hk2 : (100 : Int) < (x.k.n : Int) := by omega
            go_wp2
            go_ret
            exact ⟨rfl, HBA.out⟩
          by_cases hv1 : 100 < x.v.n
          · have hk2 : ¬ (100 : Int) < (x.k.n : Int) := by omega
            have hv2 : (100 : Int) < (x.v.n : Int) := by omega
            go_wp2
            go_ret
            exact ⟨rfl, HBA.out⟩
          have hk2 : ¬ (100 : Int) < (x.k.n : Int) := by omega
          have hv2 : ¬ (100 : Int) < (x.v.n : Int) := by omega
          obtain ⟨rN, hrN, hr3⟩ : ∃ rN : Nat, (wrap64 (x.at_.r.tmod 3 + 3)).tmod 3 = (rN : Int) ∧ rN < 3 := by
            have h1 := rest_by x.at_.r 3 (by omega)
            have h2 : wrap64 (x.at_.r.tmod 3 + 3) = x.at_.r.tmod 3 + 3 := by unfold wrap64; omega
            have h3 := rest_by (x.at_.r.tmod 3 + 3) 3 (by omega)
            have h4 : 0 ≤ (x.at_.r.tmod 3 + 3).tmod 3 := Int.tmod_nonneg _ (by omega)
            exact ⟨((x.at_.r.tmod 3 + 3).tmod 3).toNat, by rw [h2, Int.toNat_of_nonneg h4], by omega⟩
          obtain ⟨lN, hlN, hl2⟩ : ∃ lN : Nat, (wrap64 (x.at_.l.tmod 2 + 2)).tmod 2 = (lN : Int) ∧ lN < 2 := by
            have h1 := rest_by x.at_.l 2 (by omega)
            have h2 : wrap64 (x.at_.l.tmod 2 + 2) = x.at_.l.tmod 2 + 2 := by unfold wrap64; omega
            have h3 := rest_by (x.at_.l.tmod 2 + 2) 2 (by omega)
            have h4 : 0 ≤ (x.at_.l.tmod 2 + 2).tmod 2 := Int.tmod_nonneg _ (by omega)
            exact ⟨((x.at_.l.tmod 2 + 2).tmod 2).toNat, by rw [h2, Int.toNat_of_nonneg h4], by omega⟩
          have HRL := Lib.hid (And.intro hr3 hl2)
          obtain ⟨R2, hR2⟩ : ∃ R2 : Nat, R2 = 2 * rN := ⟨_, rfl⟩
          obtain ⟨J, hJ⟩ : ∃ J : Nat, J = R2 + lN := ⟨_, rfl⟩
          obtain ⟨R21, hR21⟩ : ∃ R21 : Nat, R21 = R2 + 1 := ⟨_, rfl⟩
          have w2 : IntKind.i64.wrap (2 * (rN : Int)) = (R2 : Int) := by rw [IntWalk.i64_in _ (by omega)]; omega
          have wJ : IntKind.i64.wrap ((R2 : Int) + (lN : Int)) = (J : Int) := by rw [IntWalk.i64_in _ (by omega)]; omega
          have w21 : IntKind.i64.wrap ((R2 : Int) + 1) = (R21 : Int) := by rw [IntWalk.i64_in _ (by omega)]; omega
          have iJ : (J : Int) < 6 := by omega
          have iR2 : (R2 : Int) < 6 := by omega
          have iR21 : (R21 : Int) < 6 := by omega
          have HJ : Hid (J = 2 * rN + lN ∧ R2 = 2 * rN ∧ R21 = 2 * rN + 1) := Lib.hid ⟨by omega, by omega, by omega⟩
          clear hr3 hl2 hR2 hJ hR21
          go_upto_region 20 with (fail)
          go_region
          go_upto_region 21 with (fail)
          generalize hwB : World.drew wA = wB
          have hBB : Below wA.heap.size wA wB := by rw [← hwB]; exact (Below.refl _ _).drew
          have HOB := Lib.hid (HOA.out.to hBB)
          have HXB := Lib.hid (HXA.out.bel hBB)
          have b3 : wB.cell? ⟨wr.heap.size, 3, none⟩ = some (.int .i64 x.at_.p) := HXB.out.cell 3
          have cS := spot_call (rN : Int) (lN : Int) x.at_.p wB
          clear hwB hBB HOA HXA a0 a1 a2 a3 a4 a5 hrN hlN HBA
          unfold spotV at cS
          go_wp2_with (refine cS.mono ?_)
          (first | rintro e ws rfl hb | rintro e ws ⟨rfl, hb⟩)
          have HOs := Lib.hid (HOB.out.to hb)
          have HXs := Lib.hid (HXB.out.bel hb)
          clear hb cS b3 HOB HXB
          go_upto_region 22 with (fail)
          generalize hwC : World.alloc ws _ = wC
          have hBC : Below ws.heap.size ws wC := by rw [← hwC]; exact (Below.refl _ _).alloc (Nat.le_refl _) _
          have HOC := Lib.hid (HOs.out.to hBC)
          have HXC := Lib.hid (HXs.out.bel hBC)
          have hYC : Box wC ws.heap.size 33 #[.int .i64 rN, .int .i64 lN, .int .i64 x.at_.p] := by rw [← hwC]; exact box_new _ _ _
          have HYC := Lib.hid hYC
          have c0 : wC.cell? ⟨wr.heap.size, 0, none⟩ = some (.int .i64 x.kind) := HXC.out.cell 0
          have c4 : wC.cell? ⟨wr.heap.size, 4, none⟩ = some (.slice x.k.a x.k.n x.k.cap) := HXC.out.cell 4
          have c5 : wC.cell? ⟨wr.heap.size, 5, none⟩ = some (.slice x.v.a x.v.n x.v.cap) := HXC.out.cell 5
          have y0 : wC.cell? ⟨ws.heap.size, 0, none⟩ = some (.int .i64 rN) := hYC.cell 0
          have y1 : wC.cell? ⟨ws.heap.size, 1, none⟩ = some (.int .i64 lN) := hYC.cell 1
          have y2 : wC.cell? ⟨ws.heap.size, 2, none⟩ = some (.int .i64 x.at_.p) := hYC.cell 2
          have gJ : wC.cell? ⟨g, J, none⟩ = some (.pointer (some ⟨sb J, 0, none⟩)) := HOC.out.row J (by omega)
          have g2 : wC.cell? ⟨g, R2, none⟩ = some (.pointer (some ⟨sb R2, 0, none⟩)) := HOC.out.row R2 (by omega)
          have g21 : wC.cell? ⟨g, R21, none⟩ = some (.pointer (some ⟨sb R21, 0, none⟩)) := HOC.out.row R21 (by omega)
          clear hwC hBC hYC HOs HXs
          have HWR : Hid (w64 (rN : Int)) := Lib.hid (w64_bd.2 (by have := HRL.out; omega))
          have HWL : Hid (w64 (lN : Int)) := Lib.hid (w64_bd.2 (by have := HRL.out; omega))
          have HDR : Hid (∀ (W : World) (a : Option Addr) (n : Nat) (q : List Int), Elems .i64 W a n q → Elems .i64 W.drew a n q) := Lib.hid (fun _ _ _ _ h => h)
          go_upto_if 105 with (fail)
          go_cut [15] from 103 to 144 (fun v15 wx => ∃ (LA' : List Ent) (LO' : Nat → List Ent), Hid (Own12 w sbA mbA g sb mb LA' LO' wx ∧ Split LA' LO' ∧ LA'.length ≤ i + 1))
          case first =>
            by_cases hkd : x.kind = 1
            · have hkd2 : (x.kind == 1) = true := by simpa using hkd
              clear hkd
              obtain ⟨N0, hN0⟩ : ∃ N0 : Int, ((LO R2).length : Int) - (((LO R2).filter fun x => !(x.r == (rN : Int))).length : Int) = N0 := ⟨_, rfl⟩
              obtain ⟨N1, hN1⟩ : ∃ N1 : Int, ((LO R21).length : Int) - (((LO R21).filter fun x => !(x.r == (rN : Int))).length : Int) = N1 := ⟨_, rfl⟩
              obtain ⟨NA, hNA⟩ : ∃ NA : Int, (LA.length : Int) - ((LA.filter fun x => !(x.r == (rN : Int))).length : Int) = NA := ⟨_, rfl⟩
              have hsum : NA = N0 + N1 := by
                rw [← hNA, ← hN0, ← hN1, HJ.out.2.1, HJ.out.2.2]
                exact HI.out.2.1.count HRL.out.1
              have hAl : NA ≤ LA.length := by omega
              have hA0 : 0 ≤ NA := by have := List.length_filter_le (fun x : Ent => !(x.r == (rN : Int))) LA; omega
              have hLA := HI.out.2.2
              have wsum : IntKind.i64.wrap (N0 + N1) = NA := by rw [← hsum]; exact IntWalk.i64_in _ (by omega)
              have HN0 := Lib.hid hN0
              have HN1 := Lib.hid hN1
              have HNA := Lib.hid hNA
              have HSP := Lib.hid (HI.out.2.1.drop HRL.out.1)
              have HLF : Hid ((LA.filter fun x => !(x.r == (rN : Int))).length ≤ i + 1) := Lib.hid (by have := List.length_filter_le (fun x : Ent => !(x.r == (rN : Int))) LA; omega)
              have HD1 : Hid (∀ W (h : Nat), Below wC.heap.size wC W → Elems .i64 W (some ⟨h, 0, none⟩) 1 [(rN : Int)] → Calls Try.prog 11 #[.pointer (some ⟨sb R2, 0, none⟩), .slice (some ⟨h, 0, none⟩) 1 1] W
                  fun e w' => e = .returned (.int .i64 N0) ∧ Hid (Own12 w sbA mbA g sb mb LA (fun i => if i = R2 then (LO R2).filter (fun x => !(x.r == (rN : Int))) else LO i) w' ∧ W.grownBy w' (some (mb R2)) ∧ ∃ n F, MapAt W 33 (mb R2) n F)) := Lib.hid (fun W h hW hE => by
                have hO := HOC.out.to hW
                have hR : R2 < 6 := by omega
                have := drop12 (hO.own R2 hR) (c := 1) hE
                rw [HN0.out] at this
                refine this.mono ?_
                rintro e w' ⟨rfl, hs, hg⟩
                obtain ⟨F, hF, _⟩ := (hO.own R2 hR).map
                exact ⟨rfl, Lib.hid ⟨hO.onOne hR hs hg, hg, _, F, hF⟩⟩)
              have HD2 : Hid (∀ w1 W (h : Nat), Own12 w sbA mbA g sb mb LA (fun i => if i = R2 then (LO R2).filter (fun x => !(x.r == (rN : Int))) else LO i) w1 → Below w1.heap.size w1 W → Elems .i64 W (some ⟨h, 0, none⟩) 1 [(rN : Int)] → Calls Try.prog 11 #[.pointer (some ⟨sb R21, 0, none⟩), .slice (some ⟨h, 0, none⟩) 1 1] W
                  fun e w' => e = .returned (.int .i64 N1) ∧ Hid (Own12 w sbA mbA g sb mb LA (fun i => if i = 2 * rN + 1 then (LO (2 * rN + 1)).filter (fun x => !(x.r == (rN : Int))) else if i = 2 * rN then (LO (2 * rN)).filter (fun x => !(x.r == (rN : Int))) else LO i) w')) := Lib.hid (fun w1 W h hO1 hW hE => by
                have hO := hO1.to hW
                have hR : R21 < 6 := by omega
                have hj := HJ.out
                have hs0 := hO.own R21 hR
                rw [if_neg (by omega)] at hs0
                have := drop12 hs0 (c := 1) hE
                rw [HN1.out] at this
                refine this.mono ?_
                rintro e w' ⟨rfl, hs, hg⟩
                have h3 := hO.onOne hR hs hg
                rw [hj.2.1, hj.2.2] at h3
                exact ⟨rfl, Lib.hid h3⟩)
              clear hN0 hN1 hNA hsum hAl hA0 hLA
              go_upto_region 24 with (fail)
              go_region_held3? (fun w' => w'.cell? ⟨g, R2, none⟩ = some (.pointer (some ⟨sb R2, 0, none⟩)) ∧ w'.cell? ⟨g, R21, none⟩ = some (.pointer (some ⟨sb R21, 0, none⟩)))
                (first | go_keep | (go_split_ands; refine ⟨?_, ?_⟩ <;> assumption))
                (first
                  | (go_at_call 11; (with_reducible refine (HD1.out _ _ ?h1 ?h2).mono ?_)
                     case h1 => (first | exact (Below.refl _ _).drew | exact ((Below.refl _ _).alloc (Nat.le_refl _) _).drew | exact (((Below.refl _ _).alloc (Nat.le_refl _) _).alloc (by simp) _).drew | (trace_state; fail))
                     case h2 => (first
                           | exact lit64 rfl HWR.out
                           | exact lit64 (World.size_alloc _ _).symm HWR.out
                           | exact (lit64 rfl HWR.out).below ((Below.refl _ _).alloc (Nat.le_refl _) _)
                           | exact HE1.out _ _ _ (HDR.out _ _ _ _ (lit64 rfl HWR.out))
                           | exact HE1.out _ _ _ (HDR.out _ _ _ _ (lit64 (World.size_alloc _ _).symm HWR.out))
                           | exact HE1.out _ _ _ (HDR.out _ _ _ _ ((lit64 rfl HWR.out).below ((Below.refl _ _).alloc (Nat.le_refl _) _)))
                           | exact (HE1.out _ _ _ (HDR.out _ _ _ _ (lit64 rfl HWR.out))).below ((Below.refl _ _).alloc (Nat.le_refl _) _)
                           | exact HDR.out _ _ _ _ (lit64 rfl HWR.out)
                           | exact HDR.out _ _ _ _ (lit64 (World.size_alloc _ _).symm HWR.out)
                           | exact HDR.out _ _ _ _ ((lit64 rfl HWR.out).below ((Below.refl _ _).alloc (Nat.le_refl _) _))
                           | (trace_state; fail))
                     (first | rintro e w1 rfl hQ | rintro e w1 ⟨rfl, hQ⟩)
                     have HE1 := Lib.hid (fun (a : Option Addr) (n : Nat) (q : List Int) (h : Elems .i64 _ a n q) => el_map h hQ.out.2.2 hQ.out.2.1)
                     have u2 : w1.cell? ⟨g, R2, none⟩ = some (.pointer (some ⟨sb R2, 0, none⟩)) := hQ.out.1.row R2 (by omega)
                     have u21 : w1.cell? ⟨g, R21, none⟩ = some (.pointer (some ⟨sb R21, 0, none⟩)) := hQ.out.1.row R21 (by omega)
                     )
                  | (go_at_call 11; (with_reducible refine (HD2.out w1 _ _ hQ.out.1 ?h1 ?h2).mono ?_)
                     case h1 => (first | exact Below.refl _ _ | exact (Below.refl _ _).alloc (Nat.le_refl _) _ | (trace_state; fail))
                     case h2 => (first
                           | exact lit64 rfl HWR.out
                           | exact lit64 (World.size_alloc _ _).symm HWR.out
                           | exact (lit64 rfl HWR.out).below ((Below.refl _ _).alloc (Nat.le_refl _) _)
                           | exact HE1.out _ _ _ (HDR.out _ _ _ _ (lit64 rfl HWR.out))
                           | exact HE1.out _ _ _ (HDR.out _ _ _ _ (lit64 (World.size_alloc _ _).symm HWR.out))
                           | exact HE1.out _ _ _ (HDR.out _ _ _ _ ((lit64 rfl HWR.out).below ((Below.refl _ _).alloc (Nat.le_refl _) _)))
                           | exact (HE1.out _ _ _ (HDR.out _ _ _ _ (lit64 rfl HWR.out))).below ((Below.refl _ _).alloc (Nat.le_refl _) _)
                           | exact HDR.out _ _ _ _ (lit64 rfl HWR.out)
                           | exact HDR.out _ _ _ _ (lit64 (World.size_alloc _ _).symm HWR.out)
                           | exact HDR.out _ _ _ _ ((lit64 rfl HWR.out).below ((Below.refl _ _).alloc (Nat.le_refl _) _))
                           | (trace_state; fail))
                     (first | rintro e w2 rfl hQ2 | rintro e w2 ⟨rfl, hQ2⟩)
                     have t2 : w2.cell? ⟨g, R2, none⟩ = some (.pointer (some ⟨sb R2, 0, none⟩)) := hQ2.out.row R2 (by omega)
                     have t21 : w2.cell? ⟨g, R21, none⟩ = some (.pointer (some ⟨sb R21, 0, none⟩)) := hQ2.out.row R21 (by omega)
                     ))
              all_goals (
                have cD := drop12 (hQ2.out.to ((Below.refl _ _).alloc (Nat.le_refl _) (.cells #[.int .i64 (rN : Int)] 3))).all (c := 1) (lit64 rfl HWR.out)
                rw [HNA.out] at cD
                go_wp2_with (refine cD.mono ?_)
                (first | rintro e w3 rfl hs hg | rintro e w3 ⟨rfl, hs, hg⟩)
                have HF := Lib.hid ((hQ2.out.to ((Below.refl _ _).alloc (Nat.le_refl _) (.cells #[.int .i64 (rN : Int)] 3))).onAll hs hg)
                clear hs hg cD
                go_wp2_with fail
                go_meet
                case rel => exact ⟨_, _, Lib.hid ⟨HF.out, HSP.out, HLF.out⟩⟩)
            · have hkd2 : (x.kind == 1) = false := by simpa using hkd
              clear hkd
              have hj := HJ.out
              have hrl := HRL.out
              have hLA := HI.out.2.2
              obtain ⟨q1, q2, q3⟩ := HI.out.2.1.put (by omega) hrl.1 hrl.2 x.at_.p x.k.v x.v.v
              rw [← hj.1] at q1 q2
              obtain ⟨cd, hcd⟩ : ∃ cd : Int, (putE 1000 LA ⟨rN, lN, x.at_.p, x.k.v, x.v.v⟩).1 = cd := ⟨_, rfl⟩
              rw [hcd] at q1
              have hRX : ∀ W, Below w.heap.size w W → RowsE W ⟨rN, lN, x.at_.p, x.k.v, x.v.v⟩ x.k x.v := fun W hW => by
                have hx := (HXin0.out.below hW)
                exact ⟨hx.2.2.1, hx.2.2.2, rfl, rfl, by omega, by omega⟩
              have hw3 : w64 (rN : Int) ∧ w64 (lN : Int) ∧ w64 x.at_.p := ⟨HWR.out, HWL.out, HXin.out.2.1.2.2⟩
              have HP1 : Hid (Calls Try.prog 9 #[.pointer (some ⟨sbA, 0, none⟩), .agg #[.int .i64 (rN : Int), .int .i64 (lN : Int), .int .i64 x.at_.p], .slice x.k.a x.k.n x.k.cap, .slice x.v.a x.v.n x.v.cap] wC.drew
                  fun e w' => e = .returned (.int .i64 cd) ∧ Hid (Own12 w sbA mbA g sb mb (putE 1000 LA ⟨rN, lN, x.at_.p, x.k.v, x.v.v⟩).2 LO w' ∧ Box w' wr.heap.size 36 #[.int .i64 x.kind, .int .i64 x.at_.r, .int .i64 x.at_.l, .int .i64 x.at_.p, .slice x.k.a x.k.n x.k.cap, .slice x.v.a x.v.n x.v.cap] ∧ Box w' ws.heap.size 33 #[.int .i64 rN, .int .i64 lN, .int .i64 x.at_.p])) := Lib.hid (by
                have hO := HOC.out.to (Below.refl _ wC).drew
                have := put12 hO.all ⟨rN, lN, x.at_.p, x.k.v, x.v.v⟩ x.k x.v (hRX _ hO.bel) hw3
                rw [hcd] at this
                unfold spotV at this
                refine this.mono ?_
                rintro e w' ⟨rfl, hs, hg⟩
                exact ⟨rfl, Lib.hid ⟨hO.onAll hs hg, hO.all.bx (HXC.out.bel (Below.refl _ wC).drew) hg, hO.all.bx (HYC.out.bel (Below.refl _ wC).drew) hg⟩⟩)
              have HP2 : Hid (∀ w1, Own12 w sbA mbA g sb mb (putE 1000 LA ⟨rN, lN, x.at_.p, x.k.v, x.v.v⟩).2 LO w1 → Box w1 wr.heap.size 36 #[.int .i64 x.kind, .int .i64 x.at_.r, .int .i64 x.at_.l, .int .i64 x.at_.p, .slice x.k.a x.k.n x.k.cap, .slice x.v.a x.v.n x.v.cap] → Box w1 ws.heap.size 33 #[.int .i64 rN, .int .i64 lN, .int .i64 x.at_.p] → Calls Try.prog 9 #[.pointer (some ⟨sb J, 0, none⟩), .agg #[.int .i64 (rN : Int), .int .i64 (lN : Int), .int .i64 x.at_.p], .slice x.k.a x.k.n x.k.cap, .slice x.v.a x.v.n x.v.cap] w1
                  fun e w' => e = .returned (.int .i64 cd) ∧ Hid (Own12 w sbA mbA g sb mb (putE 1000 LA ⟨rN, lN, x.at_.p, x.k.v, x.v.v⟩).2 (fun i => if i = J then (putE 1000 (LO J) ⟨rN, lN, x.at_.p, x.k.v, x.v.v⟩).2 else LO i) w' ∧ Box w' wr.heap.size 36 #[.int .i64 x.kind, .int .i64 x.at_.r, .int .i64 x.at_.l, .int .i64 x.at_.p, .slice x.k.a x.k.n x.k.cap, .slice x.v.a x.v.n x.v.cap] ∧ Box w' ws.heap.size 33 #[.int .i64 rN, .int .i64 lN, .int .i64 x.at_.p])) := Lib.hid (fun w1 hO hb1 hb2 => by
                have hJ6 : J < 6 := by omega
                have := put12 (hO.own J hJ6) ⟨rN, lN, x.at_.p, x.k.v, x.v.v⟩ x.k x.v (hRX _ hO.bel) hw3
                rw [q1] at this
                unfold spotV at this
                refine this.mono ?_
                rintro e w' ⟨rfl, hs, hg⟩
                exact ⟨rfl, Lib.hid ⟨hO.onOne hJ6 hs hg, (hO.own J hJ6).bx hb1 hg, (hO.own J hJ6).bx hb2 hg⟩⟩)
              have HFIN := Lib.hid (And.intro q2 (Nat.le_trans q3 (Nat.succ_le_succ hLA)))
              clear q1 q2 q3 hcd hRX hw3 hj hrl hLA
              go_upto_region 27 with (fail)
              go_region_held3 (fun w' => w'.cell? ⟨wr.heap.size, 4, none⟩ = some (.slice x.k.a x.k.n x.k.cap) ∧ w'.cell? ⟨wr.heap.size, 5, none⟩ = some (.slice x.v.a x.v.n x.v.cap) ∧ w'.cell? ⟨ws.heap.size, 0, none⟩ = some (.int .i64 rN) ∧ w'.cell? ⟨ws.heap.size, 1, none⟩ = some (.int .i64 lN) ∧ w'.cell? ⟨ws.heap.size, 2, none⟩ = some (.int .i64 x.at_.p))
                (first | go_keep | (go_split_ands; refine ⟨?_, ?_, ?_, ?_, ?_⟩ <;> assumption))
                (first
                  | (go_at_call 9; (with_reducible refine HP1.out.mono ?_)
                     (first | rintro e w1 rfl hQ | rintro e w1 ⟨rfl, hQ⟩)
                     have u4 : w1.cell? ⟨wr.heap.size, 4, none⟩ = some (.slice x.k.a x.k.n x.k.cap) := hQ.out.2.1.cell 4
                     have u5 : w1.cell? ⟨wr.heap.size, 5, none⟩ = some (.slice x.v.a x.v.n x.v.cap) := hQ.out.2.1.cell 5
                     have u0 : w1.cell? ⟨ws.heap.size, 0, none⟩ = some (.int .i64 rN) := hQ.out.2.2.cell 0
                     have u1 : w1.cell? ⟨ws.heap.size, 1, none⟩ = some (.int .i64 lN) := hQ.out.2.2.cell 1
                     have u2 : w1.cell? ⟨ws.heap.size, 2, none⟩ = some (.int .i64 x.at_.p) := hQ.out.2.2.cell 2)
                  | (go_at_call 9; (with_reducible refine (HP2.out w1 hQ.out.1 hQ.out.2.1 hQ.out.2.2).mono ?_)
                     (first | rintro e w2 rfl hQ2 | rintro e w2 ⟨rfl, hQ2⟩)
                     have t4 : w2.cell? ⟨wr.heap.size, 4, none⟩ = some (.slice x.k.a x.k.n x.k.cap) := hQ2.out.2.1.cell 4
                     have t5 : w2.cell? ⟨wr.heap.size, 5, none⟩ = some (.slice x.v.a x.v.n x.v.cap) := hQ2.out.2.1.cell 5
                     have t0 : w2.cell? ⟨ws.heap.size, 0, none⟩ = some (.int .i64 rN) := hQ2.out.2.2.cell 0
                     have t1 : w2.cell? ⟨ws.heap.size, 1, none⟩ = some (.int .i64 lN) := hQ2.out.2.2.cell 1
                     have t2 : w2.cell? ⟨ws.heap.size, 2, none⟩ = some (.int .i64 x.at_.p) := hQ2.out.2.2.cell 2))
              go_wp2_with fail
              go_meet
              case rel => exact ⟨_, _, Lib.hid ⟨hQ2.out.1, HFIN.out.1, HFIN.out.2⟩⟩
          case rest =>
            obtain ⟨LA', LO', hQ⟩ := hcut
            have cL1 := line12 hQ.out.1.all HWR.out HWL.out
            clear c0 c4 c5 y0 y1 y2 gJ g2 g21 HXC HYC
            go_wp2_with (refine cL1.mono ?_)
            rintro e w5 hL
            obtain ⟨⟨n, qa, qb, qc, qd, ks, vs, rfl, hN, -⟩, hb5⟩ := hL
            have HO5 := Lib.hid (hQ.out.1.to hb5)
            have HN1 := Lib.hid hN
            have hJ6 : J < 6 := by omega
            have cL2 := line12 (HO5.out.own J hJ6) HWR.out HWL.out
            clear hN hb5 cL1
            go_wp2_with (refine cL2.mono ?_)
            rintro e w6 hL
            obtain ⟨⟨n2, pa, pb, pc, pd, ks2, vs2, rfl, hN2, -⟩, hb6⟩ := hL
            have HO6 := Lib.hid (HO5.out.to hb6)
            obtain rfl : n2 = n := by
              have e1 := hQ.out.2.1.2 rN lN HRL.out.1 HRL.out.2
              rw [← HJ.out.1] at e1
              rw [e1] at hN2
              exact (grp_line hN2).uniq HN1.out
            have HNX : Hid (Own12 w sbA mbA g sb mb LA' LO' w6 ∧ Split LA' LO' ∧ LA'.length ≤ i + 1) := Lib.hid ⟨HO6.out, hQ.out.2.1, hQ.out.2.2⟩
            clear hN2 hb6 cL2
            go_wp2
            go_roundw
            case rel => exact ⟨i + 1, LA', LO', by omega, rfl, HNX⟩
            case measure => simp [intOf]; omega
        · obtain rfl : i = xn := by omega
          have hfin := HI.out.2.1.sum
          have HO := Lib.hid HI.out.1
          have HSU := Lib.hid hfin
          have hLL := HI.out.2.2
          have HLL : Hid (LA.length ≤ 60 ∧ ∀ j, j ≤ 6 → sumO LO j ≤ LA.length) := Lib.hid ⟨by omega, fun j hj => by
            rw [← hfin]
            have mono : ∀ a b, a ≤ b → sumO LO a ≤ sumO LO b := by
              intro a b hab
              induction b with
              | zero => obtain rfl : a = 0 := by omega
                        exact Nat.le_refl _
              | succ b ih =>
                rcases Nat.lt_or_ge a (b + 1) with h | h
                · have := ih (by omega)
                  simp only [sumO]; omega
                · obtain rfl : a = b + 1 := by omega
                  exact Nat.le_refl _
            exact mono j 6 hj⟩
          clear hfin hLL HI hlt hi
          go_upto_region 35 with (fail)
          go_loopw [20, 21] (fun nv jv wx => ∃ j : Nat, j ≤ 6 ∧ jv = .int .i64 j ∧ nv = .int .i64 (sumO LO j : Nat) ∧ Hid (Own12 w sbA mbA g sb mb LA LO wx)) (fun _ jv _ => 6 - (intOf jv).toNat)
          case atStart => exact ⟨0, by omega, rfl, rfl, HO⟩
          case round =>
            obtain ⟨j, hj, rfl, rfl, HJ⟩ := hrel
            clear HO
            by_cases hj6 : j < 6
            · have hj7 : (j : Int) < 6 := by omega
              have gj : wr.cell? ⟨g, j, none⟩ = some (.pointer (some ⟨sb j, 0, none⟩)) := HJ.out.row j hj6
              have cL := len12 (HJ.out.own j hj6)
              have hj1 : IntKind.i64.wrap ((j : Int) + 1) = ((j + 1 : Nat) : Int) := by rw [IntWalk.i64_in _ (by omega)]; rfl
              have hsm : IntKind.i64.wrap ((sumO LO j : Nat) + ((LO j).length : Int)) = ((sumO LO (j + 1) : Nat) : Int) := by
                have h1 := HLL.out.2 (j + 1) (by omega)
                have h2 := HLL.out.1
                simp only [sumO] at h1 ⊢
                rw [IntWalk.i64_in _ (by omega)]; rfl
              go_wp2_with (refine cL.mono ?_)
              (first | rintro e wy rfl rfl | rintro e wy ⟨rfl, rfl⟩)
              clear cL
              go_wp2
              go_roundw
              case rel => exact ⟨j + 1, by omega, rfl, rfl, HJ⟩
              case measure => simp [intOf]; omega
            · obtain rfl : j = 6 := by omega
              have cL := len12 HJ.out.all
              have hb := HJ.out.bel
              rw [← HSU.out] at cL
              clear hj hj6
              go_wp2_with (refine cL.mono ?_)
              (first | rintro e wy rfl rfl | rintro e wy ⟨rfl, rfl⟩)
              clear cL
              go_wp2
              go_ret
              exact ⟨rfl, hb⟩

set_option maxRecDepth 100000 in
theorem lifted (os : Os) (started : os.Started) (H : Type) (enc : TypeId × Value → H) :
    ReturnsInHanded {} Try.checked os 6 .any (Rows.cacheApartSpec.pre6 enc Try.prog Try.f6 Rows.cacheApartRow.domain false) (Rows.cacheApartSpec.post enc Try.prog Try.f6 false true false false) := by
  refine returnsInHanded_of_change (C := Try.checked) own started (by kernel_rfl) Try.func6
    (ChangeSpec.witness6 (enc := enc) (C := Try.checked) false ⟨#[], #[.slice none 0 0], []⟩ 8 (by kernel_rfl) (by kernel_rfl) (by kernel_rfl) (by kernel_rfl)) ?_
  intro W base args ds gs before hval0 hW hcnd _
  have hval : ∀ (j : Nat) t v, Try.f6.params[j]? = some t → args[j]? = some v → Value.okWide Try.prog W .any base t v := hval0
  have hW' := hW
  obtain ⟨p, q, hA0, hV, rfl, hfz, hnd⟩ := hW
  have hA : DataW.TrodAll enc Try.prog W 0 (fun _ => true) true Try.f6.params.toList args.toList ds p := hA0
  rw [Try.params6] at hA hval
  obtain ⟨v0, vs0, d0, ds0, p0, q0, hargs, rfl, rfl, h0, r0⟩ := trodAll_cons hA
  obtain ⟨rfl, rfl, rfl⟩ := trodAll_nil r0
  obtain rfl : args = #[v0] := by cases args; simp_all
  obtain ⟨rfl, rfl⟩ := trodVars_none hV
  have k0 := h0
  have lt0 : ∀ x ∈ p0, x.block < W.heap.size := by obtain ⟨m, hm⟩ := k0; exact DataW.trod_lt m _ _ _ hm
  obtain ⟨x0, rfl, w0⟩ := open_rowAct12 (hval 0 22 v0 rfl rfl) h0
  clear hA0 hval0
  refine (walk x0 W w0).mono fun e W' ⟨he, bel⟩ => ?_
  subst he
  exact ⟨_, rfl, _, _, _, [], _, [], hW', trodAll_mk1 (shut_bool Try.underlying4 _), (trodAll_cons_mk (Below.trod laidOut (by kernel_rfl) (of_decide_eq_true (by kernel_rfl)) k0 bel lt0) trodAll_mk0), rfl, bel.frame _, fun h => by cases h⟩

theorem over : Rows.cacheApartRow.holds Try.pinned (OpenSpec.ofChange Rows.cacheApartSpec) :=
  OpenClaim.holds_of_wide 6 Try.f6 rfl rfl rfl rfl rfl rfl rfl ⟨rfl, rfl, rfl, rfl, rfl⟩ rfl rfl rfl rfl rfl (by kernel_rfl) Try.func6 (by kernel_rfl)
    (of_decide_eq_true (by kernel_rfl)) (by unfold Func.isWrapper; first | (rw [if_pos (by decide +kernel)]; kernel_rfl) | (rw [if_neg (by decide +kernel)]; exact ⟨rfl, rfl⟩))
    (fun os started H enc _ => lifted os started H enc)

/-- ████ THE STATEMENT ████ -/
theorem proved : Rows.CacheApartSaid := over
#print axioms proved
end Go.Proofs.Ytglolgbicgmcpaa.cacheApart
