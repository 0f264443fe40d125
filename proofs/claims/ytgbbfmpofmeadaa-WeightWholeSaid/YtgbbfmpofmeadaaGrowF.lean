/-
  As Filled7 and Grow7, and the array of blocks is new memory: written by a program out of them (tools/gen_growf.py).
-/
import Derived.Test.YtgbbfmpofmeadaaGrow7
namespace Go.Proofs.Ytgbbfmpofmeadaa
open Go.RowKit
set_option linter.unusedVariables false

def FilledF (s : Sz) (f : Nat → Int) (w : World) (c : Nat) (e : Ending) (w' : World) : Prop :=
  (∃ (G : Nat → Nat) (b : Nat), e = .returned (.agg (wval s.l s.w s.h s.i s.v s.p (G 0) b (G (8 * s.l + 1)) (G (8 * s.l + 2)))) ∧ Pool7 s G b (fillV s f (cnt s)) w' ∧ w.heap.size ≤ b) ∧ (∀ q, q < w.heap.size → q ≠ c → w'.heap[q]? = w.heap[q]?) ∧ Below c w w'

set_option maxHeartbeats 6400000 in
set_option maxRecDepth 100000 in
theorem filled_growF (s : Sz) (ok : s.Ok) (w : World) (c : Nat) (Tc : TypeId) (St : Nat → Value) (f : Nat → Int) (gain : Nat → Bool) (hc : Box w c Tc #[St 0]) (hTc : Tc ≠ 56 ∧ Tc ≠ 63) (hf : ∀ k, (Lit.int .i8 (f k)).wf = true) (hg : ∀ j i, j < 8 * s.l + 3 → i < num7 s j → gain (off7 s j + i) = ((rowsL s).getD j default).1)
    (hnx : ∀ k (W : World), k < cnt s → Box W c Tc #[St k] → (∀ q, q < w.heap.size → q ≠ c → W.heap[q]? = w.heap[q]?) → Calls Try.prog 17 #[.bool (gain k), .pointer (some ⟨c, 0, none⟩)] W fun e w' => e = .returned (.int .i8 (f k)) ∧ ∃ d, w' = (W.setCell ⟨c, 0, none⟩ (St (k + 1))).drewN d) :
    Calls Try.prog 16 #[s.val, .func (.func 17) #[] #[.pointer (some ⟨c, 0, none⟩)]] w fun e w' => FilledF s f w c e w' := by
  have bl := fun W => blank_any s ok W
  have hl := ok.bd.1
  have HOK := Lib.hid ok
  clear ok
  have hclt := hc.lt
  obtain ⟨L, W, H, I, V, P⟩ := s
  unfold Sz.val at bl ⊢
  simp only at hl bl
  go_enter Try.func16, Try.ntmps16
  go_wp2_with fail
  generalize hwa : (w.alloc _).alloc _ = wa
  have hBa : Below w.heap.size w wa := by rw [← hwa]; exact ((Below.refl _ _).alloc (Nat.le_refl _) _).alloc (by simp) _
  have hRa : Box wa (w.heap.size + 1) 32 zwts := by rw [← hwa]; exact box_at (by simp) _ _
  have hza : wa.heap.size = w.heap.size + 2 := by rw [← hwa]; simp
  clear hwa
  refine (bl _).mono ?_
  rintro e wb ⟨⟨G, b, cs, he, hG, hd, hbb, hBox, hcsz, hat⟩, hBb⟩
  have HFR : Hid (w.heap.size ≤ b) := Lib.hid (by omega)
  unfold wval at he
  subst he
  have hRb := hRa.bel hBb
  have hB2 := hBa.trans (hBb.mono (by omega))
  have hzb := hBb.size
  clear bl hBa hRa hBb
  simp only at hd hat hcsz
  go_wp2_with fail
  generalize hwc : wb.alloc _ = wc
  have XW : Box wc wb.heap.size 32 (wval L W H I V P (G 0) b (G (8 * L + 1)) (G (8 * L + 2))) := by rw [← hwc]; exact box_new _ _ _
  have hBw : Below wb.heap.size wb wc := by rw [← hwc]; exact (Below.refl _ _).alloc (Nat.le_refl _) _
  have hzc : wc.heap.size = wb.heap.size + 1 := by rw [← hwc]; simp
  clear hwc
  have hR2 := hRb.bel hBw
  have hB3 := hB2.trans (hBw.mono (by omega))
  have hBx := hBox.bel hBw
  have hGw : ∀ j r, (rowsL ⟨L, W, H, I, V, P⟩)[j]? = some r → wa.heap.size ≤ G j ∧ wc.heap[G j]? = some (Z8 r.2) := fun j r hj => ⟨(hG j r hj).1, (hBw.block _ (Array.getElem?_eq_some_iff.1 (hG j r hj).2).1).trans (hG j r hj).2⟩
  have hIn : (mkW ⟨L, W, H, I, V, P⟩ G b (fillV ⟨L, W, H, I, V, P⟩ f 0)).In wc := mkW_in _ HOK.out G b _ wc cs (fun j r hj => by
    have hn : num7 ⟨L, W, H, I, V, P⟩ j = r.2 := by unfold num7; rw [getD_of hj]
    refine ⟨?_, by rw [fillV_len, hn], fillV_wf _ f hf 0 j⟩
    rw [fillV_zero, hn]
    exact z8_mine (hGw j r hj).2) hBx hat
  refine (runs_any (mkW ⟨L, W, H, I, V, P⟩ G b (fillV ⟨L, W, H, I, V, P⟩ f 0)) wc hIn hl.2).mono ?_
  rintro e wd ⟨⟨v, rfl, hown⟩, hBd⟩
  replace hown : wd.ownsRow wc.heap.size 63 2 v (8 * L + 3) ((mkW ⟨L, W, H, I, V, P⟩ G b (fillV ⟨L, W, H, I, V, P⟩ f 0)).runs.flatMap rnc) := hown
  rw [mkW_runs] at hown
  obtain ⟨rg, rcap, cur, hv, hrg, hcur, hrc, _, _, htk⟩ := (hown.2.resolve_left (fun h => by have := h.2; omega))
  subst hv
  have HXR : Hid (Box wd rg 63 cur) := Lib.hid hcur
  have HCU : Hid (∀ j, j < 8 * L + 3 → cur[j * 2]? = some (.slice (some ⟨G j, 0, none⟩) (num7 ⟨L, W, H, I, V, P⟩ j) (num7 ⟨L, W, H, I, V, P⟩ j)) ∧ cur[j * 2 + 1]? = some (.bool ((rowsL ⟨L, W, H, I, V, P⟩).getD j default).1)) := Lib.hid (fun j hj => by
    obtain ⟨e1, e2⟩ := rnc_at ((List.range (8 * L + 3)).map (runG ⟨L, W, H, I, V, P⟩ G (fillV ⟨L, W, H, I, V, P⟩ f 0))) j (by simpa using hj)
    have hgd : ((List.range (8 * L + 3)).map (runG ⟨L, W, H, I, V, P⟩ G (fillV ⟨L, W, H, I, V, P⟩ f 0))).getD j default = runG ⟨L, W, H, I, V, P⟩ G (fillV ⟨L, W, H, I, V, P⟩ f 0) j := by simp [List.getD, hj]
    rw [hgd] at e1 e2
    show _ ∧ _
    rw [← htk, List.getElem?_take_of_lt (by omega), Array.getElem?_toList] at e1 e2
    exact ⟨e1, e2⟩)
  have HXW := Lib.hid (XW.bel hBd)
  have HR := Lib.hid (hR2.bel hBd)
  have hB4 := hB3.trans (hBd.mono (by omega))
  have hzd := hBd.size
  have hrl : rg < wd.heap.size := (Array.getElem?_eq_some_iff.1 hcur).1
  have hGd : ∀ j, j < 8 * L + 3 → wa.heap.size ≤ G j ∧ MineK .i8 wd (G j) 56 (fillV ⟨L, W, H, I, V, P⟩ f 0 j) := fun j hj => by
    obtain ⟨r, hr⟩ : ∃ r, (rowsL ⟨L, W, H, I, V, P⟩)[j]? = some r := ⟨_, List.getElem?_eq_getElem (by rw [rowsL_len]; exact hj)⟩
    have hn : num7 ⟨L, W, H, I, V, P⟩ j = r.2 := by unfold num7; rw [getD_of hr]
    refine ⟨(hGw j r hr).1, ?_⟩
    rw [fillV_zero, hn]
    exact (z8_mine (hGw j r hr).2).below hBd (z8_mine (hGw j r hr).2).lt
  have hcG : ∀ a, a < 8 * L + 3 → c ≤ G a := fun a ha => by have := (hGd a ha).1; omega
  have HF0 : Hid (FillW ⟨L, W, H, I, V, P⟩ wd G c Tc St f (off7 ⟨L, W, H, I, V, P⟩ 0) wd) := Lib.hid ⟨hc.below hB4 hclt, fun j hj => (hGd j hj).2, fun k _ _ _ => rfl, Below.refl _ _⟩
  have hrgc : rg ≠ c := box_ne (w := wd) hcur (hc.below hB4 hclt) hTc.2.symm
  have hrgG : ∀ a, a < 8 * L + 3 → rg ≠ G a := fun a ha => box_ne (w := wd) hcur (mine_box (hGd a ha).2) (show 63 ≠ 56 by decide)
  have hwG : ∀ a, a < 8 * L + 3 → wb.heap.size ≠ G a := fun a ha => box_ne (w := wd) HXW.out (mine_box (hGd a ha).2) (show 32 ≠ 56 by decide)
  have hrG : ∀ a, a < 8 * L + 3 → w.heap.size + 1 ≠ G a := fun a ha => box_ne (w := wd) HR.out (mine_box (hGd a ha).2) (show 32 ≠ 56 by decide)
  have hbG : ∀ a, a < 8 * L + 3 → b ≠ G a := fun a ha => box_ne (w := wd) (hBx.bel hBd) (mine_box (hGd a ha).2) (show 39 ≠ 56 by decide)
  have HNE := Lib.hid (And.intro hrgG (And.intro hwG (And.intro hrG hbG)))
  clear hrgG hwG hrG hbG
  have HB4 := Lib.hid hB4
  have HBX := Lib.hid (hBx.bel hBd)
  have HAT := Lib.hid hat
  have HD := Lib.hid hd
  have HCG := Lib.hid hcG
  have HGD := Lib.hid (fun a ha => (hGd a ha).1)
  have HNX := Lib.hid hnx
  have HG2 := Lib.hid hg
  have hr1 : wc.heap.size ≤ rg := hrg
  clear hc hg hnx hG hd hBox hcsz hat hRb hB2 XW hBw hR2 hB3 hBx hGw hIn hown hcur hrc htk hBd hB4 hGd hcG hrg
  go_wp2_with fail
  go_loopw [14] (fun i' wr => ∃ j : Nat, j ≤ 8 * L + 3 ∧ i' = .int .i64 j ∧ Hid (FillW ⟨L, W, H, I, V, P⟩ wd G c Tc St f (off7 ⟨L, W, H, I, V, P⟩ j) wr)) (fun i' _ => 8 * L + 3 - (intOf i').toNat)
  case atStart => exact ⟨0, by omega, rfl, HF0⟩
  case round =>
    obtain ⟨j, hj, rfl, hF⟩ := hrel
    have hXRr : Box wr rg 63 cur := (hF.out.keep rg hrl hrgc HNE.out.1).trans HXR.out
    by_cases hlt : j < 8 * L + 3
    · have hj3 : j < 8 * (⟨L, W, H, I, V, P⟩ : Sz).l + 3 := hlt
      obtain ⟨u1, u2⟩ := HCU.out j hlt
      have c0 := (hXRr.cell (j * 2)).trans u1
      have c1 := (hXRr.cell (j * 2 + 1)).trans u2
      have hgj := HG2.out j
      have hoff := Lib.hid (off7_succ ⟨L, W, H, I, V, P⟩ j hlt)
      have hlto := fun i hi => off7_lt ⟨L, W, H, I, V, P⟩ j i hlt hi
      have hN : num7 ⟨L, W, H, I, V, P⟩ j ≤ 2232448 := by
        rcases Nat.eq_zero_or_pos (num7 ⟨L, W, H, I, V, P⟩ j) with h0 | h0
        · omega
        · have h1 := hlto (num7 ⟨L, W, H, I, V, P⟩ j - 1) (by omega)
          have h2 := cnt_le HOK.out
          omega
      have HLT := Lib.hid hlto
      have HGJ := Lib.hid (fun i (hi : i < num7 ⟨L, W, H, I, V, P⟩ j) => hgj i hlt hi)
      clear hgj hlto u1 u2 hXRr
      generalize hNN : num7 ⟨L, W, H, I, V, P⟩ j = N at c0 hN HLT HGJ hoff
      generalize ((rowsL ⟨L, W, H, I, V, P⟩).getD j default).1 = GA at c1 HGJ
      have HNN := Lib.hid hNN
      clear hNN
      have hFq := Lib.hid (hF.out.more ((Below.refl wr.heap.size wr).alloc (Nat.le_refl _) (.cells #[.slice (some ⟨G j, 0, none⟩) N N, .bool GA] 63)))
      have hQb := Lib.hid (box_new wr 63 #[.slice (some ⟨G j, 0, none⟩) N N, .bool GA])
      have hqc : wr.heap.size ≠ c := by have := hF.out.bel.size; omega
      have hqG : wr.heap.size ≠ G j := fun e => by have := (hF.out.rows j hj3).lt; omega
      go_wp2_with fail
      generalize wr.alloc _ = w4 at hFq hQb ⊢
      generalize wr.heap.size = Q at hQb hqc hqG ⊢
      clear c0 c1
      go_loopw [21] (fun i' wx => ∃ i : Nat, i ≤ N ∧ i' = .int .i64 i ∧ Hid (FillW ⟨L, W, H, I, V, P⟩ wd G c Tc St f (off7 ⟨L, W, H, I, V, P⟩ j + i) wx) ∧ Hid (Box wx Q 63 #[.slice (some ⟨G j, 0, none⟩) N N, .bool GA])) (fun i' _ => N - (intOf i').toNat)
      case atStart => exact ⟨0, by omega, rfl, hFq, hQb⟩
      case round =>
        obtain ⟨i, hi, rfl, hFi, hQi⟩ := hrel
        by_cases hlt2 : i < N
        · have hin : i < num7 ⟨L, W, H, I, V, P⟩ j := by rw [HNN.out]; exact hlt2
          have hFd : FillW ⟨L, W, H, I, V, P⟩ wd G c Tc St f (off7 ⟨L, W, H, I, V, P⟩ j + i) wr.drew := ⟨hFi.out.cell, hFi.out.rows, hFi.out.keep, hFi.out.bel.drew⟩
          have hcall := HNX.out (off7 ⟨L, W, H, I, V, P⟩ j + i) wr.drew (HLT.out i hlt2) hFi.out.cell (fun q hq hqc2 => (hFi.out.keep q (by have := HB4.out.size; omega) hqc2 (fun a ha e => by have := HGD.out a ha; omega)).trans (HB4.out.block q hq))
          rw [HGJ.out i hlt2] at hcall
          have hQd : Box wr.drew Q 63 #[.slice (some ⟨G j, 0, none⟩) N N, .bool GA] := hQi.out
          have hd := HD.out
          have hcG := HCG.out
          have hQc := hqc
          have hQb := Lib.hid hQd
          have y0 : wr.cell? ⟨Q, 0, none⟩ = some (.slice (some ⟨G j, 0, none⟩) N N) := hQi.out.cell 0
          have y1 : wr.cell? ⟨Q, 1, none⟩ = some (.bool GA) := hQi.out.cell 1
          have i1 : (i : Int) < (N : Int) := by omega
          go_upto_region 8 with (fail)
          refine wp_region_held_drew (S := (fun w' => w'.cell? ⟨Q, 0, none⟩ = some (.slice (some ⟨G j, 0, none⟩) N N) ∧ w'.cell? ⟨Q, 1, none⟩ = some (.bool GA))) (by kernel_rfl) ?_ (fun hHeld => ?_)
          · first | go_keep | (go_split_ands; refine ⟨?_, ?_⟩ <;> assumption)
          refine wpAnyH_take (i := 0) (oi := ⟨some 24, _, _, _, _, _⟩) (v := ?_) rfl (by kernel_rfl) (by kernel_rfl) (by kernel_rfl) (fun _ _ _ h => h) (Or.inl ⟨by rfl, ?hy1⟩) hHeld ?rest1
          case hy1 => (intro W hSw; (try dsimp only at hSw); go_simp; (try with_reducible rfl))
          simp only [Act.put, List.setIfInBounds_toArray, List.set_cons_zero, List.set_cons_succ]
          refine wpAnyH_take (i := 1) (oi := ⟨some 25, _, _, _, _, _⟩) (v := ?_) rfl (by kernel_rfl) (by kernel_rfl) (by kernel_rfl) (fun _ _ _ h => h) (Or.inl ⟨by rfl, ?hy2⟩) hHeld ?rest2
          case hy2 => (intro W hSw; (try dsimp only at hSw); go_simp; (try with_reducible rfl))
          simp only [Act.put, List.setIfInBounds_toArray, List.set_cons_zero, List.set_cons_succ]
          refine wpAnyH_take (i := 2) (oi := ⟨some 26, _, _, _, _, _⟩) (v := ?_) rfl (by kernel_rfl) (by kernel_rfl) (by kernel_rfl) (fun _ _ _ h => h) (Or.inl ⟨by rfl, ?hy3⟩) hHeld ?rest3
          case hy3 => (intro W hSw; (try dsimp only at hSw); go_simp; (try with_reducible rfl))
          simp only [Act.put, List.setIfInBounds_toArray, List.set_cons_zero, List.set_cons_succ]
          refine wpAnyH_take (i := 3) (oi := ⟨some 27, _, _, _, _, _⟩) (v := ?_) rfl (by kernel_rfl) (by kernel_rfl) (by kernel_rfl) (fun _ _ _ h => h) (Or.inl ⟨by rfl, ?hy4⟩) hHeld ?rest4
          case hy4 => (intro W hSw; (try dsimp only at hSw); go_simp; (try with_reducible rfl))
          simp only [Act.put, List.setIfInBounds_toArray, List.set_cons_zero, List.set_cons_succ]
          refine wpAnyH_take (i := 4) (oi := ⟨some 28, _, _, _, _, _⟩) (v := ?_) rfl (by kernel_rfl) (by kernel_rfl) (by kernel_rfl) (fun _ _ _ h => h) (Or.inl ⟨by rfl, ?hy5⟩) hHeld ?rest5
          case hy5 => (intro W hSw; (try dsimp only at hSw); go_simp; (try with_reducible rfl))
          simp only [Act.put, List.setIfInBounds_toArray, List.set_cons_zero, List.set_cons_succ]
          refine wpAnyH_take (i := 5) (oi := ⟨some 29, _, _, _, _, _⟩) (v := ?_) rfl (by kernel_rfl) (by kernel_rfl) (by kernel_rfl) (fun _ _ _ h => h) (Or.inl ⟨by rfl, ?hy6⟩) hHeld ?rest6
          case hy6 => (intro W hSw; (try dsimp only at hSw); go_simp; (try with_reducible rfl))
          simp only [Act.put, List.setIfInBounds_toArray, List.set_cons_zero, List.set_cons_succ]
          refine wpAnyH_ready (rs := [6]) (by kernel_rfl) (by simp) ?_
          refine AllReadyH.cons (o := ⟨some 30, _, _, _, _, _⟩) rfl (fun K hK => ?_) AllReadyH.nil
          go_simp
          ((with_reducible refine hcall.mono ?_); rintro e wB ⟨rfl, dd, hwB⟩; obtain ⟨⟨u0, k0⟩, k1, hF2, hQ2, hQ1, hsz⟩ := hFd.next hj3 hin hTc.1 hd hcG wB dd hwB; have y0 : wB.cell? ⟨Q, 0, none⟩ = some (.slice (some ⟨G j, 0, none⟩) N N) := (hQ1 Q _ _ hQc hQb.out).cell 0; have y1 : wB.cell? ⟨Q, 1, none⟩ = some (.bool GA) := (hQ1 Q _ _ hQc hQb.out).cell 1; clear hwB)
          (try go_wp2_with fail)
          refine hK.out _ _ ?_ (fun hNew => ?_)
          · ((try dsimp only); first | go_keep | (go_split_ands; refine ⟨?_, ?_⟩ <;> assumption))
          clear hK K hHeld
          have hHeld := hNew
          clear hNew
          try simp only [Act.put, List.setIfInBounds_toArray, List.set_cons_zero, List.set_cons_succ]
          refine wpAnyH_take (i := 7) (oi := ⟨some 31, _, _, _, _, _⟩) (v := ?_) rfl (by kernel_rfl) (by kernel_rfl) (by kernel_rfl) (fun _ _ _ h => h) (Or.inl ⟨by rfl, ?hy8⟩) hHeld ?rest8
          case hy8 => (intro W hSw; (try dsimp only at hSw); go_simp; (try with_reducible rfl))
          simp only [Act.put, List.setIfInBounds_toArray, List.set_cons_zero, List.set_cons_succ]
          refine wpAnyH_ready (rs := [8]) (by kernel_rfl) (by simp) ?_
          refine AllReadyH.cons (o := ⟨none, _, _, _, _, _⟩) rfl (fun K hK => ?_) AllReadyH.nil
          go_simp
          have hQ3 := hQ2 Q _ _ hQc hqG hQb.out
          have z0 : (wB.setCell ⟨G j, i, none⟩ (.int .i8 (f (off7 ⟨L, W, H, I, V, P⟩ j + i)))).cell? ⟨Q, 0, none⟩ = some (.slice (some ⟨G j, 0, none⟩) N N) := hQ3.cell 0
          have z1 : (wB.setCell ⟨G j, i, none⟩ (.int .i8 (f (off7 ⟨L, W, H, I, V, P⟩ j + i)))).cell? ⟨Q, 1, none⟩ = some (.bool GA) := hQ3.cell 1
          have HF2 := Lib.hid hF2
          have HQ3 := Lib.hid hQ3
          refine hK.out _ _ ?_ (fun hNew => ?_)
          · exact ⟨z0, z1⟩
          refine wpAnyH_done (by kernel_rfl) ?_ _
          clear hK K hHeld hNew hFd hcall hQd hd hcG hF2 hQ3 hQ2 hQ1 k0 k1 y0 y1 z0 z1 hsz
          go_wp2
          go_roundw
          case rel => exact ⟨i + 1, by omega, by go_num, HF2, HQ3⟩
          case measure => simp [intOf]; omega
        · obtain rfl : i = N := by omega
          have HE : Hid (FillW ⟨L, W, H, I, V, P⟩ wd G c Tc St f (off7 ⟨L, W, H, I, V, P⟩ (j + 1)) wr) := Lib.hid (by rw [hoff.out]; exact hFi.out)
          clear hFi hQi
          go_wp2
          go_roundw
          case rel => exact ⟨j + 1, by omega, by go_num, HE⟩
          case measure => simp [intOf]; omega
    · obtain rfl : j = 8 * L + 3 := by omega
      have hE := hF.out
      rw [show off7 ⟨L, W, H, I, V, P⟩ (8 * L + 3) = cnt ⟨L, W, H, I, V, P⟩ from off7_end ⟨L, W, H, I, V, P⟩] at hE
      have B1 : Box wr wb.heap.size 32 (wval L W H I V P (G 0) b (G (8 * L + 1)) (G (8 * L + 2))) := (hE.keep _ (by omega) (by omega) HNE.out.2.1).trans HXW.out
      have B3 : Box wr (w.heap.size + 1) 32 zwts := (hE.keep _ (by omega) (by omega) HNE.out.2.2.1).trans HR.out
      have B4 : Box wr b 39 cs := (hE.keep b HBX.out.lt (by omega) HNE.out.2.2.2).trans HBX.out
      have gS := grownBy_setRow wr (w.heap.size + 1) (wval L W H I V P (G 0) b (G (8 * L + 1)) (G (8 * L + 2)))
      have X3 := Lib.hid (B3.setRow (cs' := wval L W H I V P (G 0) b (G (8 * L + 1)) (G (8 * L + 2))))
      have hIn2 : Hid (Pool7 ⟨L, W, H, I, V, P⟩ G b (fillV ⟨L, W, H, I, V, P⟩ f (cnt ⟨L, W, H, I, V, P⟩)) (wr.setRow (w.heap.size + 1) (wval L W H I V P (G 0) b (G (8 * L + 1)) (G (8 * L + 2))))) := Lib.hid ⟨fun j hj3 => (hE.rows j hj3).kept gS (by simpa using fun e => HNE.out.2.2.1 j hj3 e.symm), cs, B4.kept gS (by simp; omega), HAT.out⟩
      have hEnd : Hid ((∀ q, q < w.heap.size → q ≠ c → (wr.setRow (w.heap.size + 1) (wval L W H I V P (G 0) b (G (8 * L + 1)) (G (8 * L + 2)))).heap[q]? = w.heap[q]?) ∧ Below c w (wr.setRow (w.heap.size + 1) (wval L W H I V P (G 0) b (G (8 * L + 1)) (G (8 * L + 2))))) := Lib.hid ⟨fun q hq hqc2 => (setRow_other wr _ q _ (by omega)).trans ((hE.keep q (by have := HB4.out.size; omega) hqc2 (fun a ha e => by have := HGD.out a ha; omega)).trans (HB4.out.block q hq)), below_setRow ((HB4.out.mono (by omega)).trans hE.bel) (by omega) (Nat.le_of_lt hE.cell.lt)⟩
      clear hE gS B4 hXRr hF
      go_upto_region 11 with (fail)
      go_wp2_with (first | (refine wpList_load_row rfl 32 _ rfl wb.heap.size rfl 32 _ (0, 0) _ B1 Try.underlying32 rfl (by kernel_rfl) ?_) | (refine wpList_store_row rfl 32 _ _ rfl (w.heap.size + 1) (wval L W H I V P (G 0) b (G (8 * L + 1)) (G (8 * L + 2))) rfl rfl 32 _ B3 (by kernel_rfl) rfl (wval_one _ _ _ _ _ _ _ _ _ _) ?_))
      exact bodyPost_ret (v := .agg (wval L W H I V P (G 0) b (G (8 * L + 1)) (G (8 * L + 2)))) (results_row rfl rfl X3.out Try.underlying32 rfl (by kernel_rfl)) rfl ⟨⟨G, b, rfl, hIn2.out, HFR.out⟩, hEnd.out⟩

def GivesWF (s : Sz) (f : Nat → Int) (w : World) (e : Ending) (w' : World) : Prop := ∃ (G : Nat → Nat) (b : Nat), e = .returned (.tuple #[.agg (mkW s G b (fillV s f (cnt s))).cells, .int .i64 0]) ∧ Pool7 s G b (fillV s f (cnt s)) w' ∧ w.heap.size ≤ b

set_option maxHeartbeats 3200000 in
set_option maxRecDepth 100000 in
theorem grow_fresh (s : Sz) (ok : s.Ok) (x : Nat) (hx : x < 18446744073709551616) (w : World) :
    Calls Try.prog 6 #[s.val, .int .u64 x] w fun e w' => GivesWF s (grownF s x) w e w' ∧ Below w.heap.size w w' := by
  have r1 := fun W => right_yes s.l s.w s.h s.i s.v s.p W ok
  have HOK := Lib.hid ok
  have HX := Lib.hid hx
  clear ok hx
  unfold Sz.val
  go_enter Try.func6, Try.ntmps6
  go_wp2_with fail
  generalize hwa : ((w.alloc _).alloc _).alloc _ = wa
  have hz : wa.heap.size = w.heap.size + 3 := by rw [← hwa]; simp
  have XS : Box wa w.heap.size 25 #[.int .i64 s.l, .int .i64 s.w, .int .i64 s.h, .int .i64 s.i, .int .i64 s.v, .int .i64 s.p] := by rw [← hwa]; exact ((box_new _ _ _).alloc _).alloc _
  have XC : Box wa (w.heap.size + 1) 36 #[.int .u64 (x : Nat)] := by rw [← hwa]; exact (box_at (by simp) _ _).alloc _
  have XR : Box wa (w.heap.size + 1 + 1) 32 zwts := by rw [← hwa]; exact box_at (by simp) _ _
  have hB : Below w.heap.size w wa := by rw [← hwa]; exact (((Below.refl _ _).alloc (Nat.le_refl _) _).alloc (by simp) _).alloc (by simp; omega) _
  clear hwa
  refine (r1 _).mono ?_
  rintro e wb ⟨rfl, hb⟩
  have XS2 := XS.bel hb
  have XC2 := XC.bel hb
  have XR2 := XR.bel hb
  have hB2 := hB.trans (hb.mono (by omega))
  have hz2 := hb.size
  clear XS XC XR hB hb r1
  obtain ⟨c0, c1, c2, c3, c4, c5⟩ := XS2.cells6
  go_wp2_with fail
  clear c0 c1 c2 c3 c4 c5
  have hfill := filled_growF s HOK.out wb (w.heap.size + 1) 36 (fun k => .int .u64 (seedK x k : Nat)) (grownF s x) (gainK (rowsL s)) XC2 ⟨by decide, by decide⟩ (fun k => numK_wf _ _ (seedK_lt x HX.out _))
    (fun j i hj hi => gainK_at (rowsL s) j i (by rw [rowsL_len]; exact hj) hi)
    (fun k W hk hbox _ => by
      have hgr : grownF s x k = numK (gainK (rowsL s) k) (nxt (seedK x k)) := Eq.refl _
      rw [hgr]
      cases gainK (rowsL s) k with
      | true => exact (grow1_true _ _ W hbox).mono fun e w' ⟨h1, h2⟩ => ⟨h1, 0, h2⟩
      | false => exact (grow1_false _ _ W hbox).mono fun e w' ⟨h1, h2⟩ => ⟨h1, 0, h2⟩)
  refine hfill.mono ?_
  rintro e wc ⟨⟨G, b, rfl, hIn, hfr⟩, hkeep, hbel⟩
  have HFR : Hid (w.heap.size ≤ b) := Lib.hid (by omega)
  clear hfr
  have XR3 : Box wc (w.heap.size + 1 + 1) 32 zwts := (hkeep _ (by omega) (by omega)).trans XR2
  have hB3 := hB2.trans (hbel.mono (by omega))
  have gS := grownBy_setRow wc (w.heap.size + 1 + 1) (wval s.l s.w s.h s.i s.v s.p (G 0) b (G (8 * s.l + 1)) (G (8 * s.l + 2)))
  have X4 := Lib.hid (XR3.setRow (cs' := wval s.l s.w s.h s.i s.v s.p (G 0) b (G (8 * s.l + 1)) (G (8 * s.l + 2))))
  have HB4 := Lib.hid (below_setRow (cs := wval s.l s.w s.h s.i s.v s.p (G 0) b (G (8 * s.l + 1)) (G (8 * s.l + 2))) hB3 (show w.heap.size ≤ w.heap.size + 1 + 1 by omega) hB3.size)
  have HIN := Lib.hid (hIn.setRow XR3 (show 32 ≠ 56 by decide) (show 32 ≠ 39 by decide) (wval s.l s.w s.h s.i s.v s.p (G 0) b (G (8 * s.l + 1)) (G (8 * s.l + 2))))
  have HXR := Lib.hid XR3
  clear hIn hkeep hbel XS2 XC2 XR2 hB2 hB3 hfill gS
  go_wp2_with (refine wpList_store_row rfl 32 _ _ rfl (w.heap.size + 1 + 1) (wval s.l s.w s.h s.i s.v s.p (G 0) b (G (8 * s.l + 1)) (G (8 * s.l + 2))) rfl rfl 32 _ HXR.out (by kernel_rfl) rfl (wval_one _ _ _ _ _ _ _ _ _ _) ?_)
  exact bodyPost_ret (v := .tuple #[.agg (wval s.l s.w s.h s.i s.v s.p (G 0) b (G (8 * s.l + 1)) (G (8 * s.l + 2))), .int .i64 0]) (results_row_tmp rfl rfl X4.out Try.underlying32 rfl (by kernel_rfl) rfl) rfl ⟨⟨G, b, rfl, HIN.out, HFR.out⟩, HB4.out⟩


end Go.Proofs.Ytgbbfmpofmeadaa
