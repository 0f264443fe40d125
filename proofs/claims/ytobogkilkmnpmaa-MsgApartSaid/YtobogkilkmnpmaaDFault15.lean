/-
  Contract of the document's Fault of a message's bytes.
-/
import Derived.Test.YtobogkilkmnpmaaDForm15
import Derived.Test.YtobogkilkmnpmaaRead15
namespace Go.Proofs.Ytobogkilkmnpmaa
open Go.RowKit Go.Maps
set_option linter.unusedVariables false
set_option linter.unusedSimpArgs false

/-- the letters of a kind: all but the last may be a number's, the last one alone the list's -/
theorem fl_shape (k : Int) : (∀ i, i < 7 → i < (fl k).length → ((fl k).getD i 0 = 43 ↔ ((fm k).testBit 7 = true ∧ i + 1 = (fl k).length))) ∧ ofs (fm k) 7 = 5 * (if (fm k).testBit 7 then (fl k).length - 1 else (fl k).length) ∧ ((fm k).testBit 7 = true → 0 < (fl k).length) := by
  rcases kind_cases k with rfl | rfl | rfl | rfl | rfl | rfl | rfl | rfl | rfl | rfl | rfl | rfl | rfl | h
  case inr.inr.inr.inr.inr.inr.inr.inr.inr.inr.inr.inr.inr => rw [fl_none h, fm_none h]; exact ⟨fun i _ hi => absurd hi (by simp), rfl, fun h => by simp at h⟩
  all_goals decide
theorem val2 (xs : List Int) (n : Nat) (h : n + 2 ≤ xs.length) : valS ((xs.drop n).take 2) = (xs.getD n 0).toNat * 256 + (xs.getD (n + 1) 0).toNat := by
  have e : (xs.drop n).take 2 = [xs[n], xs[n + 1]] := by
    apply List.ext_getElem
    · simp; omega
    · intro i h1 h2
      have : i = 0 ∨ i = 1 := by simp at h2; omega
      rcases this with rfl | rfl <;> simp
  rw [e]
  simp [valS, List.getD, List.getElem?_eq_getElem (show n < xs.length by omega), List.getElem?_eq_getElem (show n + 1 < xs.length by omega)]

set_option maxHeartbeats 6400000 in
set_option maxRecDepth 100000 in
theorem dfault15 (q : Rw) (w : World) (h : q.In .u8 w) (hn : q.n ≤ 1073741824) :
    Calls Try.prog 16 #[.slice q.a q.n q.cap] w fun e w' => e = .returned (.int .i64 (flt15 q.v : Nat)) ∧ Below w.heap.size w w' := by
  have P1 := dfault14 q w h hn
  unfold FaultE at P1
  have HQ := Lib.hid h
  obtain ⟨qa, gn, qcap, xs⟩ := q
  simp only at P1 hn
  have HXL : Hid (xs.length = gn) := Lib.hid h.1.1
  have hcap : gn ≤ qcap := h.2.1
  clear h
  by_cases hf : flt xs = 0
  · have hle := csz_le (flt_ok hf).1
    have h2 := (flt_ok hf).2.1
    have hl := HXL.out
    have h12 : 12 ≤ gn := by omega
    have hg16 : gn ≤ 1048588 := by omega
    rw [hf] at P1
    have HF15 : Hid (flt15 xs = if okB (fm (knd xs)) (bdy xs) then 0 else 150) := Lib.hid (by unfold flt15; rw [hf]; rfl)
    obtain ⟨b, off, x3, ha, c3, hx3, wx3⟩ := HQ.out.1.at_ (show 3 < gn by omega)
    simp only at ha
    subst ha
    have hx3b := wfu8 wx3
    have hkn : knd xs = x3 := hx3.out
    rw [hkn] at HF15
    obtain ⟨u, hu⟩ : ∃ u, gn - 12 = u := ⟨_, rfl⟩
    have hEb := (HQ.out.1.drop 8 (by show 8 ≤ gn; omega)).take u (by show u ≤ gn - 8; omega)
    have eb : (xs.drop 8).take u = bdy xs := by unfold bdy; rw [← hu, ← hl]
    simp only at hEb
    rw [eb] at hEb
    have F1 := form15 x3
    have HSH := Lib.hid (fl_shape x3)
    have HW := fl_wf x3
    have HZ := fl_zero x3
    have hes : (strL (fl x3)).toList.isEmpty = decide (fm x3 = 0) := by
      rw [strL_toList, List.isEmpty_map]
      by_cases h0 : fm x3 = 0
      · rw [HZ.2 h0, decide_eq_true h0]; rfl
      · rw [decide_eq_false h0]
        apply Bool.eq_false_iff.mpr
        intro h2
        exact h0 (HZ.1 (List.isEmpty_iff.1 h2))
    obtain ⟨f, hfm⟩ : ∃ f, fm x3 = f := ⟨_, rfl⟩
    obtain ⟨bs, hbs⟩ : ∃ bs, bdy xs = bs := ⟨_, rfl⟩
    rw [hfm] at hes HSH HF15
    rw [hbs] at hEb HF15
    obtain ⟨l, hfl⟩ : ∃ l, fl x3 = l := ⟨_, rfl⟩
    rw [hfl] at F1 HSH HW hes
    have LN := run_lenL l
    have IX := Lib.hid (run_indexL l HW.1)
    obtain ⟨nl, hnl⟩ : ∃ nl, l.length = nl := ⟨_, rfl⟩
    rw [hnl] at LN HSH
    have hn7 : nl ≤ 7 := by rw [← hnl]; exact HW.2
    have HNL := Lib.hid hnl
    generalize strL l = S at F1 LN IX hes
    obtain ⟨m, hm⟩ : ∃ m, (if f.testBit 7 then nl - 1 else nl) = m := ⟨_, rfl⟩
    have HSH2 : Hid (ofs f 7 = 5 * m) := Lib.hid (by rw [← hm]; exact HSH.out.2.1)
    have HM : Hid ((f.testBit 7 = true → m + 1 = nl) ∧ (f.testBit 7 = false → m = nl)) := Lib.hid ⟨fun ht => by rw [ht, if_pos rfl] at hm; have := HSH.out.2.2 ht; omega, fun ht => by rw [ht, if_neg (by decide)] at hm; exact hm.symm⟩
    have HBL : Hid (bs.length = u) := Lib.hid hEb.1
    have HEb := Lib.hid hEb
    have s1 : (gn : Int) - 4 = ((gn - 4 : Nat) : Int) := by omega
    obtain ⟨m4, hm4⟩ : ∃ m4, gn - 4 = m4 := ⟨_, rfl⟩
    rw [hm4] at s1
    have s1b : IntKind.i64.wrap (m4 : Int) = (m4 : Int) := IntWalk.i64_in _ (by omega)
    have s1c : IntKind.i64.wrap ((gn : Int) - 4) = (m4 : Int) := by rw [s1]; exact s1b
    have s2 : (8 : Int) ≤ (m4 : Int) := by omega
    have s3 : 8 ≤ m4 := by omega
    have s4 : (m4 : Int) ≤ (qcap : Int) := by omega
    have s5 : m4 ≤ qcap := by omega
    have s6 : m4 - 8 = u := by omega
    have s7 : ¬ qcap = 8 := by omega
    have s8 : ¬ 8 = qcap := by omega
    have s9 : (3 : Int) < (gn : Int) := by omega
    have s10 : 3 < gn := by omega
    have s11 : (0 : Int) ≤ (m4 : Int) := by omega
    have s12 : ¬ (m4 : Int) < 8 := by omega
    have s13 : ¬ m4 < 8 := by omega
    have s14 : (m4 : Int) - 8 = (u : Int) := by omega
    have s15 : IntKind.i64.wrap x3 = x3 := IntWalk.i64_in _ (by omega)
    clear hle h2 hl hx3 wx3 hkn hu eb hfm hbs hfl HW HZ hnl hm hEb hm4 hf
    go_enter Try.func16, Try.ntmps16
    go_wp2_with fail
    refine P1.mono ?_
    rintro e w2 ⟨rfl, hb2⟩
    have HB2 := Lib.hid hb2
    have d3 : w2.cell? ⟨b, off + 3, none⟩ = some (.int .u8 x3) := cell_keep c3 hb2
    have HE2 := Lib.hid (HEb.out.below hb2)
    clear P1 hb2 c3
    have FORM := fun W => F1 W
    clear F1
    cases hz : decide (f = 0) with
    | true =>
      rw [hz] at hes
      have hf0 : f = 0 := of_decide_eq_true hz
      have HZ2 : Hid (flt15 xs = 150) := Lib.hid (by rw [HF15.out]; unfold okB; rw [hf0]; rfl)
      clear hz hf0 LN
      go_wp2_with (go_at_call 17; refine (FORM _).mono ?_; rintro e w2 ⟨rfl, rfl⟩)
      go_ret
      exact ⟨by rw [HZ2.out]; rfl, HB2.out⟩
    | false =>
      rw [hz] at hes
      have HF0 : Hid (f ≠ 0) := Lib.hid (of_decide_eq_false hz)
      clear hz
      have LN2 := Lib.hid LN
      clear LN
      go_wp2_with (go_at_call 17; refine (FORM _).mono ?_; rintro e w2 ⟨rfl, rfl⟩)
      clear FORM hes d3 s1 s1b s1c s2 s3 s4 s5 s6 s7 s8 s9 s10 s11 s12 s13 s14 s15 hcap
      generalize w2 = w5 at *
      go_loopw [6, 7] (fun n' i' wr => ∃ i N d : Nat, i ≤ nl ∧ i' = .int .i64 i ∧ n' = .int .i64 N ∧ N ≤ 20000 ∧ Hid ((i ≤ m ∧ N = 5 * i) ∨ (f.testBit 7 = true ∧ i = nl ∧ 5 * m + 2 ≤ u ∧ cntB f bs ≤ 4096 ∧ N = 5 * m + 2 + 4 * cntB f bs)) ∧ wr = w5.drewN d) (fun _ i' _ => nl - (intOf i').toNat)
      case atStart => exact ⟨0, 0, 0, by omega, rfl, rfl, by omega, Lib.hid (.inl ⟨by omega, by omega⟩), rfl⟩
      case round =>
        obtain ⟨i, N, d, hi, rfl, rfl, hN, hI, rfl⟩ := hrel
        have ln := LN2.out 3 (w5.drewN d)
        by_cases hlt : i < nl
        · have hil : i < l.length := by rw [HNL.out]; exact hlt
          have ix := IX.out i hil (w5.drewN d)
          have hsh := HSH.out.1 i (by omega) hlt
          have hlt2 : (i : Int) < (nl : Int) := by omega
          have hph : i ≤ m ∧ N = 5 * i := by
            rcases hI.out with h1 | h1
            · exact h1
            · omega
          by_cases hc : l.getD i 0 = 43
          · obtain ⟨ht, hin⟩ := hsh.1 hc
            have hm1 := HM.out.1 ht
            obtain rfl : i = m := by omega
            obtain rfl : N = 5 * i := hph.2
            rw [hc] at ix
            by_cases h2 : u < 5 * i + 2
            · have HZ2 : Hid (flt15 xs = 150) := Lib.hid (by
                rw [HF15.out]; unfold okB; rw [ht, if_pos rfl, HSH2.out, decide_eq_false (by rw [HBL.out]; omega : ¬ (5 * i + 2 ≤ bs.length ∧ _ ∧ _))]; simp)
              obtain ⟨M, hM⟩ : ∃ M, 5 * i = M := ⟨_, rfl⟩
              rw [hM] at h2 ⊢
              have g1 : (u : Int) < (M : Int) + 2 := by omega
              have g2 : IntKind.i64.wrap ((M : Int) + 2) = (M : Int) + 2 := IntWalk.i64_in _ (by omega)
              clear hph hsh hI hN hM
              go_wp2_with fail
              go_ret
              exact ⟨by rw [HZ2.out]; rfl, below_drewN HB2.out _⟩
            · obtain ⟨b1, o1, y0, hy, cy0, hy0, wy0⟩ := HE2.out.at_ (show 5 * i < u by omega)
              cases hy
              obtain ⟨b1, o1, y1, hy, cy1, hy1, wy1⟩ := HE2.out.at_ (show 5 * i + 1 < u by omega)
              cases hy
              have hv2 := val2 bs (5 * i) (by rw [HBL.out]; omega)
              rw [hy0.out, hy1.out] at hv2
              have hct : cntB f bs = y0.toNat * 256 + y1.toNat := by unfold cntB; rw [HSH2.out]; exact hv2
              have u0 := wfu8 wy0
              have u1 := wfu8 wy1
              obtain ⟨Y0, rfl⟩ : ∃ Y : Nat, y0 = Y := ⟨y0.toNat, by omega⟩
              obtain ⟨Y1, rfl⟩ : ∃ Y : Nat, y1 = Y := ⟨y1.toNat, by omega⟩
              rw [Int.toNat_natCast, Int.toNat_natCast] at hct
              obtain ⟨K, hK⟩ : ∃ K, Y0 * 256 + Y1 = K := ⟨_, rfl⟩
              rw [hK] at hct
              obtain ⟨M, hM⟩ : ∃ M, 5 * i = M := ⟨_, rfl⟩
              rw [hM] at h2 cy0 cy1 ⊢
              have g1 : ¬ (u : Int) < (M : Int) + 2 := by omega
              have g2 : IntKind.i64.wrap ((M : Int) + 2) = (M : Int) + 2 := IntWalk.i64_in _ (by omega)
              have g3 : (Y0 : Int) * 256 + (Y1 : Int) = (K : Int) := by omega
              have g4 : IntKind.i64.wrap ((Y0 : Int) * 256) = (Y0 : Int) * 256 := IntWalk.i64_in _ (by omega)
              have g5 : IntKind.i64.wrap (K : Int) = (K : Int) := IntWalk.i64_in _ (by omega)
              have g5b : IntKind.i64.wrap ((Y0 : Int) * 256 + (Y1 : Int)) = (K : Int) := by rw [g3]; exact g5
              have g6 : IntKind.i64.wrap (Y0 : Int) = (Y0 : Int) := IntWalk.i64_in _ (by omega)
              have g7 : IntKind.i64.wrap (Y1 : Int) = (Y1 : Int) := IntWalk.i64_in _ (by omega)
              obtain ⟨M1, hM1⟩ : ∃ M1, M + 1 = M1 := ⟨_, rfl⟩
              have g8 : (M : Int) + 1 = (M1 : Int) := by omega
              have g9 : IntKind.i64.wrap (M1 : Int) = (M1 : Int) := IntWalk.i64_in _ (by omega)
              have g9b : IntKind.i64.wrap ((M : Int) + 1) = (M1 : Int) := by rw [g8]; exact g9
              have g10 : M < u := by omega
              have g11 : M1 < u := by omega
              have g12 : (M : Int) < (u : Int) := by omega
              have g13 : (M1 : Int) < (u : Int) := by omega
              rw [hM1] at cy1
              by_cases h4 : 4096 < K
              · have HZ2 : Hid (flt15 xs = 150) := Lib.hid (by
                  rw [HF15.out]; unfold okB; rw [ht, if_pos rfl, HSH2.out, hct, decide_eq_false (by omega : ¬ (_ ∧ K ≤ 4096 ∧ _))]; simp)
                have g14 : (4096 : Int) < (K : Int) := by omega
                clear hph hsh hI hN hM hM1 hK hct hv2 hy0 hy1 wy0 wy1 u0 u1
                go_wp2_with fail
                go_quiet (fail)
                go_wp2
                go_ret
                exact ⟨by rw [HZ2.out]; rfl, below_drewN HB2.out _⟩
              · have g14 : ¬ (4096 : Int) < (K : Int) := by omega
                obtain ⟨N2, hN2⟩ : ∃ N2, M + 2 + 4 * K = N2 := ⟨_, rfl⟩
                have g15 : (M : Int) + 2 + 4 * (K : Int) = (N2 : Int) := by omega
                have g16 : IntKind.i64.wrap (4 * (K : Int)) = 4 * (K : Int) := IntWalk.i64_in _ (by omega)
                have g17 : IntKind.i64.wrap (N2 : Int) = (N2 : Int) := IntWalk.i64_in _ (by omega)
                have g18 : IntKind.i64.wrap ((M : Int) + 2 + 4 * (K : Int)) = (N2 : Int) := by rw [g15]; exact g17
                have hfin : Hid ((i + 1 ≤ i ∧ N2 = 5 * (i + 1)) ∨ (f.testBit 7 = true ∧ i + 1 = nl ∧ M + 2 ≤ u ∧ cntB f bs ≤ 4096 ∧ N2 = M + 2 + 4 * cntB f bs)) := Lib.hid (.inr ⟨ht, hin, by omega, by rw [hct]; omega, by rw [hct]; omega⟩)
                have hN20 : N2 ≤ 20000 := by omega
                clear hph hsh hI hN hM hM1 hK hct hv2 hy0 hy1 wy0 wy1 u0 u1 hN2
                go_wp2_with fail
                go_quiet (fail)
                go_wp2
                go_roundw
                case rel => exact ⟨i + 1, N2, _, by omega, by go_num, by go_num, hN20, hfin, rfl⟩
                case measure => simp [intOf]; omega
          · have hnm : i < m := by
              cases ht : f.testBit 7 with
              | true =>
                have h5 := HM.out.1 ht
                rcases Nat.lt_or_ge i m with h6 | h6
                · exact h6
                · exact absurd (hsh.2 ⟨ht, by omega⟩) hc
              | false => have := HM.out.2 ht; omega
            generalize l.getD i 0 = c at *
            have hb : ((c : Int) != 43) = true := by simp; omega
            have hb2 : ((c : Int) == 43) = false := by simp; omega
            have hfin : Hid ((i + 1 ≤ m ∧ N + 5 = 5 * (i + 1)) ∨ (f.testBit 7 = true ∧ i + 1 = nl ∧ 5 * m + 2 ≤ u ∧ cntB f bs ≤ 4096 ∧ N + 5 = 5 * m + 2 + 4 * cntB f bs)) := Lib.hid (.inl ⟨by omega, by omega⟩)
            have hN5 : N + 5 ≤ 20000 := by omega
            have g1 : IntKind.i64.wrap ((N : Int) + 5) = (N : Int) + 5 := IntWalk.i64_in _ (by omega)
            clear hph hsh hI hc
            go_wp2_with fail
            go_roundw
            case rel => exact ⟨i + 1, N + 5, d, by omega, by go_num, by go_num, hN5, hfin, rfl⟩
            case measure => simp [intOf]; omega
        · obtain rfl : i = nl := by omega
          have hOK : okB f bs = decide (u = N) := by
            unfold okB
            rw [decide_eq_true HF0.out, Bool.true_and]
            have hbl := HBL.out
            have hs2 := HSH2.out
            rcases hI.out with ⟨h1, h2⟩ | ⟨ht, _, h2, h3, h4⟩
            · cases ht : f.testBit 7 with
              | true => have := HM.out.1 ht; omega
              | false =>
                have := HM.out.2 ht
                rw [if_neg (by decide)]
                by_cases hu : u = N
                · rw [decide_eq_true hu, decide_eq_true (by omega)]
                · rw [decide_eq_false hu, decide_eq_false (by omega)]
            · rw [ht, if_pos rfl]
              by_cases hu : u = N
              · rw [decide_eq_true hu, decide_eq_true ⟨by omega, h3, by omega⟩]
              · rw [decide_eq_false hu, decide_eq_false (fun h => hu (by omega))]
          by_cases hu : u = N
          · have HZ2 : Hid (flt15 xs = 0) := Lib.hid (by rw [HF15.out, hOK, decide_eq_true hu]; rfl)
            have hb : ((u : Int) != (N : Int)) = false := by simp; omega
            clear hu hOK hI
            go_wp2_with fail
            go_ret
            exact ⟨by rw [HZ2.out]; rfl, below_drewN HB2.out _⟩
          · have HZ2 : Hid (flt15 xs = 150) := Lib.hid (by rw [HF15.out, hOK, decide_eq_false hu]; rfl)
            have hb : ((u : Int) != (N : Int)) = true := by simp; omega
            clear hu hOK hI
            go_wp2_with fail
            go_ret
            exact ⟨by rw [HZ2.out]; rfl, below_drewN HB2.out _⟩
  · have HZ2 : Hid (flt15 xs = flt xs) := Lib.hid (by unfold flt15; rw [if_pos hf])
    have hf2 : ((flt xs : Int) != 0) = true := by simp; omega
    generalize flt xs = fx at P1 hf hf2 HZ2
    go_enter Try.func16, Try.ntmps16
    go_wp2_with fail
    refine P1.mono ?_
    rintro e w2 ⟨rfl, hb2⟩
    have HB2 := Lib.hid hb2
    clear P1 hb2
    go_wp2_with fail
    go_ret
    exact ⟨by rw [HZ2.out]; rfl, HB2.out⟩

end Go.Proofs.Ytobogkilkmnpmaa
