/-
  The code's Parse.
-/
import Derived.Test.YtlgnpicnpnibfaaGrow7
import Derived.Test.YtlgnpicnpnibfaaParse1
import Derived.Test.YtlgnpicnpnibfaaFault
namespace Go.Proofs.Ytlgnpicnpnibfaa
open Go.RowKit
set_option linter.unusedVariables false

theorem fault_zero {xs : List Int} (h : faultN xs = 0) : xs.take 8 = magicL ∧ (sOf xs).Ok ∧ xs.length = 24 + cnt (sOf xs) ∧ csum (xs.take (20 + cnt (sOf xs))) = n32 (xs.drop (20 + cnt (sOf xs))) := by
  unfold faultN at h
  split at h
  · cases h
  · split at h
    · cases h
    · rename_i hm
      split at h
      · cases h
      · rename_i hok
        split at h
        · cases h
        · split at h
          · cases h
          · split at h
            · cases h
            · rename_i h1 h2 h3
              exact ⟨Classical.not_not.1 hm, Classical.not_not.1 hok, by omega, Classical.not_not.1 h3⟩

set_option maxHeartbeats 1600000 in
set_option maxRecDepth 100000 in
/-- bytes that hold no weights -/
theorem parse_no (a : Option Addr) (n cap : Nat) (xs : List Int) (w : World) (h : Elems .u8 w a n xs) (ha : 24 ≤ n → ∃ b, a = some ⟨b, 0, none⟩) (hcap : n ≤ cap) (hcap2 : cap ≤ 9223372036854775807) (hf : faultN xs ≠ 0) :
    Calls Try.prog 25 #[.slice a n cap] w fun e w' => e = .returned (.tuple #[.agg zwts, .int .i64 (faultN xs : Nat)]) ∧ Below w.heap.size w w' := by
  have hfa := fun W (hB : Below w.heap.size w W) => fault_any a n cap xs W (h.below hB) ha hcap hcap2
  clear h ha
  generalize faultN xs = F at *
  have hF : ((F : Int) != 0) = true := by simp; omega
  go_enter Try.func25, Try.ntmps25
  go_wp2_with fail
  generalize hwa : w.alloc _ = wa
  have XR : Box wa w.heap.size 45 zwts := by rw [← hwa]; exact box_new _ _ _
  have hz : wa.heap.size = w.heap.size + 1 := by rw [← hwa]; simp
  have hB : Below w.heap.size w wa := by rw [← hwa]; exact (Below.refl _ _).alloc (Nat.le_refl _) _
  clear hwa
  refine (hfa wa hB).mono ?_
  rintro e wb ⟨rfl, hb⟩
  have XR2 := XR.bel hb
  have hB2 := hB.trans (hb.mono (by omega))
  have X4 := Lib.hid (XR2.setRow (cs' := zwts))
  have HB4 := Lib.hid (below_setRow (cs := zwts) hB2 (Nat.le_refl _) hB2.size)
  clear XR hB hb hB2 hfa
  go_wp2_with (refine wpList_store_row rfl 45 _ _ rfl (w.heap.size) zwts rfl rfl 45 _ XR2 (by kernel_rfl) rfl (by simp [zwts, Value.oneCell']) ?_)
  exact bodyPost_ret (v := .tuple #[.agg zwts, .int .i64 (F : Nat)]) (results_row_tmp rfl rfl X4.out Try.underlying45 rfl (by kernel_rfl) rfl) rfl ⟨rfl, HB4.out⟩

theorem Elems.same {kd : IntKind} {w W : World} {b n : Nat} {xs : List Int} (h : Elems kd w (some ⟨b, 0, none⟩) n xs) (he : W.heap[b]? = w.heap[b]?) : Elems kd W (some ⟨b, 0, none⟩) n xs := by
  refine ⟨h.1, h.2.1, h.2.2.1, fun hn => ?_⟩
  obtain ⟨b', off', e, hc⟩ := h.2.2.2 hn
  cases e
  refine ⟨b, 0, rfl, fun i hi => ?_⟩
  rw [← hc i hi]
  exact World.cell?_of_block (w := w) he

/-- the k-th number of the weights that a file holds -/
def fileF (xs : List Int) (k : Nat) : Int := sgn8 (xs.getD (20 + k) 0)

set_option maxHeartbeats 3200000 in
set_option maxRecDepth 100000 in
/-- bytes that hold weights -/
theorem parse_yes (b n cap : Nat) (xs : List Int) (w : World) (h : Elems .u8 w (some ⟨b, 0, none⟩) n xs) (hcap : n ≤ cap) (hcap2 : cap ≤ 9223372036854775807) (hf : faultN xs = 0) :
    Calls Try.prog 25 #[.slice (some ⟨b, 0, none⟩) n cap] w fun e w' => GivesW (sOf xs) (fileF xs) e w' ∧ Below w.heap.size w w' := by
  obtain ⟨hm, hok, hlen, _⟩ := fault_zero hf
  have hn := h.1
  have hbl : b < w.heap.size := by
    obtain ⟨b', off', e, hc⟩ := h.2.2.2 (by omega)
    cases e
    exact World.block_lt_of_cell? _ _ (hc 0 (by omega))
  have hfa := fun W (hB : Below w.heap.size w W) => fault_any (some ⟨b, 0, none⟩) n cap xs W (h.below hB) (fun _ => ⟨b, rfl⟩) hcap hcap2
  rw [hf] at hfa
  have HSh := fun W (hB : Below w.heap.size w W) => shapeOf_any b n cap xs W (h.below hB) (by omega) hcap hcap2
  have HE := Lib.hid h
  have HOK := Lib.hid hok
  have HL := Lib.hid hlen
  have h24 : 24 ≤ n := by omega
  have hne : ¬ cap = 20 := by omega
  clear h hm hok hlen hn
  go_enter Try.func25, Try.ntmps25
  go_wp2_with fail
  generalize hwa : w.alloc _ = wa
  have XR : Box wa w.heap.size 45 zwts := by rw [← hwa]; exact box_new _ _ _
  have hz : wa.heap.size = w.heap.size + 1 := by rw [← hwa]; simp
  have hB : Below w.heap.size w wa := by rw [← hwa]; exact (Below.refl _ _).alloc (Nat.le_refl _) _
  clear hwa
  refine (hfa wa hB).mono ?_
  rintro e wb ⟨rfl, hb⟩
  have XR2 := XR.bel hb
  have hB2 := hB.trans (hb.mono (by omega))
  have hz2 := hb.size
  clear XR hb hfa hB
  go_wp2_with fail
  generalize hwc : wb.alloc _ = wc
  have XC : Box wc wb.heap.size 24 #[leftK b n cap 0] := by rw [← hwc]; exact box_new _ _ _
  have XR3 : Box wc w.heap.size 45 zwts := by rw [← hwc]; exact XR2.alloc _
  have hz3 : wc.heap.size = wb.heap.size + 1 := by rw [← hwc]; simp
  have hB3 : Below w.heap.size w wc := by rw [← hwc]; exact hB2.alloc hB2.size _
  clear hwc XR2
  refine (HSh wc hB3).mono ?_
  rintro e wd ⟨rfl, hd⟩
  have XC2 := XC.bel hd
  have XR4 := XR3.bel hd
  have hB4 := hB3.trans (hd.mono (by omega))
  have hz4 := hd.size
  have HE2 := Lib.hid (HE.out.below hB4)
  clear XC XR3 hB3 hd HSh hB2
  go_wp2_with fail
  have hfill := filled_parse (sOf xs) HOK.out wd wb.heap.size 24 (leftK b n cap) (fileF xs) (gainK (rowsL (sOf xs))) XC2 ⟨by decide, by decide⟩ (fun k => by
      unfold fileF
      by_cases hk : 20 + k < xs.length
      · have := wfu8 (HE.out.2.2.1 _ (getD_mem hk))
        exact sgn8_wf _ this.1 this.2
      · rw [List.getD_eq_getElem?_getD, List.getElem?_eq_none (by omega)]
        exact sgn8_wf 0 (by omega) (by omega))
    (fun j i hj hi => gainK_at (rowsL (sOf xs)) j i (by rw [rowsL_len]; exact hj) hi)
    (fun k W hk hbox hkeep => by
      have hbW : Elems .u8 W (some ⟨b, 0, none⟩) n xs := HE2.out.same (hkeep b (by omega) (by omega))
      have hl := HL.out
      have hn := HE.out.1
      exact (parse1_any (gainK (rowsL (sOf xs)) k) wb.heap.size b n cap k xs W hbox hbW (by omega) hcap hcap2).mono fun e w' ⟨h1, h2⟩ => ⟨h1, 0, h2⟩)
  refine hfill.mono ?_
  rintro e wf ⟨⟨G, g, rfl, hIn⟩, hkeep, hbel⟩
  have XR5 : Box wf w.heap.size 45 zwts := (hkeep _ (by omega) (by omega)).trans XR4
  have hB5 := hB4.trans (hbel.mono (by omega))
  generalize hs : sOf xs = s at *
  have X4 := Lib.hid (XR5.setRow (cs' := wval s.l s.w s.h s.i s.v s.p (G 0) g (G (8 * s.l + 1)) (G (8 * s.l + 2))))
  have HB4 := Lib.hid (below_setRow (cs := wval s.l s.w s.h s.i s.v s.p (G 0) g (G (8 * s.l + 1)) (G (8 * s.l + 2))) hB5 (Nat.le_refl _) hB5.size)
  have HIN := Lib.hid (hIn.setRow XR5 (show 45 ≠ 55 by decide) (show 45 ≠ 68 by decide) (wval s.l s.w s.h s.i s.v s.p (G 0) g (G (8 * s.l + 1)) (G (8 * s.l + 2))))
  have HXR := Lib.hid XR5
  clear hIn hkeep hbel XR5 XC2 XR4 hB4 hB5 hfill HE2
  go_wp2_with (refine wpList_store_row rfl 45 _ _ rfl (w.heap.size) (wval s.l s.w s.h s.i s.v s.p (G 0) g (G (8 * s.l + 1)) (G (8 * s.l + 2))) rfl rfl 45 _ HXR.out (by kernel_rfl) rfl (wval_one _ _ _ _ _ _ _ _ _ _) ?_)
  exact bodyPost_ret (v := .tuple #[.agg (wval s.l s.w s.h s.i s.v s.p (G 0) g (G (8 * s.l + 1)) (G (8 * s.l + 2))), .int .i64 0]) (results_row_tmp rfl rfl X4.out Try.underlying45 rfl (by kernel_rfl) rfl) rfl (by subst hs; exact ⟨⟨G, g, rfl, HIN.out⟩, HB4.out⟩)

end Go.Proofs.Ytlgnpicnpnibfaa
