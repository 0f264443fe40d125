/-
  The code's fault: the first error of a file.
-/
import Derived.Test.YtlgnpicnpnibfaaShapeOf
import Derived.Test.YtlgnpicnpnibfaaCount
import Derived.Laws.BytesArg
import Derived.Deep.RegionHeld3
import Derived.Deep.CutRange
namespace Go.Proofs.Ytlgnpicnpnibfaa
open Go.RowKit
set_option linter.unusedVariables false

theorem ba_loop (bs : ByteArray) : ∀ k i r, bs.size - i = k → ByteArray.toList.loop bs i r = r.reverse ++ bs.data.toList.drop i := by
  intro k
  induction k with
  | zero =>
    intro i r h
    unfold ByteArray.toList.loop
    rw [if_neg (by omega), List.drop_eq_nil_of_le (by simp only [Array.length_toList]; have : bs.data.size = bs.size := rfl; omega), List.append_nil]
  | succ k ih =>
    intro i r h
    unfold ByteArray.toList.loop
    rw [if_pos (by omega), ih (i+1) _ (by omega)]
    have hs : bs.data.size = bs.size := rfl
    have hl : i < bs.data.toList.length := by simp only [Array.length_toList]; omega
    have hg : bs.get! i = bs.data.toList[i] := by
      simp only [Array.getElem_toList]
      show bs.data[i]! = _
      rw [getElem!_pos bs.data i (by omega)]
    rw [hg, List.drop_eq_getElem_cons hl, List.reverse_cons, List.append_assoc, List.singleton_append]
theorem ba_toList (bs : ByteArray) : bs.toList = bs.data.toList := by
  unfold ByteArray.toList
  rw [ba_loop bs _ 0 [] rfl]
  rfl
theorem bytes_back : ∀ (xs ys : List Int), (∀ x ∈ xs, 0 ≤ x ∧ x < 256) → (∀ x ∈ ys, 0 ≤ x ∧ x < 256) → (xs.map fun n => UInt8.ofNat n.toNat) = (ys.map fun n => UInt8.ofNat n.toNat) → xs = ys := by
  intro xs
  induction xs with
  | nil => intro ys _ _ h; cases ys with | nil => rfl | cons y ys => simp at h
  | cons x xs ih =>
    intro ys hx hy h
    cases ys with
    | nil => simp at h
    | cons y ys =>
      simp only [List.map_cons, List.cons.injEq] at h
      have h1 := hx x (by simp)
      have h2 := hy y (by simp)
      have e : x = y := by
        have := congrArg UInt8.toNat h.1
        rw [UInt8.toNat_ofNat', UInt8.toNat_ofNat'] at this
        omega
      rw [e, ih ys (fun z hz => hx z (by simp [hz])) (fun z hz => hy z (by simp [hz])) h.2]

theorem magic_toList (xs : List Int) (hb : ∀ x ∈ xs, 0 ≤ x ∧ x < 256) : ((strOfNums xs).toList == [80, 69, 76, 79, 84, 79, 78, 49]) = decide (xs = magicL) := by
  rw [ba_toList, strOfNums_data]
  have e : ([80, 69, 76, 79, 84, 79, 78, 49] : List UInt8) = magicL.map fun n => UInt8.ofNat n.toNat := rfl
  rw [e]
  by_cases h : xs = magicL
  · rw [h]; simp
  · rw [decide_eq_false h]
    apply Bool.eq_false_iff.mpr
    intro h2
    exact h (bytes_back xs magicL hb (by decide) (eq_of_beq h2))

/-- what a file says of its shape -/
def sOf (xs : List Int) : Sz := ⟨hdN xs 0, hdN xs 1, hdN xs 2, hdN xs 3, hdN xs 4, hdN xs 5⟩
open Classical in
/-- the first error of a file (0: none) -/
noncomputable def faultN (xs : List Int) : Nat :=
  if xs.length < 24 then 70 else if xs.take 8 ≠ magicL then 71 else if ¬ (sOf xs).Ok then 30 else if xs.length < 24 + cnt (sOf xs) then 70 else if 24 + cnt (sOf xs) < xs.length then 72
  else if csum (xs.take (20 + cnt (sOf xs))) ≠ n32 (xs.drop (20 + cnt (sOf xs))) then 73 else 0

set_option maxHeartbeats 1600000 in
set_option maxRecDepth 100000 in
theorem fault_short (a : Option Addr) (n cap : Nat) (w : World) (hn : n < 24) : Calls Try.prog 36 #[.slice a n cap] w fun e w' => e = .returned (.int .i64 70) ∧ w = w' := by
  go_enter Try.func36, Try.ntmps36
  go_wp2
  go_ret
  exact ⟨rfl, rfl⟩

set_option maxHeartbeats 1600000 in
set_option maxRecDepth 100000 in
theorem fault_magic (b n cap : Nat) (xs : List Int) (w : World) (h : Elems .u8 w (some ⟨b, 0, none⟩) n xs) (hn : 24 ≤ n) (hcap : n ≤ cap) (hcap2 : cap ≤ 9223372036854775807) (hm : xs.take 8 ≠ magicL) :
    Calls Try.prog 36 #[.slice (some ⟨b, 0, none⟩) n cap] w fun e w' => e = .returned (.int .i64 71) ∧ w = w' := by
  have h8 := h.take 8 (by omega)
  have hb8 : ∀ x ∈ xs.take 8, 0 ≤ x ∧ x < 256 := by
    intro x hx
    have := wfu8 (h8.2.2.1 x hx)
    omega
  have hcv := run_convert_bytes_arg (P := Try.prog) w 24 5 Try.underlying24 Try.underlying5 b 0 8 cap (xs.take 8) h8.1 (fun i hi => by
    obtain ⟨b', off', he, hc⟩ := h8.2.2.2 (by omega)
    cases he
    exact hc i hi) 9 Try.underlying9
  have hmt := magic_toList (xs.take 8) hb8
  rw [decide_eq_false hm] at hmt
  generalize hs : strOfNums (xs.take 8) = str at hcv hmt
  have HS := Lib.hid hs
  have HM := Lib.hid hm
  have HMT := Lib.hid hmt
  clear h h8 hs hm hmt hb8
  go_enter Try.func36, Try.ntmps36
  go_upto_region 4 with (fail)
  · go_wp2
    go_ret
    exact ⟨rfl, rfl⟩
  · rename_i hf _ _ _ _
    rw [HMT.out] at hf
    exact absurd hf (by decide)

set_option maxHeartbeats 1600000 in
set_option maxRecDepth 100000 in
theorem fault_rest (b n cap : Nat) (xs : List Int) (w : World) (h : Elems .u8 w (some ⟨b, 0, none⟩) n xs) (hn : 24 ≤ n) (hcap : n ≤ cap) (hcap2 : cap ≤ 9223372036854775807) (hm : xs.take 8 = magicL) :
    Calls Try.prog 36 #[.slice (some ⟨b, 0, none⟩) n cap] w fun e w' => e = .returned (.int .i64 (faultN xs : Nat)) ∧ Below w.heap.size w w' := by
  have h8 := h.take 8 (by omega)
  have hb8 : ∀ x ∈ xs.take 8, 0 ≤ x ∧ x < 256 := by
    intro x hx
    have := wfu8 (h8.2.2.1 x hx)
    omega
  have hcv := run_convert_bytes_arg (P := Try.prog) w 24 5 Try.underlying24 Try.underlying5 b 0 8 cap (xs.take 8) h8.1 (fun i hi => by
    obtain ⟨b', off', he, hc⟩ := h8.2.2.2 (by omega)
    cases he
    exact hc i hi) 9 Try.underlying9
  have hmt := magic_toList (xs.take 8) hb8
  rw [decide_eq_true hm] at hmt
  generalize hs : strOfNums (xs.take 8) = str at hcv hmt
  have HSh := shapeOf_any b n cap xs w h hn hcap hcap2
  have HE := Lib.hid h
  have HS := Lib.hid hs
  have HM := Lib.hid hm
  have HMT := Lib.hid hmt
  clear h h8 hs hm hmt hb8
  go_enter Try.func36, Try.ntmps36
  go_upto_region 4 with (fail)
  · rename_i hf _ _
    rw [HMT.out] at hf
    exact absurd hf (by decide)
  · refine HSh.mono ?_
    rintro e w1 ⟨rfl, hb1⟩
    have HB1 := Lib.hid hb1
    clear hb1 HSh hcv
    go_wp2_with fail
    generalize hwa : w1.alloc _ = wa
    have hz : wa.heap.size = w1.heap.size + 1 := by rw [← hwa]; simp
    have XA : Box wa w1.heap.size 30 #[.int .i64 (hdN xs 0 : Nat), .int .i64 (hdN xs 1 : Nat), .int .i64 (hdN xs 2 : Nat), .int .i64 (hdN xs 3 : Nat), .int .i64 (hdN xs 4 : Nat), .int .i64 (hdN xs 5 : Nat)] := by rw [← hwa]; exact box_new _ _ _
    have hBa : Below w.heap.size w wa := by rw [← hwa]; exact HB1.out.alloc HB1.out.size _
    clear hwa
    by_cases ok : (sOf xs).Ok
    · have HOK := Lib.hid ok
      have HC := fun W => count_yes (sOf xs) W ok
      have hcl := cnt_le ok
      have HF := Lib.hid (show faultN xs = if n < 24 + cnt (sOf xs) then 70 else if 24 + cnt (sOf xs) < n then 72
          else if csum (xs.take (20 + cnt (sOf xs))) ≠ n32 (xs.drop (20 + cnt (sOf xs))) then 73 else 0 by
        unfold faultN
        rw [HE.out.1, if_neg (by omega), if_neg (by simp [HM.out]), if_neg (by simp [ok])])
      generalize cnt (sOf xs) = c at *
      refine (right_yes (hdN xs 0 : Nat) (hdN xs 1 : Nat) (hdN xs 2 : Nat) (hdN xs 3 : Nat) (hdN xs 4 : Nat) (hdN xs 5 : Nat) wa ok).mono ?_
      rintro e w2 ⟨rfl, hb2⟩
      have X2 := XA.below hb2 (by omega)
      have HB2 := Lib.hid (hBa.trans (hb2.mono hBa.size))
      go_wp2_with (refine wpList_load_row rfl 30 _ rfl w1.heap.size rfl 30 _ (0, 0) _ X2 Try.underlying30 rfl (by kernel_rfl) ?_)
      refine (HC w2).mono ?_
      rintro e w3 ⟨rfl, hb3⟩
      have HB3 := Lib.hid (HB2.out.trans (hb3.mono HB2.out.size))
      clear HC ok X2 XA hb2 hb3
      go_wp2_with fail
      · have e : faultN xs = 70 := by rw [HF.out, if_pos (by omega)]
        go_ret
        exact ⟨by rw [e]; rfl, HB3.out⟩
      · have e : faultN xs = 72 := by rw [HF.out, if_neg (by omega), if_pos (by omega)]
        go_ret
        exact ⟨by rw [e]; rfl, HB3.out⟩
      have e5 : (24 + (c : Int) - 4) = ((20 + c : Nat) : Int) := by omega
      have HE3 := Lib.hid (HE.out.below HB3.out)
      try simp only [e5]
      obtain ⟨m, hm⟩ : ∃ m, 20 + c = m := ⟨_, rfl⟩
      have hnm : n = m + 4 := by omega
      have hmn : m ≤ n := by omega
      have hmc : m ≤ cap := by omega
      have HF0 : Hid (faultN xs = if csum (xs.take m) ≠ n32 (xs.drop m) then 73 else 0) := Lib.hid (by rw [HF.out, if_neg (by omega), if_neg (by omega), hm])
      rw [hm]
      have hne : ¬ cap = m := by omega
      clear hm e5 HF HB2 hBa hz
      have hm4 : n - m = 4 := by omega
      have hWB : Below w3.heap.size w3 ((w3.alloc (.cells #[.slice (some ⟨b, 0, none⟩) m cap] 24)).drew) := ((Below.refl _ _).alloc (Nat.le_refl _) _).drew
      have HSu : Calls Try.prog 11 #[.slice (some ⟨w3.heap.size, 0, none⟩) 1 1] ((w3.alloc (.cells #[.slice (some ⟨b, 0, none⟩) m cap] 24)).drew) fun e w' => e = .returned (.int .u32 (csum (xs.take m) : Nat)) ∧ (w3.alloc (.cells #[.slice (some ⟨b, 0, none⟩) m cap] 24)).drew = w' := by
        have h0 := sum_any (some ⟨w3.heap.size, 0, none⟩) 1 1 [⟨some ⟨b, 0, none⟩, m, cap, xs.take m⟩] _ ((rws_one (T := 24) (⟨some ⟨b, 0, none⟩, m, cap, xs.take m⟩ : Rw) (k := .u8) (w := w3) ⟨HE3.out.take m hmn, hmc, hcap2, ⟨nofun, fun x hx _ => by cases hx; rfl⟩⟩ rfl).below (Below.refl _ _).drew)
        simpa [catR] using h0
      have HTk : Calls Try.prog 46 #[.slice (some ⟨b, m, none⟩) 4 (cap - m)] ((w3.alloc (.cells #[.slice (some ⟨b, 0, none⟩) m cap] 24)).drew) fun e w' => e = .returned (.int .u32 (n32 (xs.drop m) : Nat)) ∧ Below w3.heap.size w3 w' := by
        have hd := (HE3.out.below hWB).drop m hmn
        rw [Nat.zero_add, hm4] at hd
        refine (take32_any b m (cap - m) (xs.drop m) _ hd (by omega) (by omega)).mono ?_
        rintro e w' ⟨rfl, d, rfl⟩
        exact ⟨rfl, below_drewN hWB d⟩
      generalize csum (xs.take m) = S at *
      generalize n32 (xs.drop m) = T at *
      go_region_with (first | (refine HSu.mono ?_; rintro e w' ⟨rfl, rfl⟩) | (refine HTk.mono ?_; rintro e w' ⟨rfl, hb4⟩))
      all_goals go_wp2_with fail
      all_goals
        rename_i hf
        have HB4 := Lib.hid (HB3.out.trans (hb4.mono HB3.out.size))
        first
        | (have hST : S ≠ T := by
             rintro rfl
             simp at hf
           have e : faultN xs = 73 := by rw [HF0.out, if_pos hST]
           go_ret
           exact ⟨by rw [e]; rfl, HB4.out⟩)
        | (have hST : ¬ S ≠ T := by
             intro hne2
             rw [bne_eq_false_iff_eq] at hf
             omega
           have e : faultN xs = 0 := by rw [HF0.out, if_neg hST]
           go_ret
           exact ⟨by rw [e]; rfl, HB4.out⟩)
    · have hd : ∀ k, k < 6 → 0 ≤ (hdN xs k : Int) ∧ (hdN xs k : Int) ≤ 65535 := by
        intro k hk
        have := n16_le (kd := .u8) (HE.out.drop (8 + 2 * k) (by omega))
        unfold hdN
        omega
      have d0 := hd 0 (by omega)
      have d1 := hd 1 (by omega)
      have d2 := hd 2 (by omega)
      have e : faultN xs = 30 := by
        unfold faultN
        rw [HE.out.1, if_neg (by omega), if_neg (by simp [HM.out]), if_pos ok]
      refine (right_no (hdN xs 0 : Nat) (hdN xs 1 : Nat) (hdN xs 2 : Nat) (hdN xs 3 : Nat) (hdN xs 4 : Nat) (hdN xs 5 : Nat) wa ⟨⟨by omega, by omega⟩, ⟨by omega, by omega⟩, by omega, by omega⟩ ok).mono ?_
      rintro e w2 ⟨rfl, hb2⟩
      have HB2 := Lib.hid (hBa.trans (hb2.mono hBa.size))
      go_wp2_with fail
      go_ret
      exact ⟨by rw [e]; rfl, HB2.out⟩

/-- fault, of whatever bytes -/
theorem fault_any (a : Option Addr) (n cap : Nat) (xs : List Int) (w : World) (h : Elems .u8 w a n xs) (ha : 24 ≤ n → ∃ b, a = some ⟨b, 0, none⟩) (hcap : n ≤ cap) (hcap2 : cap ≤ 9223372036854775807) :
    Calls Try.prog 36 #[.slice a n cap] w fun e w' => e = .returned (.int .i64 (faultN xs : Nat)) ∧ Below w.heap.size w w' := by
  have hl := h.1
  by_cases hn : n < 24
  · refine (fault_short a n cap w hn).mono ?_
    rintro e w' ⟨rfl, rfl⟩
    exact ⟨by unfold faultN; rw [if_pos (by omega)]; rfl, Below.refl _ _⟩
  · obtain ⟨b, rfl⟩ := ha (by omega)
    by_cases hm : xs.take 8 = magicL
    · exact fault_rest b n cap xs w h (by omega) hcap hcap2 hm
    · refine (fault_magic b n cap xs w h (by omega) hcap hcap2 hm).mono ?_
      rintro e w' ⟨rfl, rfl⟩
      exact ⟨by unfold faultN; rw [if_neg (by omega), if_pos hm]; rfl, Below.refl _ _⟩

end Go.Proofs.Ytlgnpicnpnibfaa
