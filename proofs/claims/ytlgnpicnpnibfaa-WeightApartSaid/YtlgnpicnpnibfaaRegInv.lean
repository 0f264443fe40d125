/-
  A region that draws its order, by what holds of the operations that have come up, whatever the order.
-/
import Derived.Test.YtlgnpicnpnibfaaRegMade
namespace Go.Proofs.Ytlgnpicnpnibfaa
open Go.RowKit
set_option linter.unusedVariables false

section
variable {P : Program} {ops : Array Oper} {Q : Exit → Act → World → Prop} {a0 : Act} {w0 : World}

theorem region_inv {id : Nat} (I : Array Bool → Act → World → Prop) (hm : P.follows .mixedOrders = true)
    (back : ((List.range ops.size).all fun i => ((ops[i]?.map waitsOn).getD []).all fun k => decide (k < i)) = true)
    (h0 : I (Array.replicate ops.size false) a0 w0.drew)
    (hstep : ∀ (i : Nat) (o : Oper) (listed : Array Bool) (a : Act) (w : World), ops[i]? = some o → listed.size = ops.size → listed.getD i false = false → (∀ k ∈ waitsOn o, listed.getD k false = true) → I listed a w → wpOp P ops Q i (fun a' w' => I (listed.setIfInBounds i true) a' w') a w)
    (hend : ∀ listed a w, listed.size = ops.size → (∀ j, j < ops.size → listed.getD j false = true) → I listed a w → Q .normal a w) :
    (Code.region id ops true).wp P Q a0 w0 := by
  refine wp_region_any hm ?_
  have main : ∀ (fuel : Nat) (listed : Array Bool) (a : Act) (w : World), listed.size = ops.size → listed.toList.countP (fun b => !b) = fuel → I listed a w → wpAny P .any ops Q fuel listed a w := by
    intro fuel
    induction fuel with
    | zero =>
      intro listed a w hs hc h
      rw [List.countP_eq_zero] at hc
      have hall : ∀ j, j < ops.size → listed.getD j false = true := by
        intro j hj
        have hin : listed[j]'(by omega) ∈ listed.toList := Array.getElem_mem_toList _
        have := hc _ hin
        simp [Array.getD, hs, hj] at this ⊢
        exact this
      refine ⟨?_, hend listed a w hs hall h⟩
      apply List.eq_nil_iff_forall_not_mem.2
      intro k hk
      obtain ⟨hun2, o2, ho2, _⟩ := mem_ready.1 hk
      have hkl := (Array.getElem?_eq_some_iff.1 ho2).1
      have h3 := hall k hkl
      have hks : k < listed.size := by omega
      simp only [Array.getD, hks, dif_pos] at hun2 h3
      rw [h3] at hun2; cases hun2
    | succ fuel ih =>
      intro listed a w hs hc h
      refine ⟨fun hr => ?_, fun i hi => ?_⟩
      · exfalso
        have hex : ∃ i, i < ops.size ∧ listed.getD i false = false := by
          apply Classical.byContradiction
          intro hno
          have : listed.toList.countP (fun b => !b) = 0 := by
            rw [List.countP_eq_zero]
            intro b hb
            obtain ⟨j, hj, rfl⟩ := List.getElem_of_mem hb
            have hj2 : j < listed.size := by simpa using hj
            have := not_exists.1 hno j
            have h4 : ¬ listed.getD j false = false := fun e => this ⟨by omega, e⟩
            simp [Array.getD, hj2] at h4
            simpa using h4
          omega
        have hleast : ∃ i, i < ops.size ∧ listed.getD i false = false ∧ ∀ k, k < i → listed.getD k false = true := by
          obtain ⟨i, hi1, hi2⟩ := hex
          induction i using Nat.strongRecOn with
          | _ i ihi =>
            by_cases hall : ∀ k, k < i → listed.getD k false = true
            · exact ⟨i, hi1, hi2, hall⟩
            · obtain ⟨k, hk⟩ := Classical.not_forall.1 hall
              obtain ⟨hk1, hk2⟩ := Classical.not_imp.1 hk
              exact ihi k hk1 (by omega) (by simpa using hk2)
        obtain ⟨i, hi1, hi2, hi3⟩ := hleast
        have hio : ops[i]? = some (ops[i]'hi1) := Array.getElem?_eq_getElem _
        have hmem : i ∈ Region.ready .any ops listed := by
          refine mem_ready.2 ⟨?_, _, hio, fun e he hb => ?_⟩
          · simp [Array.getD, show i < listed.size by omega] at hi2 ⊢; exact hi2
          · have h1 := List.all_eq_true.1 back i (List.mem_range.2 hi1)
            rw [hio] at h1
            simp only [Option.map_some, Option.getD_some] at h1
            have h2 := List.all_eq_true.1 h1 e.on (List.mem_map.2 ⟨e, List.mem_filter.2 ⟨by simpa using he, hb⟩, rfl⟩)
            exact hi3 _ (of_decide_eq_true h2)
        rw [hr] at hmem; cases hmem
      · obtain ⟨hun, o, ho, hall⟩ := mem_ready.1 hi
        have hil := (Array.getElem?_eq_some_iff.1 ho).1
        have hsz : i < listed.size := by omega
        have hun2 : listed.getD i false = false := by simp [Array.getD, hsz] at hun ⊢; exact hun
        have hw : ∀ k ∈ waitsOn o, listed.getD k false = true := by
          intro k hk
          obtain ⟨e, he, rfl⟩ := List.mem_map.1 hk
          obtain ⟨h1, h2⟩ := List.mem_filter.1 he
          exact hall e (by simpa using h1) h2
        have hcount : (listed.setIfInBounds i true).toList.countP (fun b => !b) = fuel := by
          have hget : listed.toList[i]'(by simpa using hsz) = false := by simp [Array.getD, hsz] at hun; simpa using hun
          rw [Array.toList_setIfInBounds, List.countP_set (h := by simpa using hsz), hc, hget]
          simp
        exact wpOp_mono (fun a' w' h' => ih _ a' w' (by simpa using hs) hcount h') (hstep i o listed a w ho hs hun2 hw h)
  exact main ops.size _ a0 _ (by simp) (by rw [Array.toList_replicate, List.countP_replicate]; simp) h0

/-- nothing but the slots ds of the frame has changed -/
def Kept7 (ds : List Nat) (A0 a : Act) : Prop := (∀ d, d ∉ ds → a.tmps.getD d undef = A0.tmps.getD d undef) ∧ a.tmps.size = A0.tmps.size ∧ a.defers = A0.defers
theorem Kept7.put {ds : List Nat} {A0 a : Act} (h : Kept7 ds A0 a) {d : Nat} (hd : d ∈ ds) (hs : d < A0.tmps.size) (v : Value) : Kept7 ds A0 (a.put (some d) v) := by
  refine ⟨fun t ht => ?_, by simpa [Act.put] using h.2.1, h.2.2⟩
  rw [tmps_put _ _ _ _ (by rw [h.2.1]; exact hs), if_neg (fun e => ht (by rw [e]; exact hd))]
  exact h.1 t ht
theorem Kept7.get {ds : List Nat} {A0 a : Act} (h : Kept7 ds A0 a) {d : Nat} (hs : d < A0.tmps.size) (t : Nat) (v : Value) : (a.put (some d) v).tmps.getD t undef = if t = d then v else a.tmps.getD t undef := tmps_put _ _ _ _ (by rw [h.2.1]; exact hs)

/-- the same, the frame's other slots being kept -/
theorem region_inv2 {id : Nat} (ds : List Nat) (I : Array Bool → Act → World → Prop) (hm : P.follows .mixedOrders = true)
    (back : ((List.range ops.size).all fun i => ((ops[i]?.map waitsOn).getD []).all fun k => decide (k < i)) = true)
    (h0 : I (Array.replicate ops.size false) a0 w0.drew)
    (hstep : ∀ (i : Nat) (o : Oper) (listed : Array Bool) (a : Act) (w : World) (K : Act → World → Prop), ops[i]? = some o → listed.size = ops.size → listed.getD i false = false → (∀ k ∈ waitsOn o, listed.getD k false = true) → I listed a w → Kept7 ds a0 a →
      (∀ a' w', I (listed.setIfInBounds i true) a' w' → Kept7 ds a0 a' → K a' w') → wpOp P ops Q i K a w)
    (hend : ∀ listed a w, listed.size = ops.size → (∀ j, j < ops.size → listed.getD j false = true) → I listed a w → Kept7 ds a0 a → Q .normal a w) :
    (Code.region id ops true).wp P Q a0 w0 :=
  region_inv (fun l a w => I l a w ∧ Kept7 ds a0 a) hm back ⟨h0, fun _ _ => rfl, rfl, rfl⟩
    (fun i o listed a w ho hs hun hw h => hstep i o listed a w _ ho hs hun hw h.1 h.2 (fun a' w' h1 h2 => ⟨h1, h2⟩))
    (fun listed a w hs hl h => hend listed a w hs hl h.1 h.2)

/-- the frame behind such a region -/
def setAll (kv : List (Nat × Value)) (t : Array Value) : Array Value := kv.foldl (fun t p => t.setIfInBounds p.1 p.2) t
theorem setAll_size (kv : List (Nat × Value)) (t : Array Value) : (setAll kv t).size = t.size := by
  unfold setAll
  induction kv generalizing t with
  | nil => rfl
  | cons m l ih => rw [List.foldl_cons, ih]; simp
theorem setAll_other (kv : List (Nat × Value)) (t : Array Value) (d : Nat) (h : ∀ p ∈ kv, p.1 ≠ d) : (setAll kv t)[d]? = t[d]? := by
  unfold setAll
  induction kv generalizing t with
  | nil => rfl
  | cons m l ih => rw [List.foldl_cons, ih _ (fun m' hm => h m' (by simp [hm])), Array.getElem?_setIfInBounds, if_neg (h m (by simp))]
theorem setAll_same (kv : List (Nat × Value)) (t : Array Value) (d : Nat) (hd : d < t.size) (v : Value) (h : ∀ p ∈ kv, p.1 = d → p.2 = v) (hx : t[d]? = some v ∨ ∃ p ∈ kv, p.1 = d) : (setAll kv t)[d]? = some v := by
  unfold setAll
  induction kv generalizing t with
  | nil =>
    rcases hx with hx | ⟨m, hm, _⟩
    · exact hx
    · cases hm
  | cons m l ih =>
    rw [List.foldl_cons]
    refine ih _ (by simpa using hd) (fun m' hm => h m' (by simp [hm])) ?_
    by_cases e : m.1 = d
    · left; rw [Array.getElem?_setIfInBounds, if_pos e, if_pos (by rw [e]; exact hd), h m (by simp) e]
    · rcases hx with hx | ⟨m', hm, hd'⟩
      · left; rw [Array.getElem?_setIfInBounds, if_neg e]; exact hx
      · rcases List.mem_cons.1 hm with rfl | hm
        · exact absurd hd' e
        · right; exact ⟨m', hm, hd'⟩
theorem Kept7.frame {ds : List Nat} {A0 a : Act} (h : Kept7 ds A0 a) (kv : List (Nat × Value)) (hv : ∀ p ∈ kv, a.tmps.getD p.1 undef = p.2) (hds : ∀ d ∈ ds, ∃ p ∈ kv, p.1 = d) : a = ⟨setAll kv A0.tmps, A0.defers⟩ := by
  obtain ⟨hf, h1, h2⟩ := h
  obtain ⟨t, dd⟩ := a
  simp only at h1 h2 hf hv
  subst h2
  congr 1
  apply Array.ext_getElem?
  intro d
  by_cases hd : d < t.size
  · by_cases hx : ∃ p ∈ kv, p.1 = d
    · obtain ⟨p, hp, rfl⟩ := hx
      have hv1 := hv p hp
      rw [setAll_same kv A0.tmps p.1 (by omega) p.2 ?_ (.inr ⟨p, hp, rfl⟩)]
      · simp only [Array.getD_eq_getD_getElem?] at hv1
        rw [Array.getElem?_eq_getElem hd] at hv1 ⊢
        simpa using hv1
      · intro q hq he
        rw [← hv p hp, ← hv q hq, he]
    · have hx2 : ∀ p ∈ kv, p.1 ≠ d := fun m hm e => hx ⟨m, hm, e⟩
      rw [setAll_other _ _ _ hx2]
      have hv1 := hf d (fun hdd => hx (hds d hdd))
      simp only [Array.getD_eq_getD_getElem?] at hv1
      rw [Array.getElem?_eq_getElem hd, Array.getElem?_eq_getElem (by omega)] at hv1 ⊢
      simpa using hv1
  · rw [Array.getElem?_eq_none (by omega), Array.getElem?_eq_none (by rw [setAll_size]; omega)]
end

end Go.Proofs.Ytlgnpicnpnibfaa
