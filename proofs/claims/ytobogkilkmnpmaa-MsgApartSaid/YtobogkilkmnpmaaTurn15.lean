/-
  A copy whose numbers are turned one by one leaves the message as it was; right messages of the same bytes are the same.
-/
import Derived.Test.YtobogkilkmnpmaaLaw15
namespace Go.Proofs.Ytobogkilkmnpmaa
open Go.RowKit Go.Maps
set_option linter.unusedVariables false

/-- the copy y of x, of whose list i numbers are turned -/
structure Turn15 (w0 : World) (x b y : Ms15) (ab bb cb : Nat) (i : Nat) (w : World) : Prop where
  bel : Below w0.heap.size w0 w
  X : Box w ab 24 x.cells.toArray
  B : Box w bb 24 b.cells.toArray
  C : Box w cb 24 y.cells.toArray
  row : ∃ vs : List Int, vs.length = y.li.n ∧ (∀ z ∈ vs, (Lit.int .i32 z).wf = true) ∧ (0 < y.li.n → ∃ gb off cs, y.li.a = some ⟨gb, off, none⟩ ∧ w0.heap.size ≤ gb ∧ Box w gb 21 cs ∧ ∀ j, j < y.li.n → cs[off + j]? = some (.int .i32 (vs.getD j 0))) ∧ (i = 0 → vs = y.li.v) ∧ (0 < i → vs.getD 0 0 ≠ y.li.v.getD 0 0)
theorem box_unlike {w : World} {g h : Nat} {T T2 : TypeId} {cs ds : Array Value} (h1 : Box w g T cs) (h2 : Box w h T2 ds) (hT : T ≠ T2) : g ≠ h := fun e => by
  subst e
  have := h1.symm.trans h2
  simp only [Option.some.injEq, Obj.cells.injEq] at this
  exact hT this.2.1
theorem Turn15.start {w0 w : World} {x b y : Ms15} {ab bb cb : Nat} (hb : Below w0.heap.size w0 w) (hX : Box w ab 24 x.cells.toArray) (hB : Box w bb 24 b.cells.toArray) (hC : Box w cb 24 y.cells.toArray)
    (hy : y.In w) (hn : ∀ a, y.li.a = some a → w0.heap.size ≤ a.block) (ht : ThT 21 w y.li.a) : Turn15 w0 x b y ab bb cb 0 w := by
  refine ⟨hb, hX, hB, hC, y.li.v, hy.li.1.1, hy.li.1.2.2.1, fun h0 => ?_, fun _ => rfl, fun h => by omega⟩
  obtain ⟨gb, off, ha, hc⟩ := hy.li.1.2.2.2 h0
  obtain ⟨cs, hcs⟩ := ht _ ha
  refine ⟨gb, off, cs, ha, hn _ ha, hcs, fun j hj => ?_⟩
  have := hc j hj
  rw [Box.cell hcs] at this
  exact this
theorem set_getD (vs : List Int) (j : Nat) (z : Int) (h : j < vs.length) : (vs.set j z).getD j 0 = z := by
  rw [List.getD_eq_getElem?_getD, List.getElem?_set_self h]; rfl
theorem wrap32_ne {v : Int} (h : (Lit.int .i32 v).wf = true) : wrap32 (v + 1) ≠ v := by
  have := wf32 h
  unfold wrap32
  omega
theorem Turn15.step {w0 w : World} {x b y : Ms15} {ab bb cb i : Nat} (h : Turn15 w0 x b y ab bb cb i w) (hi : i < y.li.n) :
    ∃ gb off v, y.li.a = some ⟨gb, off, none⟩ ∧ w.cell? ⟨gb, off + i, none⟩ = some (.int .i32 v) ∧ w.frozen? ⟨gb, off + i, none⟩ = false ∧ -2147483648 ≤ v ∧ v ≤ 2147483647 ∧ Turn15 w0 x b y ab bb cb (i + 1) (w.setCell ⟨gb, off + i, none⟩ (.int .i32 (wrap32 (v + 1)))) := by
  obtain ⟨hb, hX, hB, hC, vs, hl, hw, hr, h0, h1⟩ := h
  obtain ⟨gb, off, cs, ha, hg, hcs, hcell⟩ := hr (by omega)
  have hil : i < vs.length := by omega
  have hvi : (Lit.int .i32 (vs.getD i 0)).wf = true := by
    have h2 : vs.getD i 0 = vs[i] := by simp [List.getD, List.getElem?_eq_getElem hil]
    rw [h2]; exact hw _ (List.getElem_mem _)
  have hv := wf32 hvi
  have hgs := grownBy_setCell w gb (off + i) (.int .i32 (wrap32 (vs.getD i 0 + 1)))
  refine ⟨gb, off, vs.getD i 0, ha, by rw [hcs.cell]; exact hcell i hi, hcs.frozen _, hv.1, hv.2, ⟨hb.grown hgs hb.size (fun k e => by cases e; exact hg), hX.kept hgs (by have := box_unlike hX hcs (by decide); simpa using this), hB.kept hgs (by have := box_unlike hB hcs (by decide); simpa using this), hC.kept hgs (by have := box_unlike hC hcs (by decide); simpa using this), vs.set i (wrap32 (vs.getD i 0 + 1)), by simpa using hl, ?_, fun _ => ⟨gb, off, _, ha, hg, hcs.set _ _, fun j hj => ?_⟩, fun h => by omega, fun _ => ?_⟩⟩
  · intro z hz
    rcases List.mem_or_eq_of_mem_set hz with h2 | h2
    · exact hw z h2
    · rw [h2]; exact wrap32_wf _
  · rw [Array.getElem?_setIfInBounds]
    by_cases e : j = i
    · subst e
      have hlt : off + j < cs.size := (Array.getElem?_eq_some_iff.1 (hcell j hj)).1
      rw [if_pos rfl, if_pos hlt, set_getD _ _ _ hil]
    · rw [if_neg (by omega), hcell j hj, List.getD_eq_getElem?_getD (l := vs.set i _), List.getElem?_set_ne (by omega), ← List.getD_eq_getElem?_getD]
  · by_cases e : i = 0
    · subst e
      rw [set_getD _ _ _ hil]
      have := h0 rfl
      rw [← this]
      exact wrap32_ne hvi
    · rw [List.getD_eq_getElem?_getD, List.getElem?_set_ne e, ← List.getD_eq_getElem?_getD]
      exact h1 (by omega)
/-- behind the last one -/
theorem Turn15.fin {w0 w w9 : World} {x b y : Ms15} {ab bb cb : Nat} (h : Turn15 w0 x b y ab bb cb y.li.n w) (hy : y.In w9) (hv : y.li.v = x.li.v) : ∃ vs : List Int, (withL y ⟨y.li.a, y.li.n, y.li.cap, vs⟩).In w ∧ (0 < y.li.n → sameM x (withL y ⟨y.li.a, y.li.n, y.li.cap, vs⟩) = false ∧ vs.getD 0 0 ≠ x.li.v.getD 0 0) := by
  obtain ⟨hb, hX, hB, hC, vs, hl, hw, hr, h0, h1⟩ := h
  obtain ⟨a0, a1, a2, a3, a4, a5, a6, a7, a8⟩ := hy
  refine ⟨vs, ⟨a0, a1, a2, a3, a4, a5, a6, a7, ⟨⟨hl, a8.1.2.1, hw, fun hn => ?_⟩, a8.2⟩⟩, fun hn => ?_⟩
  · obtain ⟨gb, off, cs, ha, hg, hcs, hcell⟩ := hr hn
    exact ⟨gb, off, ha, fun j hj => by rw [hcs.cell]; exact hcell j hj⟩
  · have h2 := h1 hn
    rw [hv] at h2
    refine ⟨?_, h2⟩
    have hP : ¬ sameP x (withL y ⟨y.li.a, y.li.n, y.li.cap, vs⟩) := fun h3 => h2 (by rw [h3.2.2]; rfl)
    exact decide_eq_false hP

/-- right messages of the same bytes are the same -/
theorem frames_same {x y : Ms15} (hlx : x.li.v.length = x.li.n) (hwx : ∀ z ∈ x.li.v, (Lit.int .i32 z).wf = true) (hrx : rightM x = true) (hly : y.li.v.length = y.li.n) (hwy : ∀ z ∈ y.li.v, (Lit.int .i32 z).wf = true) (hry : rightM y = true) :
    decide (frm x.kind (bodyM (fm x.kind) x) = frm y.kind (bodyM (fm y.kind) y)) = sameM x y := by
  by_cases hP : sameP x y
  · have hb : bodyM (fm x.kind) x = bodyM (fm y.kind) y := by
      have hn : x.li.n = y.li.n := by rw [← hlx, ← hly, hP.2.2]
      have e : ∀ F, bodyM F x = bodyM F y := fun F => by
        have e2 : ∀ j, j ≤ 7 → numsL F x j = numsL F y j := fun j hj => by
          induction j with
          | zero => rfl
          | succ j ih => rw [numsL_step F x j, numsL_step F y j, ih (by omega), hP.2.1 j (by omega)]
        unfold bodyM
        rw [e2 7 (Nat.le_refl _), hn, hP.2.2]
      rw [hP.1, e]
    have h1 : sameM x y = true := decide_eq_true hP
    rw [h1, hP.1, ← hb, hP.1]
    exact decide_eq_true rfl
  · have h1 : sameM x y = false := decide_eq_false hP
    rw [h1]
    apply decide_eq_false
    intro he
    apply hP
    have lx := bodyM_len (fm x.kind) rfl hlx hrx
    have ly := bodyM_len (fm y.kind) rfl hly hry
    obtain ⟨hk, hb⟩ := frm_apart (by omega) (by omega) (congrArg (fun z => z.take (min ((bodyM (fm x.kind) x).length + 12) ((bodyM (fm y.kind) y).length + 12))) he)
    obtain ⟨_, b2, b3⟩ := body_says hlx hwx hrx
    obtain ⟨_, c2, c3⟩ := body_says hly hwy hry
    refine ⟨hk, fun i hi => ?_, ?_⟩
    · rw [← b3 i hi, ← c3 i hi, hb, hk]
    · rw [← b2, ← c2, hb, hk]
theorem sameM_symm (x y : Ms15) : sameM x y = sameM y x := by
  have h : sameP x y ↔ sameP y x := ⟨fun h => ⟨h.1.symm, fun i hi => (h.2.1 i hi).symm, h.2.2.symm⟩, fun h => ⟨h.1.symm, fun i hi => (h.2.1 i hi).symm, h.2.2.symm⟩⟩
  unfold sameM
  by_cases h1 : sameP x y
  · rw [decide_eq_true h1, decide_eq_true (h.1 h1)]
  · rw [decide_eq_false h1, decide_eq_false (fun h2 => h1 (h.2 h2))]

end Go.Proofs.Ytobogkilkmnpmaa
