/-
  Weights of which one thing is spoilt: what stands in memory, and that they aren't right; the closure that cuts a row short.
-/
import Derived.Test.YtgbbfmpofmeadaaGrow7
import Derived.Test.YtgbbfmpofmeadaaWholes
import Derived.Test.YtgbbfmpofmeadaaClone8
namespace Go.Proofs.Ytgbbfmpofmeadaa
open Go.RowKit
set_option linter.unusedVariables false

/-- all numbers of 8 bits stand -/
def K8 (w w' : World) : Prop := ∀ a z, w.cell? a = some (.int .i8 z) → w'.cell? a = some (.int .i8 z)
theorem K8.below {w w' : World} (hb : Below w.heap.size w w') : K8 w w' := fun a z h => (hb.cell (World.block_lt_of_cell? _ _ h)).trans h
theorem K8.trans {w w1 w2 : World} (h : K8 w w1) (h2 : K8 w1 w2) : K8 w w2 := fun a z e => h2 a z (h a z e)
theorem K8.set {w : World} {g o : Nat} {u v : Value} (hc : w.cell? ⟨g, o, none⟩ = some u) (hu : ∀ z, u ≠ .int .i8 z) : K8 w (w.setCell ⟨g, o, none⟩ v) := fun a z h => by
  by_cases e : a = ⟨g, o, none⟩
  · rw [e, hc] at h
    exact absurd (Option.some.inj h) (hu z)
  · exact (World.cell?_setCell_other _ _ _ _ (fun e2 => e e2.symm)).trans h
theorem elems_k8 {w w' : World} {a : Option Addr} {n : Nat} {xs : List Int} (h : Elems .i8 w a n xs) (hk : K8 w w') : Elems .i8 w' a n xs :=
  ⟨h.1, h.2.1, h.2.2.1, fun h0 => let ⟨b, off, ha, hc⟩ := h.2.2.2 h0; ⟨b, off, ha, fun i hi => hk _ _ (hc i hi)⟩⟩
theorem rw_k8 {w w' : World} {q : Rw} (h : q.In .i8 w) (hk : K8 w w') : q.In .i8 w' := ⟨elems_k8 h.1 hk, h.2⟩
theorem gr_k8 {w w' : World} {g : Gr} (h : g.In8 w) (hk : K8 w w') : g.In8 w' := ⟨elems_k8 h.1 hk, h.2⟩
theorem bk_k8 {w w' : World} {b : Bk7} (h : b.In w) (hk : K8 w w') : b.In w' := by
  obtain ⟨h1, h2, h3, h4, h5, h6, h7, h8⟩ := h
  exact ⟨rw_k8 h1 hk, rw_k8 h2 hk, gr_k8 h3 hk, gr_k8 h4 hk, gr_k8 h5 hk, gr_k8 h6 hk, gr_k8 h7 hk, gr_k8 h8 hk⟩

/-- an array of blocks -/
def ArrB (w : World) (b : Nat) (cs : Array Value) (l : Nat) (bs : List Bk7) : Prop := Box w b 39 cs ∧ bs.length = l ∧ (∀ x ∈ bs, x.In w) ∧ ∀ c, c < l → ∀ k, k < 20 → cs[c * 20 + k]? = (bs.getD c default).cells[k]?
theorem ArrB.keep {w w' : World} {b : Nat} {cs : Array Value} {l : Nat} {bs : List Bk7} (h : ArrB w b cs l bs) (hb : w'.heap[b]? = w.heap[b]?) (hk : K8 w w') : ArrB w' b cs l bs :=
  ⟨hb.trans h.1, h.2.1, fun x hx => bk_k8 (h.2.2.1 x hx) hk, h.2.2.2⟩
theorem ArrB.bks {w : World} {b : Nat} {cs : Array Value} {l : Nat} {bs : List Bk7} (h : ArrB w b cs l bs) (hl : l ≤ 1000) : BksAt w (some ⟨b, 0, none⟩) l bs :=
  ⟨h.2.1, by omega, h.2.2.1, fun _ => ⟨b, 0, rfl, h.1.lt, fun i hi k hk => by rw [Nat.zero_add, h.1.cell]; exact h.2.2.2 i hi k hk⟩⟩
theorem ArrB.bks1 {w : World} {b : Nat} {cs : Array Value} {l : Nat} {bs : List Bk7} (h : ArrB w b cs l bs) (hl : l ≤ 1000) (a : Option Addr) (ha : 1 < l → a = some ⟨b, 20, none⟩) : BksAt w a (l - 1) (bs.drop 1) := by
  refine ⟨by rw [List.length_drop, h.2.1], by omega, fun x hx => h.2.2.1 x (List.mem_of_mem_drop hx), fun h0 => ⟨b, 20, ha (by omega), h.1.lt, fun i hi k hk => ?_⟩⟩
  rw [show 20 + i * 20 + k = (i + 1) * 20 + k by omega, h.1.cell, h.2.2.2 (i + 1) (by omega) k hk]
  simp [List.getD]
/-- one of its cells stored anew -/
theorem ArrB.set {w : World} {b : Nat} {cs : Array Value} {l : Nat} {bs : List Bk7} (h : ArrB w b cs l bs) {c k : Nat} (hc : c < l) (hk : k < 20) (v : Value) (x : Bk7) (hold : ∀ z, (bs.getD c default).cells[k]? ≠ some (.int .i8 z)) (hx : x.In (w.setCell ⟨b, c * 20 + k, none⟩ v)) (hb : ∀ k', k' < 20 → x.cells[k']? = if k' = k then some v else (bs.getD c default).cells[k']?) :
    ArrB (w.setCell ⟨b, c * 20 + k, none⟩ v) b (cs.setIfInBounds (c * 20 + k) v) l (bs.set c x) ∧ K8 w (w.setCell ⟨b, c * 20 + k, none⟩ v) := by
  have hsz : (bs.getD c default).cells.size = 20 := rfl
  have hold2 : cs[c * 20 + k]? = some ((bs.getD c default).cells[k]'(by omega)) := by rw [h.2.2.2 c hc k hk, Array.getElem?_eq_getElem]
  have hlt : c * 20 + k < cs.size := (Array.getElem?_eq_some_iff.1 hold2).1
  have hk8 : K8 w (w.setCell ⟨b, c * 20 + k, none⟩ v) := K8.set ((h.1.cell (c * 20 + k)).trans hold2) (fun z e => hold z (by rw [Array.getElem?_eq_getElem (by omega), e]))
  refine ⟨⟨h.1.set _ _, by rw [List.length_set]; exact h.2.1, fun y hy => ?_, fun c' hc' k' hk' => ?_⟩, hk8⟩
  · rcases List.mem_or_eq_of_mem_set hy with h1 | h1
    · exact bk_k8 (h.2.2.1 y h1) hk8
    · rw [h1]; exact hx
  · have hcl : c < bs.length := by rw [h.2.1]; exact hc
    rw [Array.getElem?_setIfInBounds]
    by_cases e : c * 20 + k = c' * 20 + k'
    · obtain rfl : c = c' := by omega
      obtain rfl : k = k' := by omega
      rw [if_pos rfl, if_pos hlt]
      have := hb k hk
      rw [if_pos rfl] at this
      rw [← this]
      simp [List.getD, hcl]
    · rw [if_neg e]
      by_cases e2 : c = c'
      · subst e2
        have e3 : ¬ k' = k := by omega
        have := hb k' hk'
        rw [if_neg e3] at this
        rw [h.2.2.2 c hc' k' hk', ← this]
        simp [List.getD, hcl]
      · rw [h.2.2.2 c' hc' k' hk']
        simp [List.getD, e2]

/-- and one more -/
theorem ArrB.step {w : World} {b : Nat} {cs : Array Value} {l : Nat} {bs : List Bk7} {x : Bk7} {c : Nat} (h : ArrB w b cs l (bs.set c x)) (hc : c < l) (hcl : c < bs.length) {k : Nat} (hk : k < 20) (v : Value) (x' : Bk7) (hold : ∀ z, x.cells[k]? ≠ some (.int .i8 z)) (hx : ∀ w', K8 w w' → x'.In w') (hb : ∀ k', k' < 20 → x'.cells[k']? = if k' = k then some v else x.cells[k']?) :
    ArrB (w.setCell ⟨b, c * 20 + k, none⟩ v) b (cs.setIfInBounds (c * 20 + k) v) l (bs.set c x') ∧ K8 w (w.setCell ⟨b, c * 20 + k, none⟩ v) := by
  have hg : (bs.set c x).getD c default = x := by simp [List.getD, hcl]
  have hsz : x.cells.size = 20 := rfl
  have hcell : w.cell? ⟨b, c * 20 + k, none⟩ = some (x.cells[k]'(by omega)) := by rw [h.1.cell, h.2.2.2 c hc k hk, hg, Array.getElem?_eq_getElem]
  have hk8 : K8 w (w.setCell ⟨b, c * 20 + k, none⟩ v) := K8.set hcell (fun z e => hold z (by rw [Array.getElem?_eq_getElem (by omega), e]))
  have := h.set hc hk v x' (by rw [hg]; exact hold) (hx _ hk8) (by rw [hg]; exact hb)
  rw [List.set_set] at this
  exact this
/-- a matrix of nothing -/
def gz7 : Gr := ⟨0, 0, none, 0, 0, []⟩
theorem gz_in (w : World) : gz7.In8 w := ⟨Elems.nil_ _ _ _, Nat.le_refl _, by show 0 ≤ _; omega, ⟨fun _ => rfl, fun x e _ => by cases e⟩, by show _ ≤ (0 : Int); omega, by show (0 : Int) ≤ _; omega, by show _ ≤ (0 : Int); omega, by show (0 : Int) ≤ _; omega⟩
theorem gr_r0 {w : World} {g : Gr} (h : g.In8 w) : Gr.In8 w { g with r := 0 } := ⟨h.1, h.2.1, h.2.2.1, h.2.2.2.1, by show _ ≤ (0 : Int); omega, by show (0 : Int) ≤ _; omega, h.2.2.2.2.2.2⟩
theorem gr_c0 {w : World} {g : Gr} (h : g.In8 w) : Gr.In8 w { g with c := 0 } := ⟨h.1, h.2.1, h.2.2.1, h.2.2.2.1, h.2.2.2.2.1, h.2.2.2.2.2.1, by show _ ≤ (0 : Int); omega, by show (0 : Int) ≤ _; omega⟩

/-! ### not right -/
theorem mat_no {r c : Nat} {g : Gr} (h : g.r ≠ r ∨ g.c ≠ c ∨ g.n ≠ r * c) : matB r c g = false := by
  unfold matB
  rcases h with h | h | h
  · rw [decide_eq_false h]; rfl
  · rw [decide_eq_false h]; simp
  · rw [decide_eq_false h]; simp
theorem wt_no {s : Sz} {W : Wt7} (ok : s.Ok) (h6 : W.l = s.l ∧ W.w = s.w ∧ W.h = s.h ∧ W.i = s.i ∧ W.v = s.v ∧ W.p = s.p) (h : matB s.v s.w W.e = false ∨ matB s.v s.w W.hd = false ∨ W.t.n ≠ s.w ∨ W.bn ≠ s.l ∨ ∃ b ∈ W.bs, bkB s b = false) : wholeB W = false := by
  rw [wholeB_ok ok h6]
  unfold wtB
  rcases h with h | h | h | h | ⟨b, hb, h⟩
  · simp [h]
  · simp [h]
  · simp [h]
  · simp [h]
  · have : W.bs.all (bkB s) = false := by
      apply Bool.eq_false_iff.mpr
      intro hh
      have := List.all_eq_true.1 hh b hb
      rw [h] at this
      cases this
    rw [this]
    simp

theorem grownF_wf (s : Sz) (x : Nat) (hx : x < 18446744073709551616) (k : Nat) : (Lit.int .i8 (grownF s x k)).wf = true := numK_wf _ _ (seedK_lt x hx _)
theorem wt_in {w' : World} {W : Wt7} (he : W.e.In8 w') (hh : W.hd.In8 w') (ht : W.t.In .i8 w') (hB : BksAt w' W.ba W.bn W.bs) (h1 : W.bn ≤ W.bcap) (h2 : W.bcap ≤ 9223372036854775807) (h6 : Six64 W) : W.In w' := ⟨he, hh, ht, hB, h1, h2, h6⟩
/-- what is left to say of spoilt weights -/
theorem code_no {W : Wt7} {w : World} {T : TypeId} (hIn : W.In w) (hw : wholeB W = false) : Calls Try.prog 9 #[.slice (some ⟨w.heap.size, 0, none⟩) 1 1] (w.alloc (.cells W.cells T)) fun e w' => e = .returned (.bool false) ∧ Below w.heap.size w w' := by
  have h := code_whole w.heap.size 1 1 [W] _ (wts_one (T := T) W hIn)
  simp only [List.all_cons, List.all_nil, hw, Bool.and_true] at h
  exact h.mono fun e w' ⟨h1, h2⟩ => ⟨h1, ((Below.refl _ _).alloc (Nat.le_refl _) _).trans (h2.mono (by simp))⟩
/-- a place brought into a row -/
theorem rest7 (a : Int) (L : Nat) (hL : 0 < L) : ∃ (r : Int) (K : Nat), a.tmod (L : Int) = r ∧ -(L : Int) < r ∧ r < (L : Int) ∧ (r + (L : Int)).tmod (L : Int) = (K : Int) ∧ (r + (L : Int)) % (L : Int) = (K : Int) ∧ K < L := by
  have h := rest_by a (L : Int) (by omega)
  have h0 := Int.emod_nonneg (a.tmod (L : Int) + (L : Int)) (show (L : Int) ≠ 0 by omega)
  have h1 := Int.emod_lt_of_pos (a.tmod (L : Int) + (L : Int)) (show (0 : Int) < (L : Int) by omega)
  refine ⟨a.tmod (L : Int), ((a.tmod (L : Int) + (L : Int)) % (L : Int)).toNat, rfl, h.1, h.2, ?_, ?_, ?_⟩
  · rw [Int.tmod_eq_emod_of_nonneg (by omega)]; omega
  · omega
  · omega

/-- a row without its last number, in new memory -/
theorem less7 (q : Rw) (w : World) (h : q.In .i8 w) (h1 : 1 ≤ q.n) (hn : q.n ≤ 16777216) :
    Calls Try.prog 7 #[.slice q.a q.n q.cap] w fun e w' => ∃ g : Rw, e = .returned (.slice g.a g.n g.cap) ∧ g.In .i8 w' ∧ g.n = q.n - 1 ∧ Below w.heap.size w w' := by
  obtain ⟨a, n, cap, xs⟩ := q
  simp only at h1 hn ⊢
  have hE : Elems .i8 w a n xs := h.1
  obtain ⟨b, off, x0, rfl, _, _, _⟩ := hE.at_ (show 0 < n by omega)
  obtain ⟨m, hm⟩ : ∃ m, n - 1 = m := ⟨_, rfl⟩
  have hcap : n ≤ cap := h.2.1
  have hcap2 : cap ≤ 9223372036854775807 := h.2.2.1
  have hb : Below w.heap.size w (w.alloc (.cells #[] 56)) := (Below.refl _ _).alloc (Nat.le_refl _) _
  have hown : (w.alloc (.cells #[] 56)).ownsRow w.heap.size 56 1 (.slice (some ⟨w.heap.size, 0, none⟩) 0 0) 0 (([] : List Int).map (.int .i8)) := World.ownsRow_lit (e := 56) (size := 1) w #[] 0 (Nat.le_refl _) (by unfold maxLen; omega) rfl
  obtain ⟨v', w', hr, ho, hg, _⟩ := run_append_elems (P := Try.prog) .i8 _ w.heap.size 27 56 1 (by omega) Try.underlying27 info_i8 _ 0 _ hown (some ⟨b, off, none⟩) m cap (xs.take m) ((hE.take m (by omega)).below hb) (fun e => by cases e) (by omega) (by omega) (by simp)
  have hbw : Below w.heap.size w w' := hb.grown hg (by simp) (fun k hk => (hown.lt k hk).1)
  obtain ⟨g, rfl, hgi, _, hgn, _⟩ := own_rw ho (fun x hx => hE.2.2.1 x (List.mem_of_mem_take (by simpa using hx))) (by omega)
  have HG := Lib.hid (And.intro hgi (And.intro (show g.n = n - 1 by omega) hbw))
  have t1 : (n : Int) - 1 = (m : Int) := by omega
  have t2 : IntKind.i64.wrap (m : Int) = (m : Int) := IntWalk.i64_in _ (by omega)
  have t3 : m ≤ cap := by omega
  have t4 : (m : Int) ≤ (cap : Int) := by omega
  have t5 : (0 : Int) ≤ (m : Int) := by omega
  clear hE h hown ho hg hbw hgi hgn hb hm
  go_enter Try.func7, Try.ntmps7
  go_wp2_with (at_builtin; refine wpList_append_at (by rfl) _ _ _ (by rfl) _ _ (by rfl) (by rfl) hr ?_)
  go_ret
  exact ⟨g, rfl, HG.out.1, HG.out.2.1, HG.out.2.2⟩

end Go.Proofs.Ytgbbfmpofmeadaa
