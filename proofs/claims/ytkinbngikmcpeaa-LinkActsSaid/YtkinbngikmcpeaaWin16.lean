/-
  Plain mathematics of LinkWindow: bodies of one byte each, their own numbers; which of them go at a tick, in which order.
-/
import Derived.Test.YtkinbngikmcpeaaAwake16
namespace Go.Proofs.Ytkinbngikmcpeaa
open Go.RowKit Go.Maps
set_option linter.unusedVariables false

theorem bring16 (x m : Int) (h1 : 1 ≤ m) (h2 : m ≤ 1000) : ∃ k : Nat, (wrap64 (x.tmod m + m)).tmod m = (k : Int) ∧ (k : Int) < m := by
  have h3 := rest_by x m h1
  have e : wrap64 (x.tmod m + m) = x.tmod m + m := by unfold wrap64; omega
  have h4 := rest_by (x.tmod m + m) m h1
  have h5 : 0 ≤ (x.tmod m + m).tmod m := Int.tmod_nonneg _ (by omega)
  exact ⟨((x.tmod m + m).tmod m).toNat, by rw [e, Int.toNat_of_nonneg h5], by omega⟩
/-- which go: in order -/
theorem sends_sorted (W Sp : Nat) (L : List Wt16) : (sends W Sp L).Pairwise fun p q => p.1 < q.1 := by
  suffices H : ∀ k, k ≤ L.length → (sends W Sp (L.take k)).Pairwise fun p q => p.1 < q.1 by
    have := H L.length (Nat.le_refl _)
    rwa [List.take_length] at this
  intro k
  induction k with
  | zero => intro _; simp [sends]
  | succ k ih =>
    intro hk
    have h1 := ih (by omega)
    cases hg : goes16 W Sp k (L[k]'(by omega)) with
    | false => rw [sends_no (by omega) hg]; exact h1
    | true =>
      rw [sends_yes (by omega) hg, List.pairwise_append]
      refine ⟨h1, List.pairwise_singleton _ _, fun p hp q hq => ?_⟩
      rw [List.mem_singleton] at hq
      subst hq
      have := (mem_sends hp).1
      rw [List.length_take] at this
      simp only; omega
theorem sends_most (W Sp : Nat) (L : List Wt16) : (sends W Sp L).length ≤ W := by
  rw [← sends_window W Sp L]
  have := sends_len W Sp (L.take W)
  rw [List.length_take] at this
  omega
/-- k bodies in all, each its number's byte; those up to acked are gone -/
structure WinI (W Sp k acked sent : Nat) (st : Lk16) : Prop where
  ep : st.ep = 0
  got : st.got = 0
  early : st.early = []
  owes : st.owes = false
  ak : st.acked = acked
  snt : st.sent = sent
  len : st.out.length = k - acked ∧ acked ≤ k
  body : ∀ i (hi : i < st.out.length), st.out[i].b = [((acked + i : Nat) : Int)]
theorem win_new (W Sp : Nat) : WinI W Sp 0 0 0 (new16 0) := ⟨rfl, rfl, rfl, rfl, rfl, rfl, ⟨rfl, Nat.le_refl _⟩, fun i hi => absurd hi (by simp [new16])⟩
theorem WinI.send {W Sp i : Nat} {st : Lk16} (h : WinI W Sp i 0 0 st) (hi : i < 64) : sendE 64 st [[(i : Int)]] = (0, addW st [(i : Int)]) ∧ WinI W Sp (i + 1) 0 0 (addW st [(i : Int)]) := by
  have hl := h.len.1
  refine ⟨?_, h.ep, h.got, h.early, h.owes, h.ak, h.snt, ⟨by simp [addW, hl], by omega⟩, fun j hj => ?_⟩
  · unfold sendE
    rw [if_neg (by simp), if_neg (by simp; omega)]
    rfl
  · simp only [addW, List.length_append, List.length_singleton] at hj
    simp only [addW]
    by_cases hjl : j < st.out.length
    · rw [List.getElem_append_left hjl]
      exact h.body j hjl
    · obtain rfl : j = st.out.length := by omega
      rw [List.getElem_append_right (Nat.le_refl _)]
      simp [hl]
theorem WinI.tick {W Sp k acked sent : Nat} {st : Lk16} (h : WinI W Sp k acked sent st) :
    (tickE W Sp st).1 = segsL 0 acked 0 (sends W Sp st.out) ∧ WinI W Sp k acked (sentL acked sent (sends W Sp st.out)) (tickE W Sp st).2 := by
  refine ⟨?_, h.ep, h.got, h.early, rfl, h.ak, by simp [tickE, h.ak, h.snt], ⟨by simp only [tickE, tickL_len]; exact h.len.1, h.len.2⟩, fun i hi => ?_⟩
  · unfold tickE
    simp only [h.ep, h.got, h.ak, h.owes]
    split
    · rename_i h0
      rw [List.length_eq_zero_iff.1 h0]
      rfl
    · rfl
  · simp only [tickE, tickL_len] at hi ⊢
    rw [tickL_at W Sp st.out hi, step16_b]
    exact h.body i hi
theorem WinI.hear {W Sp k acked sent : Nat} {st : Lk16} (h : WinI W Sp k acked sent st) (hs : sent ≤ k) (a : Nat) (ha : a ≤ sent) :
    hearE W st ⟨0, 0, a, []⟩ = (([], 0), ackE st a) ∧ WinI W Sp k (max acked a) sent (ackE st a) := by
  have hb : badE st ⟨0, 0, a, []⟩ = false := by
    unfold badE
    rw [decide_eq_false_iff_not, h.snt]
    simp; omega
  refine ⟨?_, h.ep, h.got, h.early, h.owes, by simp [ackE, h.ak], h.snt, ⟨?_, ?_⟩, fun i hi => ?_⟩
  · unfold hearE
    rw [if_neg (by simp [h.ep]), hb, if_neg (by simp), if_pos rfl]
  · have := h.len
    simp only [ackE, List.length_drop, h.ak]
    omega
  · have := h.len.2; omega
  · simp only [ackE, List.length_drop, h.ak, Int.toNat_natCast] at hi ⊢
    rw [List.getElem_drop, h.body]
    congr 2
    omega
/-- what goes, one by one -/
theorem WinI.seg {W Sp k acked sent : Nat} {st : Lk16} (h : WinI W Sp k acked sent st) {j : Nat} (hj : j < (sends W Sp st.out).length) : ∃ P, ((sends W Sp st.out)[j]).1 = P ∧ P < W ∧ acked + P < k ∧ ((sends W Sp st.out)[j]).2 = [((acked + P : Nat) : Int)] ∧ ∀ i (hi : i < j), ((sends W Sp st.out)[i]'(by omega)).1 < P := by
  have hm := List.getElem_mem hj
  obtain ⟨h1, h2, h3⟩ := mem_sends hm
  have hl := h.len
  refine ⟨_, rfl, ?_, by omega, by rw [h2]; exact h.body _ h1, fun i hi => ?_⟩
  · unfold goes16 at h3
    rw [decide_eq_true_eq] at h3
    exact h3.1
  · exact List.pairwise_iff_getElem.1 (sends_sorted W Sp st.out) i j (by omega) hj hi
theorem sentL_take (a s : Nat) (ps : List (Nat × List Int)) {j : Nat} (hj : j < ps.length) : sentL a s (ps.take (j + 1)) = max (sentL a s (ps.take j)) (a + 1 + ps[j].1) := by
  rw [List.take_add_one, List.getElem?_eq_getElem hj, sentL_app]
  rfl

/-- a link as LinkWindow keeps it -/
def WinW (w : World) (lb W Sp k acked sent : Nat) (wr : World) : Prop := ∃ f st, LinkAt wr f W Sp 64 st ∧ WinI W Sp k acked sent st ∧ f.lb = lb ∧ f.from_ w.heap.size ∧ Below w.heap.size w wr
theorem WinW.bd {w wr : World} {lb W Sp k acked sent : Nat} (h : WinW w lb W Sp k acked sent wr) : acked ≤ sent ∧ sent ≤ k := by
  obtain ⟨f, st, h1, h2, _⟩ := h
  have := h1.good.sent
  have := h2.len
  have := h2.ak
  have := h2.snt
  omega
theorem WinW.bel {w wr w' : World} {lb W Sp k acked sent : Nat} (h : WinW w lb W Sp k acked sent wr) (hb : Below wr.heap.size wr w') : WinW w lb W Sp k acked sent w' := by
  obtain ⟨f, st, h1, h2, h3, h4, h5⟩ := h
  exact ⟨f, st, h1.bel hb, h2, h3, h4, below_two h5 hb⟩
theorem WinW.send {w wr : World} {lb W Sp i : Nat} (h : WinW w lb W Sp i 0 0 wr) (hi : i < 60) {b : Nat} (hb : b = wr.heap.size) :
    Calls Try.prog 11 #[.pointer (some ⟨lb, 0, none⟩), .slice (some ⟨b + 1, 0, none⟩) 1 1] ((wr.alloc (.cells #[.int .u8 (i : Int)] 5)).alloc (.cells #[.slice (some ⟨b, 0, none⟩) 1 1] 37)) fun e w' => e = .returned (.int .i64 0) ∧ WinW w lb W Sp (i + 1) 0 0 w' := by
  obtain ⟨f, st, h1, h2, rfl, h4, h5⟩ := h
  have hb1 : Below wr.heap.size wr ((wr.alloc (.cells #[.int .u8 (i : Int)] 5)).alloc (.cells #[.slice (some ⟨b, 0, none⟩) 1 1] 37)) := ((Below.refl _ _).alloc (Nat.le_refl _) _).alloc (by simp) _
  have hS := send16 (h1.bel hb1) _ 1 1 _ (rws_lit1 (i : Int) (WalkArith.wf_u8 ⟨by omega, by omega⟩) hb) (by omega) (fun b' off e _ hh => by
    simp only [Option.some.injEq, Addr.mk.injEq] at e
    have := h1.lt b' hh
    omega)
  obtain ⟨s1, s2⟩ := h2.send (by omega)
  simp only [List.map_cons, List.map_nil, s1] at hS
  refine hS.mono ?_
  rintro e w' ⟨rfl, f', hL, hF, hM⟩
  have hbw := h5.trans (hb1.mono h5.size)
  exact ⟨rfl, f', _, hL, s2, hF.1, h4.to_ hF hbw.size, hbw.trans (hM.below hbw.size h4)⟩
theorem WinW.hear {w wr : World} {lb W Sp k acked sent : Nat} (h : WinW w lb W Sp k acked sent wr) (hk : k ≤ 60) (a : Nat) (ha : a ≤ sent) :
    Calls Try.prog 16 #[.pointer (some ⟨lb, 0, none⟩), .agg #[.int .i64 0, .int .i64 0, .int .i64 a, .slice none 0 0]] wr fun e w' => ∃ a1 n1 c1, e = .returned (.tuple #[.slice a1 n1 c1, .int .i64 0]) ∧ WinW w lb W Sp k (max acked a) sent w' := by
  have hbd := h.bd
  obtain ⟨f, st, h1, h2, rfl, h4, h5⟩ := h
  have hl := h2.len
  have hR := hear16 h1 0 0 a ⟨none, 0, 0, []⟩ ⟨Elems.nil_ _ _ _, Nat.le_refl _, by show 0 ≤ _; omega, ⟨fun _ => rfl, fun x e _ => by cases e⟩⟩ (by show 0 ≤ _; omega) (by rw [h2.ak]; omega) (by rw [h2.got]; omega)
  obtain ⟨s1, s2⟩ := h2.hear hbd.2 a ha
  unfold HearR at hR
  rw [s1] at hR
  refine hR.mono ?_
  rintro e w' ⟨v, n, qs, rfl, hLR, _, _, f', hL, hF, hM⟩
  obtain ⟨a1, c1, rfl, _⟩ := hLR.shape
  exact ⟨a1, n, c1, rfl, f', _, hL, s2, hF.1, h4.to_ hF h5.size, h5.trans (hM.below h5.size h4)⟩
theorem WinW.left {w wr : World} {lb W Sp k acked sent : Nat} (h : WinW w lb W Sp k acked sent wr) :
    Calls Try.prog 21 #[.pointer (some ⟨lb, 0, none⟩)] wr fun e w' => e = .returned (.int .i64 ((k - acked : Nat) : Int)) ∧ w' = wr := by
  obtain ⟨f, st, h1, h2, rfl, h4, h5⟩ := h
  have := left16 h1
  rw [h2.len.1] at this
  exact this
/-- a segment that goes, as the law looks at it -/
def SegC (W k acked : Nat) (ps : List (Nat × List Int)) (g : Nat) (wt : World) : Prop :=
  ∀ j (hj : j < ps.length), ∃ b off, wt.cell? ⟨g, j * 4 + 1, none⟩ = some (.int .i64 ((acked + 1 + ps[j].1 : Nat) : Int)) ∧ (∃ c, wt.cell? ⟨g, j * 4 + 3, none⟩ = some (.slice (some ⟨b, off, none⟩) 1 c) ∧ 1 ≤ c ∧ c ≤ 9223372036854775807) ∧ wt.cell? ⟨b, off, none⟩ = some (.int .u8 ((acked + ps[j].1 : Nat) : Int)) ∧
    ps[j].1 < W ∧ acked + ps[j].1 < k ∧ ∀ i (hi : i < j), (ps[i]'(by omega)).1 < ps[j].1
theorem WinW.tick {w wr : World} {lb W Sp k acked sent : Nat} (h : WinW w lb W Sp k acked sent wr) (hk : k ≤ 60) :
    Calls Try.prog 14 #[.pointer (some ⟨lb, 0, none⟩)] wr fun e w' => ∃ ps a c, e = .returned (.slice a ps.length c) ∧ ps.length ≤ c ∧ c ≤ 9223372036854775807 ∧ ps.length ≤ W ∧ ps.length ≤ k - acked ∧ WinW w lb W Sp k acked (sentL acked sent ps) w' ∧ (0 < ps.length → ∃ g, a = some ⟨g, 0, none⟩ ∧ SegC W k acked ps g w') := by
  obtain ⟨f, st, h1, h2, rfl, h4, h5⟩ := h
  have hl := h2.len
  have hT := tick16 h1 (by rw [h2.ak]; omega)
  obtain ⟨s1, s2⟩ := h2.tick
  refine hT.mono ?_
  rintro e w' ⟨v, xs, rfl, hS, hx, hL, hM⟩
  rw [s1] at hx
  have hxl : xs.length = (sends W Sp st.out).length := by simpa [segsL] using congrArg List.length hx
  obtain ⟨a, c, rfl, hc1, hc2⟩ := hS.shape
  rw [hxl] at hc1
  refine ⟨sends W Sp st.out, a, c, by rw [hxl], hc1, hc2, sends_most _ _ _, by have := sends_len W Sp st.out; omega, ⟨f, _, hL, s2, rfl, h4, h5.trans (hM.below h5.size h4)⟩, fun h0 => ?_⟩
  obtain ⟨g, c', hv, _, _, _, _, hcell⟩ := hS.cells (by omega)
  simp only [Value.slice.injEq] at hv
  refine ⟨g, hv.1, fun j hj => ?_⟩
  obtain ⟨z0, z1, z2, z3, zq, zn⟩ := hcell j (by omega)
  obtain ⟨P, e1, e2, e3, e4, e5⟩ := h2.seg hj
  have hxj : sgOf (xs[j]'(by omega)) = ⟨0, ((acked + 1 + P : Nat) : Int), 0, [((acked + P : Nat) : Int)]⟩ := by
    have := congrArg (fun l => l[j]?) hx
    simp only [segsL, List.getElem?_map] at this
    rw [List.getElem?_eq_getElem (by omega), List.getElem?_eq_getElem hj] at this
    simp only [Option.map_some, Option.some.injEq] at this
    rw [this, e1, e4]
    rfl
  have hs : (xs[j]'(by omega)).s = ((acked + 1 + P : Nat) : Int) := congrArg Sg16.s hxj
  have hb : (xs[j]'(by omega)).q.v = [((acked + P : Nat) : Int)] := congrArg Sg16.b hxj
  have hn : (xs[j]'(by omega)).q.n = 1 := by have := zq.1.1; rw [hb] at this; simpa using this.symm
  obtain ⟨b, off, ha, hc⟩ := zq.1.2.2.2 (by omega)
  have hc0 := hc 0 (by omega)
  rw [hb] at hc0
  have hcap := zq.2.1
  have hcap2 := zq.2.2.1
  subst e1
  exact ⟨b, off, by rw [z1, hs], ⟨_, by rw [z3, ha, hn], by omega, hcap2⟩, hc0, e2, e3, e5⟩

end Go.Proofs.Ytkinbngikmcpeaa
