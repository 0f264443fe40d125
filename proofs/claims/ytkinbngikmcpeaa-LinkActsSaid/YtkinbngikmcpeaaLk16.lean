/-
  A link as the document says it, over lists: what it sends, hears and answers.
-/
import Derived.Test.YtkinbngikmcpeaaKit
namespace Go.Proofs.Ytkinbngikmcpeaa
open Go.RowKit
set_option linter.unusedVariables false

/-- a body that isn't known to have come, and the ticks since it was sent (-1: it wasn't) -/
structure Wt16 where
  s : Int
  b : List Int
deriving Inhabited
/-- a segment -/
structure Sg16 where
  e : Int
  s : Int
  k : Int
  b : List Int
deriving Inhabited
/-- a side -/
structure Lk16 where
  ep : Int
  out : List Wt16
  acked : Nat
  sent : Nat
  got : Nat
  early : List (Nat × List Int)
  owes : Bool

/-! ### send -/
def sendE (R : Nat) (st : Lk16) (bs : List (List Int)) : Int × Lk16 :=
  if bs.any (fun b => decide (65536 < b.length)) = true then (140, st) else
  if R < st.out.length + bs.length then (80, st) else (0, { st with out := st.out ++ bs.map (fun b => ⟨-1, b⟩) })

/-! ### tick -/
def goes16 (W Sp i : Nat) (x : Wt16) : Bool := decide (i < W ∧ (x.s < 0 ∨ (Sp : Int) ≤ x.s + 1))
def step16 (W Sp i : Nat) (x : Wt16) : Wt16 := if goes16 W Sp i x = true then ⟨0, x.b⟩ else if x.s < 0 then x else ⟨x.s + 1, x.b⟩
def tickL (W Sp : Nat) (L : List Wt16) : List Wt16 := L.mapIdx (step16 W Sp)
def sends (W Sp : Nat) (L : List Wt16) : List (Nat × List Int) := L.zipIdx.filterMap fun p => if goes16 W Sp p.2 p.1 = true then some (p.2, p.1.b) else none
def sentL (acked sent : Nat) (ps : List (Nat × List Int)) : Nat := ps.foldl (fun m p => max m (acked + 1 + p.1)) sent
def segsL (ep : Int) (acked got : Nat) (ps : List (Nat × List Int)) : List Sg16 := ps.map fun p => ⟨ep, ((acked + 1 + p.1 : Nat) : Int), (got : Int), p.2⟩
def tickE (W Sp : Nat) (st : Lk16) : List Sg16 × Lk16 :=
  (if (sends W Sp st.out).length = 0 then (if st.owes = true then [⟨st.ep, 0, st.got, []⟩] else []) else segsL st.ep st.acked st.got (sends W Sp st.out),
   { st with out := tickL W Sp st.out, sent := sentL st.acked st.sent (sends W Sp st.out), owes := false })
theorem tickL_len (W Sp : Nat) (L : List Wt16) : (tickL W Sp L).length = L.length := by simp [tickL]
theorem tickL_at (W Sp : Nat) (L : List Wt16) {i : Nat} (hi : i < L.length) : (tickL W Sp L)[i]'(by rw [tickL_len]; exact hi) = step16 W Sp i L[i] := by simp [tickL]
theorem step16_b (W Sp i : Nat) (x : Wt16) : (step16 W Sp i x).b = x.b := by unfold step16; split <;> (try split) <;> rfl
theorem sends_step (W Sp : Nat) (L : List Wt16) {k : Nat} (hk : k < L.length) : sends W Sp (L.take (k + 1)) = sends W Sp (L.take k) ++ if goes16 W Sp k L[k] = true then [(k, L[k].b)] else [] := by
  unfold sends
  have e : L.take (k + 1) = L.take k ++ [L[k]] := by rw [List.take_add_one, List.getElem?_eq_getElem hk]; rfl
  rw [e, List.zipIdx_append, List.filterMap_append]
  congr 1
  have : (List.take k L).length = k := by rw [List.length_take]; omega
  rw [this]
  simp only [List.zipIdx_cons, List.zipIdx_nil, Nat.zero_add]
  split <;> simp [*]
theorem sends_len (W Sp : Nat) (L : List Wt16) : (sends W Sp L).length ≤ L.length := by
  unfold sends
  have := List.length_filterMap_le (fun p : Wt16 × Nat => if goes16 W Sp p.2 p.1 = true then some (p.2, p.1.b) else none) L.zipIdx
  simpa using this
theorem sentL_app (a s : Nat) (ps qs : List (Nat × List Int)) : sentL a s (ps ++ qs) = sentL a (sentL a s ps) qs := by simp [sentL]
/-- those behind the window don't go -/
theorem sends_window (W Sp : Nat) (L : List Wt16) : sends W Sp (L.take W) = sends W Sp L := by
  by_cases h : L.length ≤ W
  · rw [List.take_of_length_le h]
  · suffices H : ∀ k, W ≤ k → k ≤ L.length → sends W Sp (L.take k) = sends W Sp (L.take W) by
      have := H L.length (by omega) (Nat.le_refl _)
      rw [List.take_length] at this
      exact this.symm
    intro k hk
    induction k with
    | zero => intro _; rw [show W = 0 by omega]
    | succ k ih =>
      intro hl
      by_cases e : W = k + 1
      · rw [e]
      · rw [sends_step W Sp L (by omega), ih (by omega) (by omega)]
        have : goes16 W Sp k L[k] = false := by unfold goes16; rw [decide_eq_false_iff_not]; omega
        rw [this]; simp
theorem mem_sends {W Sp : Nat} {L : List Wt16} {p : Nat × List Int} (h : p ∈ sends W Sp L) : ∃ (hi : p.1 < L.length), p.2 = (L[p.1]).b ∧ goes16 W Sp p.1 L[p.1] = true := by
  unfold sends at h
  obtain ⟨⟨x, i⟩, hm, he⟩ := List.mem_filterMap.1 h
  obtain ⟨h1, h2⟩ := List.mem_zipIdx' hm
  simp only at he
  split at he
  · rename_i hg
    simp only [Option.some.injEq] at he
    subst he
    exact ⟨h1, by simp only [h2], by simp only; rw [← h2]; exact hg⟩
  · cases he

/-! ### hear -/
def findQ (E : List (Nat × List Int)) (n : Nat) : Option (Nat × List Int) := E.find? fun x => x.1 == n
def dropQ (E : List (Nat × List Int)) (n : Nat) : List (Nat × List Int) := E.filter fun x => x.1 != n
def takeE : Nat → Nat → List (Nat × List Int) → Nat × List (Nat × List Int) × List (List Int)
  | 0, g, E => (g, E, [])
  | f + 1, g, E => match findQ E (g + 1) with
    | none => (g, E, [])
    | some x => ((takeE f (g + 1) (dropQ E (g + 1))).1, (takeE f (g + 1) (dropQ E (g + 1))).2.1, x.2 :: (takeE f (g + 1) (dropQ E (g + 1))).2.2)
def keepE (W : Nat) (got : Nat) (E : List (Nat × List Int)) (n : Int) (b : List Int) : List (Nat × List Int) :=
  if (got : Int) < n ∧ n ≤ (got : Int) + W ∧ findQ E n.toNat = none then E ++ [(n.toNat, b)] else E
def ackE (st : Lk16) (k : Int) : Lk16 := { st with acked := max st.acked k.toNat, out := st.out.drop (k.toNat - st.acked) }
def badE (st : Lk16) (x : Sg16) : Bool := decide (x.k < 0 ∨ (st.sent : Int) < x.k ∨ x.s < 0 ∨ (x.s = 0 ∧ 0 < x.b.length))
def earlyE (W : Nat) (st : Lk16) (x : Sg16) : Nat × List (Nat × List Int) × List (List Int) := takeE (keepE W st.got st.early x.s x.b).length st.got (keepE W st.got st.early x.s x.b)
def hearE (W : Nat) (st : Lk16) (x : Sg16) : (List (List Int) × Int) × Lk16 :=
  if x.e ≠ st.ep then (([], 160), st) else
  if badE st x = true then (([], 150), st) else
  if x.s = 0 then (([], 0), ackE st x.k) else
  (((earlyE W st x).2.2, 0), { ackE st x.k with owes := true, got := (earlyE W st x).1, early := (earlyE W st x).2.1 })
theorem findQ_some {E : List (Nat × List Int)} {n : Nat} {x : Nat × List Int} (h : findQ E n = some x) : x ∈ E ∧ x.1 = n := ⟨List.mem_of_find?_eq_some h, by have := List.find?_some h; simpa using this⟩
theorem findQ_none {E : List (Nat × List Int)} {n : Nat} : findQ E n = none ↔ ∀ x ∈ E, x.1 ≠ n := by simp [findQ]
theorem dropQ_len {E : List (Nat × List Int)} {n : Nat} {x : Nat × List Int} (h : findQ E n = some x) : (dropQ E n).length < E.length := by
  obtain ⟨h1, h2⟩ := findQ_some h
  unfold dropQ
  refine List.length_filter_lt_length_iff_exists.2 ⟨x, h1, by simp [h2]⟩
/-- the early ones: each once, behind what is got, within the window -/
structure GoodQ (W g : Nat) (E : List (Nat × List Int)) : Prop where
  once : E.Pairwise fun x y => x.1 ≠ y.1
  bd : ∀ x ∈ E, g < x.1 ∧ x.1 ≤ g + W
theorem GoodQ.len {W g : Nat} {E : List (Nat × List Int)} (h : GoodQ W g E) : E.length ≤ W := by
  have h1 : (E.map (fun x => x.1)).Nodup := by rw [List.nodup_iff_pairwise_ne, List.pairwise_map]; exact h.once
  have h2 : (E.map (fun x => x.1)) ⊆ (List.range (g + W + 1)).drop (g + 1) := by
    intro n hn
    obtain ⟨x, hx, rfl⟩ := List.mem_map.1 hn
    have := h.bd x hx
    rw [List.mem_iff_getElem]
    refine ⟨x.1 - (g + 1), by simp; omega, ?_⟩
    rw [List.getElem_drop, List.getElem_range]; omega
  have := h1.length_le_of_subset h2
  simp at this
  omega
theorem goodQ_nil (W g : Nat) : GoodQ W g [] := ⟨List.Pairwise.nil, by simp⟩
theorem GoodQ.keep {W g : Nat} {E : List (Nat × List Int)} (h : GoodQ W g E) (n : Int) (b : List Int) : GoodQ W g (keepE W g E n b) := by
  unfold keepE
  split
  · rename_i hc
    refine ⟨?_, fun x hx => ?_⟩
    · rw [List.pairwise_append]
      refine ⟨h.once, List.pairwise_singleton _ _, fun x hx y hy => ?_⟩
      rw [List.mem_singleton] at hy
      subst hy
      exact findQ_none.1 hc.2.2 x hx
    · rcases List.mem_append.1 hx with hx | hx
      · exact h.bd x hx
      · rw [List.mem_singleton] at hx; subst hx; simp only; omega
  · exact h
theorem GoodQ.next {W g : Nat} {E : List (Nat × List Int)} (h : GoodQ W g E) : GoodQ W (g + 1) (dropQ E (g + 1)) := by
  refine ⟨h.once.filter _, fun x hx => ?_⟩
  obtain ⟨h1, h2⟩ := List.mem_filter.1 hx
  have := h.bd x h1
  have : x.1 ≠ g + 1 := by simpa using h2
  omega
theorem takeE_good {W : Nat} : ∀ (f g : Nat) (E : List (Nat × List Int)), GoodQ W g E → GoodQ W (takeE f g E).1 (takeE f g E).2.1
  | 0, g, E, h => h
  | f + 1, g, E, h => by
    unfold takeE
    split
    · exact h
    · exact takeE_good f (g + 1) _ h.next
theorem takeE_le : ∀ (f g : Nat) (E : List (Nat × List Int)), g ≤ (takeE f g E).1 ∧ (takeE f g E).1 ≤ g + f
  | 0, g, E => ⟨Nat.le_refl _, Nat.le_refl _⟩
  | f + 1, g, E => by
    unfold takeE
    split
    · exact ⟨Nat.le_refl _, by show g ≤ _; omega⟩
    · have := takeE_le f (g + 1) (dropQ E (g + 1))
      exact ⟨by show g ≤ _; omega, by show _ ≤ g + (f + 1); omega⟩
theorem takeE_stop {f g : Nat} {E : List (Nat × List Int)} (h : findQ E (g + 1) = none) : takeE f g E = (g, E, []) := by
  cases f with
  | zero => rfl
  | succ f => unfold takeE; rw [h]
theorem takeE_on {f g : Nat} {E : List (Nat × List Int)} {x : Nat × List Int} (h : findQ E (g + 1) = some x) (hf : E.length ≤ f) :
    ∃ f', f = f' + 1 ∧ (dropQ E (g + 1)).length ≤ f' ∧ takeE f g E = ((takeE f' (g + 1) (dropQ E (g + 1))).1, (takeE f' (g + 1) (dropQ E (g + 1))).2.1, x.2 :: (takeE f' (g + 1) (dropQ E (g + 1))).2.2) := by
  have := dropQ_len h
  obtain ⟨f', rfl⟩ : ∃ f', f = f' + 1 := ⟨f - 1, by omega⟩
  refine ⟨f', rfl, by omega, ?_⟩
  conv => lhs; unfold takeE
  rw [h]

/-! ### what a side may be -/
structure Good16 (W Sp R : Nat) (st : Lk16) : Prop where
  pm : (1 ≤ W ∧ W ≤ 64) ∧ (1 ≤ Sp ∧ Sp ≤ 1000) ∧ (1 ≤ R ∧ R ≤ 4096)
  room : st.out.length ≤ R
  sent : st.acked ≤ st.sent ∧ st.sent ≤ st.acked + st.out.length
  ages : ∀ i (hi : i < st.out.length), st.out[i].s = -1 ∨ (0 ≤ st.out[i].s ∧ st.out[i].s < Sp ∧ i < W)
  early : GoodQ W st.got st.early
  ep : 0 ≤ st.ep ∧ st.ep < 1099511627776
def new16 (ep : Int) : Lk16 := ⟨ep, [], 0, 0, 0, [], false⟩
theorem good_new {W Sp R : Nat} (h : (1 ≤ W ∧ W ≤ 64) ∧ (1 ≤ Sp ∧ Sp ≤ 1000) ∧ (1 ≤ R ∧ R ≤ 4096)) {ep : Int} (he : 0 ≤ ep ∧ ep < 1099511627776) : Good16 W Sp R (new16 ep) :=
  ⟨h, Nat.zero_le _, ⟨Nat.le_refl _, Nat.le_refl _⟩, fun i hi => absurd hi (by simp [new16]), goodQ_nil _ _, he⟩
section
variable {W Sp R : Nat} {st : Lk16}
theorem Good16.send (h : Good16 W Sp R st) (bs : List (List Int)) : Good16 W Sp R (sendE R st bs).2 := by
  unfold sendE
  split
  · exact h
  · split
    · exact h
    · rename_i hr
      refine ⟨h.pm, by simp; omega, ⟨h.sent.1, by have := h.sent.2; simp; omega⟩, fun i hi => ?_, h.early, h.ep⟩
      simp only
      by_cases hl : i < st.out.length
      · rw [List.getElem_append_left hl]; exact h.ages i hl
      · rw [List.getElem_append_right (by omega)]; exact .inl (by simp)
theorem sentL_bd (a n : Nat) : ∀ (ps : List (Nat × List Int)) (s : Nat), (∀ p ∈ ps, p.1 < n) → s ≤ a + n → s ≤ sentL a s ps ∧ sentL a s ps ≤ a + n
  | [], s, _, h => ⟨Nat.le_refl _, h⟩
  | p :: ps, s, hp, h => by
    have h1 := hp p (by simp)
    have := sentL_bd a n ps (max s (a + 1 + p.1)) (fun q hq => hp q (by simp [hq])) (by omega)
    have e : sentL a s (p :: ps) = sentL a (max s (a + 1 + p.1)) ps := rfl
    rw [e]
    omega
theorem Good16.tick (h : Good16 W Sp R st) : Good16 W Sp R (tickE W Sp st).2 := by
  have hb := sentL_bd st.acked st.out.length (sends W Sp st.out) st.sent (fun p hp => (mem_sends hp).1) h.sent.2
  refine ⟨h.pm, by simp only [tickE, tickL_len]; exact h.room, ⟨?_, ?_⟩, fun i hi => ?_, h.early, h.ep⟩
  · have := h.sent.1; simp only [tickE]; omega
  · simp only [tickE, tickL_len]; exact hb.2
  · simp only [tickE, tickL_len] at hi ⊢
    rw [tickL_at W Sp st.out hi]
    have h1 := h.ages i hi
    have h2 := h.pm.2.1.1
    unfold step16
    split
    · rename_i hg
      simp only [goes16, decide_eq_true_eq] at hg
      exact .inr ⟨Int.le_refl _, by simp only; omega, hg.1⟩
    · rename_i hg
      simp only [goes16, decide_eq_true_eq] at hg
      split
      · exact h1
      · exact .inr ⟨by simp only; omega, by simp only; omega, by omega⟩
theorem Good16.ack (h : Good16 W Sp R st) {k : Int} (hk : k ≤ st.sent) : Good16 W Sp R (ackE st k) := by
  have h1 := h.sent
  refine ⟨h.pm, by simp only [ackE, List.length_drop]; have := h.room; omega, ⟨by simp only [ackE]; omega, by simp only [ackE, List.length_drop]; omega⟩, fun i hi => ?_, h.early, h.ep⟩
  simp only [ackE, List.length_drop] at hi ⊢
  rw [List.getElem_drop]
  rcases h.ages (k.toNat - st.acked + i) (by omega) with h2 | h2
  · exact .inl h2
  · exact .inr ⟨h2.1, h2.2.1, by omega⟩
theorem Good16.hear (h : Good16 W Sp R st) (x : Sg16) : Good16 W Sp R (hearE W st x).2 := by
  unfold hearE
  split
  · exact h
  · split
    · exact h
    · rename_i hb
      simp only [badE, decide_eq_true_eq] at hb
      have hA := h.ack (k := x.k) (by omega)
      split
      · exact hA
      · exact ⟨hA.pm, hA.room, hA.sent, hA.ages, takeE_good _ _ _ (h.early.keep _ _), hA.ep⟩
end

end Go.Proofs.Ytkinbngikmcpeaa
