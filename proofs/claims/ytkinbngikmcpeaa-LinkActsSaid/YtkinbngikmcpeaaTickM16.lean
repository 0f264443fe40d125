/-
  Plain mathematics of a tick: bodies one by one; and what a store into one body, or into the link's own block, makes of a link.
-/
import Derived.Test.YtkinbngikmcpeaaSeg16
namespace Go.Proofs.Ytkinbngikmcpeaa
open Go.RowKit Go.Maps
set_option linter.unusedVariables false

def midSt (W Sp : Nat) (st : Lk16) (k : Nat) : Lk16 := { st with out := (tickL W Sp st.out).take k ++ st.out.drop k, sent := sentL st.acked st.sent (sends W Sp (st.out.take k)) }
theorem mid_len {W Sp : Nat} {st : Lk16} {k : Nat} (hk : k ≤ st.out.length) : (midSt W Sp st k).out.length = st.out.length := by simp [midSt, tickL_len]; omega
theorem mid_zero (W Sp : Nat) (st : Lk16) : midSt W Sp st 0 = st := by simp [midSt, sends, sentL]
theorem midS_at {W Sp : Nat} {st : Lk16} {k i : Nat} (hk : k ≤ st.out.length) (hi : i < st.out.length) : (midSt W Sp st k).out[i]'(by rw [mid_len hk]; exact hi) = if i < k then step16 W Sp i st.out[i] else st.out[i] := by
  simp only [midSt]
  have hl : ((tickL W Sp st.out).take k).length = k := by rw [List.length_take, tickL_len]; omega
  split
  · rw [List.getElem_append_left (by omega), List.getElem_take, tickL_at W Sp st.out hi]
  · rw [List.getElem_append_right (by omega), List.getElem_drop]
    simp only [hl]
    congr 1
    omega
/-- ages in order -/
theorem step_age {W Sp R : Nat} {st : Lk16} (h : Good16 W Sp R st) {i : Nat} (hi : i < st.out.length) : (step16 W Sp i st.out[i]).s = -1 ∨ (0 ≤ (step16 W Sp i st.out[i]).s ∧ (step16 W Sp i st.out[i]).s < Sp ∧ i < W) := by
  have h1 := h.ages i hi
  have h2 := h.pm.2.1.1
  unfold step16
  split
  · rename_i hg
    simp only [goes16, decide_eq_true_eq] at hg
    exact .inr ⟨Int.le_refl _, by simp only; omega, hg.1⟩
  · rename_i hg
    simp only [goes16, decide_eq_true_eq] at hg
    split
    · exact h1
    · exact .inr ⟨by simp only; omega, by simp only; omega, by omega⟩
theorem Good16.mid {W Sp R : Nat} {st : Lk16} (h : Good16 W Sp R st) {k : Nat} (hk : k ≤ st.out.length) : Good16 W Sp R (midSt W Sp st k) := by
  have hb := sentL_bd st.acked st.out.length (sends W Sp (st.out.take k)) st.sent (fun p hp => by have := (mem_sends hp).1; rw [List.length_take] at this; omega) h.sent.2
  refine ⟨h.pm, by rw [mid_len hk]; exact h.room, ⟨?_, ?_⟩, fun i hi => ?_, h.early, h.ep⟩
  · have := h.sent.1; simp only [midSt]; omega
  · rw [mid_len hk]; exact hb.2
  · rw [mid_len hk] at hi
    rw [midS_at hk hi]
    split
    · exact step_age h hi
    · exact h.ages i hi
/-- one body further -/
theorem mid_out {W Sp : Nat} {st : Lk16} {k : Nat} (hk : k < st.out.length) : (midSt W Sp st (k + 1)).out = (midSt W Sp st k).out.set k (step16 W Sp k st.out[k]) := by
  apply List.ext_getElem
  · rw [List.length_set, mid_len (by omega), mid_len (by omega)]
  · intro i h1 h2
    rw [mid_len (by omega)] at h1
    rw [List.getElem_set, midS_at (by omega) h1]
    by_cases e : k = i
    · subst e; simp
    · rw [if_neg e, midS_at (by omega) h1]
      by_cases e2 : i < k
      · rw [if_pos e2, if_pos (by omega)]
      · rw [if_neg e2, if_neg (by omega)]
theorem mid_sent {W Sp : Nat} {st : Lk16} {k : Nat} (hk : k < st.out.length) : (midSt W Sp st (k + 1)).sent = if goes16 W Sp k st.out[k] = true then max (midSt W Sp st k).sent (st.acked + 1 + k) else (midSt W Sp st k).sent := by
  simp only [midSt]
  rw [sends_step W Sp st.out hk, sentL_app]
  split <;> simp [sentL]
theorem mid_next {W Sp : Nat} {st : Lk16} {k : Nat} (hk : k < st.out.length) (hl : k < (midSt W Sp st k).out.length) {s : Int} (hs : (step16 W Sp k st.out[k]).s = s) {S : Nat} (hS : (if goes16 W Sp k st.out[k] = true then max (midSt W Sp st k).sent (st.acked + 1 + k) else (midSt W Sp st k).sent) = S) :
    midSt W Sp st (k + 1) = { midSt W Sp st k with out := (midSt W Sp st k).out.set k ⟨s, (midSt W Sp st k).out[k].b⟩, sent := S } := by
  have e1 := mid_out (W := W) (Sp := Sp) hk
  have e2 := mid_sent (W := W) (Sp := Sp) hk
  have hat : (midSt W Sp st k).out[k] = st.out[k] := (midS_at (by omega) hk).trans (if_neg (by omega))
  have e4 : step16 W Sp k st.out[k] = ⟨s, (midSt W Sp st k).out[k].b⟩ := by
    rw [hat, ← step16_b W Sp k st.out[k], ← hs]
  rw [e4] at e1
  rw [hS] at e2
  rw [← e1, ← e2]
  rfl
theorem step_no {W Sp k : Nat} {x : Wt16} (hg : goes16 W Sp k x = false) (h0 : 0 ≤ x.s) : (step16 W Sp k x).s = x.s + 1 := by
  unfold step16
  rw [if_neg (by rw [hg]; simp), if_neg (by omega)]
theorem step_yes {W Sp k : Nat} {x : Wt16} (hg : goes16 W Sp k x = true) : (step16 W Sp k x).s = 0 := by
  unfold step16
  rw [if_pos hg]
theorem sends_no {W Sp k : Nat} {L : List Wt16} (hk : k < L.length) (hg : goes16 W Sp k L[k] = false) : sends W Sp (L.take (k + 1)) = sends W Sp (L.take k) := by
  rw [sends_step W Sp L hk, hg]; simp
theorem sends_yes {W Sp k : Nat} {L : List Wt16} (hk : k < L.length) (hg : goes16 W Sp k L[k] = true) : sends W Sp (L.take (k + 1)) = sends W Sp (L.take k) ++ [(k, L[k].b)] := by
  rw [sends_step W Sp L hk, hg]; simp
theorem mid_end {W Sp R : Nat} {st : Lk16} (h : Good16 W Sp R st) : { midSt W Sp st (min W st.out.length) with owes := false } = (tickE W Sp st).2 := by
  have e1 : sends W Sp (st.out.take (min W st.out.length)) = sends W Sp st.out := by
    rw [← sends_window W Sp st.out]
    congr 1
    by_cases hl : st.out.length ≤ W
    · rw [Nat.min_eq_right hl, List.take_length, List.take_of_length_le hl]
    · rw [Nat.min_eq_left (by omega)]
  have e2 : (midSt W Sp st (min W st.out.length)).out = tickL W Sp st.out := by
    apply List.ext_getElem
    · rw [mid_len (by omega), tickL_len]
    · intro i h1 h2
      rw [tickL_len] at h2
      rw [midS_at (by omega) h2, tickL_at W Sp st.out h2]
      split
      · rfl
      · have hg : goes16 W Sp i st.out[i] = false := by unfold goes16; rw [decide_eq_false_iff_not]; omega
        unfold step16
        rw [if_neg (by rw [hg]; simp)]
        rcases h.ages i h2 with h3 | h3
        · rw [if_pos (by omega)]
        · omega
  unfold tickE
  simp only [midSt] at e2 ⊢
  rw [e2, e1]

theorem sends_min {W Sp : Nat} {L : List Wt16} : sends W Sp (L.take (min W L.length)) = sends W Sp L := by
  rw [← sends_window W Sp L]
  congr 1
  by_cases hl : L.length ≤ W
  · rw [Nat.min_eq_right hl, List.take_length, List.take_of_length_le hl]
  · rw [Nat.min_eq_left (by omega)]

section
variable {w w' : World} {f : Foot} {W Sp R : Nat} {st : Lk16}
/-- where a block of other things turns -/
theorem LinkAt.other (h : LinkAt w f W Sp R st) {row : Option Nat} (hg : w.grownBy w' row) (hr : ∀ b, row = some b → ∃ T, AllC NoU w T b ∧ T ≠ 77 ∧ T ≠ 82) : LinkAt w' f W Sp R st := by
  have hnf : ∀ b, f.has b → some b ≠ row := fun b hb e => by
    obtain ⟨T, ⟨cs, hA, hc⟩, t1, t2⟩ := hr b e.symm
    rcases (h.ok b hb).2 T cs hA with e | e
    · exact t1 e
    · exact t2 e
  refine h.keep (fun b hb => hg.block b (h.lt b hb) (hnf b hb)) (fun q hq => ?_)
  cases row with
  | none => exact hq.below ⟨hg.os, hg.tape, hg.output, hg.size, fun i hi => hg.block i hi (by simp)⟩
  | some b =>
    obtain ⟨T, hA, _⟩ := hr b rfl
    exact rw_noK hq hA hg
/-- the link's own block stored into -/
theorem LinkAt.own (h : LinkAt w f W Sp R st) {st' : Lk16} (hb : Box w' f.lb 77 (linkCells W Sp R st' f.va f.mb)) (hg : w.grownBy w' (some f.lb)) (ho : st'.out = st.out) (he : st'.early = st.early) (hgd : Good16 W Sp R st') : LinkAt w' f W Sp R st' ∧ Moves w w' f := by
  have hm : Moves w w' f := Moves.of_row hg (fun b hb => by cases hb; exact ⟨.inl rfl, h.ok _ (.inl rfl)⟩)
  obtain ⟨es, h1, h2, h3⟩ := h.left
  obtain ⟨F, h4, h5⟩ := h.map
  have hap := h.apart
  refine ⟨⟨hb, ⟨es, by rw [ho]; exact h1, ?_, fun x hx => ⟨hm.rows _ (h3 x hx).1, (h3 x hx).2⟩⟩, ⟨F, ?_, ?_⟩, hgd⟩, hm⟩
  · rw [ho]
    exact h2.kept hg (fun g e x => (hap.2 g e).1 (Option.some.inj x).symm)
  · rw [he]; exact h4.kept hg (fun e => hap.1 (Option.some.inj e).symm)
  · rw [he]; exact ⟨h5.1, fun n x hx => let ⟨q, a, b, c⟩ := h5.2 n x hx; ⟨q, a, hm.rows _ b, c⟩⟩
/-- a tick's end: nothing is owed any more -/
theorem tick_fin (hg : Good16 W Sp R st) (h : LinkAt w f W Sp R (midSt W Sp st (min W st.out.length))) : LinkAt (w.setCell ⟨f.lb, 9, none⟩ (.bool false)) f W Sp R (tickE W Sp st).2 ∧ Moves w (w.setCell ⟨f.lb, 9, none⟩ (.bool false)) f := by
  rw [← mid_end hg]
  have h0 := h.good
  exact h.own (h.box.set 9 _) (grown_set _ _ _ _) rfl rfl ⟨h0.pm, h0.room, h0.sent, h0.ages, h0.early, h0.ep⟩
/-- one body's cells -/
theorem LinkAt.body (h : LinkAt w f W Sp R st) {k : Nat} (hk : k < st.out.length) : ∃ g c, f.va = .slice (some ⟨g, 0, none⟩) st.out.length c ∧ st.out.length ≤ c ∧ c ≤ 9223372036854775807 ∧ ∃ q : Rw, q.In .u8 w ∧ q.n ≤ 65536 ∧ q.v = st.out[k].b ∧ w.cell? ⟨g, k * 2, none⟩ = some (.slice q.a q.n q.cap) ∧ w.cell? ⟨g, k * 2 + 1, none⟩ = some (.int .i64 (tk16 Sp st.out[k].s)) ∧ w.frozen? ⟨g, k * 2 + 1, none⟩ = false := by
  obtain ⟨es, h1, h2, h3⟩ := h.left
  obtain ⟨g, c, hv, hc1, hc2, hg, _, hcell⟩ := h2.cells (by omega)
  have hl : es.length = st.out.length := by rw [← h1, outOf_len]
  have hk2 : k < es.length := by omega
  have e1 : st.out[k] = ⟨es[k].s, es[k].q.v⟩ := by simp only [← h1, outOf, List.getElem_map]
  have hm := List.getElem_mem hk2
  obtain ⟨cs, hbx, _⟩ := h2.all g (by rw [hv]; rfl)
  refine ⟨g, c, hv, hc1, hc2, es[k].q, (h3 _ hm).1, (h3 _ hm).2, by rw [e1], ?_, ?_, hbx.frozen _⟩
  · have := hcell (k * 2) (by omega)
    rw [this, show k * 2 = k * 2 + 0 from rfl, flat_at (weCells Sp) 2 (weCells_len Sp) es k 0 hk2 (by omega)]; rfl
  · have := hcell (k * 2 + 1) (by omega)
    rw [this, flat_at (weCells Sp) 2 (weCells_len Sp) es k 1 hk2 (by omega), e1]; rfl
theorem ownsRow_set {base : Nat} {e : TypeId} {size g n cap : Nat} {xs : List Value} (h : w.ownsRow base e size (.slice (some ⟨g, 0, none⟩) n cap) n xs) (j : Nat) (u : Value) : (w.setCell ⟨g, j, none⟩ u).ownsRow base e size (.slice (some ⟨g, 0, none⟩) n cap) n (xs.set j u) := by
  refine ⟨by rw [List.length_set]; exact h.1, ?_⟩
  rcases h.2 with ⟨h1, _⟩ | ⟨g', cap', cur, h1, hb, hg, hn, hc, hs, ht⟩
  · cases h1
  · cases h1
    refine .inr ⟨g, cap, cur.setIfInBounds j u, rfl, hb, heap_setCell_same w g j cur e u hg, hn, hc, by simp [hs], ?_⟩
    rw [Array.toList_setIfInBounds, List.take_set, ht]
theorem flat_setW (Sp : Nat) (es : List We16) (k : Nat) (hk : k < es.length) (s : Int) : (es.flatMap (weCells Sp)).set (k * 2 + 1) (.int .i64 (tk16 Sp s)) = (es.set k ⟨s, es[k].q⟩).flatMap (weCells Sp) := by
  induction es generalizing k with
  | nil => exact absurd hk (by simp)
  | cons x es ih =>
    cases k with
    | zero => simp [weCells]
    | succ k =>
      rw [List.flatMap_cons, List.set_append_right _ _ (by simp [weCells]; omega), List.set_cons_succ, List.flatMap_cons]
      congr 1
      have := ih k (by simpa using hk)
      simp only [weCells_len, List.getElem_cons_succ]
      rw [show (k + 1) * 2 + 1 - 2 = k * 2 + 1 by omega]
      exact this
theorem allC_set {ok : Value → Prop} {X : TypeId} {g : Nat} (h : AllC ok w X g) (j : Nat) {u : Value} (hu : ok u) : AllC ok (w.setCell ⟨g, j, none⟩ u) X g := by
  obtain ⟨cs, h1, h2⟩ := h
  refine ⟨_, h1.set j u, fun x hx => ?_⟩
  rw [Array.toList_setIfInBounds] at hx
  rcases List.mem_or_eq_of_mem_set hx with hx | hx
  · exact h2 x hx
  · rw [hx]; exact hu
/-- one body's ticks stored anew -/
theorem LinkAt.ticks (h : LinkAt w f W Sp R st) {k : Nat} (hk : k < st.out.length) {g c : Nat} (hv : f.va = .slice (some ⟨g, 0, none⟩) st.out.length c) (s : Int) (hgd : Good16 W Sp R { st with out := st.out.set k ⟨s, st.out[k].b⟩ }) :
    LinkAt (w.setCell ⟨g, k * 2 + 1, none⟩ (.int .i64 (tk16 Sp s))) f W Sp R { st with out := st.out.set k ⟨s, st.out[k].b⟩ } ∧ Moves w (w.setCell ⟨g, k * 2 + 1, none⟩ (.int .i64 (tk16 Sp s))) f := by
  obtain ⟨w', hw'⟩ : ∃ w', w.setCell ⟨g, k * 2 + 1, none⟩ (.int .i64 (tk16 Sp s)) = w' := ⟨_, rfl⟩
  have hg : w.grownBy w' (some g) := by rw [← hw']; exact grown_set _ _ _ _
  have hh : f.has g := .inr (.inr (by rw [hv]; rfl))
  have hm : Moves w w' f := Moves.of_row hg (fun b hb => by cases hb; exact ⟨hh, h.ok _ hh⟩)
  obtain ⟨es, h1, h2, h3⟩ := h.left
  obtain ⟨F, h4, h5⟩ := h.map
  have hap := h.apart.2 g (by rw [hv]; rfl)
  have hl : es.length = st.out.length := by rw [← h1, outOf_len]
  have e1 : st.out[k] = ⟨es[k].s, es[k].q.v⟩ := by simp only [← h1, outOf, List.getElem_map]
  rw [hw']
  refine ⟨⟨h.box.kept hg (fun e => hap.1 (Option.some.inj e).symm), ⟨es.set k ⟨s, es[k].q⟩, ?_, ?_, fun x hx => ?_⟩, ⟨F, h4.kept hg (fun e => hap.2 (Option.some.inj e).symm), h5.1, fun n x hx => let ⟨q, a, b, c⟩ := h5.2 n x hx; ⟨q, a, hm.rows _ b, c⟩⟩, hgd⟩, hm⟩
  · simp only [outOf, List.map_set]
    rw [← outOf, h1, e1]
  · rw [← flat_setW Sp es k (by omega) s]
    simp only [List.length_set]
    have ho := h2.own
    rw [hv] at ho ⊢
    refine ⟨by rw [← hw']; exact ownsRow_set ho _ _, fun g' e => ?_⟩
    simp only [Value.ownBlock, Option.some.injEq] at e
    subst e
    rw [← hw']
    exact allC_set (h2.all g (by rw [hv]; rfl)) _ (noU_i64 _)
  · rcases List.mem_or_eq_of_mem_set hx with hx | hx
    · exact ⟨hm.rows _ (h3 x hx).1, (h3 x hx).2⟩
    · rw [hx]
      have := h3 _ (List.getElem_mem (show k < es.length by omega))
      exact ⟨hm.rows _ this.1, this.2⟩
end

/-- where a newer block turns -/
theorem Moves.new {w wz w3 : World} {f : Foot} {row : Option Nat} (h : Moves w wz f) (hg : wz.grownBy w3 row) (hb : ∀ b, row = some b → w.heap.size ≤ b) (hr : ∀ q : Rw, q.In .u8 wz → q.In .u8 w3) : Moves w w3 f :=
  ⟨hg.os.trans h.os, hg.tape.trans h.tape, hg.output.trans h.output, Nat.le_trans h.size hg.size, fun b hb0 hn => (hg.block b (Nat.lt_of_lt_of_le hb0 h.size) (fun e => by have := hb b e.symm; omega)).trans (h.only b hb0 hn), fun q hq => hr q (h.rows q hq), fun g T cs x a b => (h.box g T cs x a b).kept hg (fun e => by have := hb g e.symm; have := x.lt; omega)⟩

/-! ### lists of segments -/
structure Se16 where
  e : Int
  s : Int
  k : Int
  q : Rw
deriving Inhabited
def seCells (x : Se16) : List Value := [.int .i64 x.e, .int .i64 x.s, .int .i64 x.k, .slice x.q.a x.q.n x.q.cap]
theorem seCells_len (x : Se16) : (seCells x).length = 4 := rfl
def sgOf (x : Se16) : Sg16 := ⟨x.e, x.s, x.k, x.q.v⟩
theorem se_noU (xs : List Se16) : ∀ u ∈ xs.flatMap seCells, NoU u := by
  intro u hu
  obtain ⟨x, _, hx⟩ := List.mem_flatMap.1 hu
  simp only [seCells, List.mem_cons, List.not_mem_nil, or_false] at hx
  rcases hx with rfl | rfl | rfl | rfl
  · exact noU_i64 _
  · exact noU_i64 _
  · exact noU_i64 _
  · exact noU_slice _ _ _
structure SegsAt (w : World) (base : Nat) (v : Value) (xs : List Se16) : Prop where
  row : ListAt NoU w base 39 4 v xs.length (xs.flatMap seCells)
  rows : ∀ x ∈ xs, x.q.In .u8 w ∧ x.q.n ≤ 65536
theorem segs_nil (w : World) (base : Nat) : SegsAt w base (.slice none 0 0) [] := ⟨listAt_nil _ _ _ _ _, by simp⟩
theorem SegsAt.bel {w w' : World} {base : Nat} {v : Value} {xs : List Se16} (h : SegsAt w base v xs) (hb : Below w.heap.size w w') : SegsAt w' base v xs := ⟨h.row.bel hb, fun x hx => ⟨(h.rows x hx).1.below hb, (h.rows x hx).2⟩⟩
theorem SegsAt.moved {w w' : World} {base : Nat} {v : Value} {xs : List Se16} {f : Foot} (h : SegsAt w base v xs) (hm : Moves w w' f) : SegsAt w' base v xs :=
  ⟨h.row.blk (fun g e => by
    obtain ⟨cs, hb, _⟩ := h.row.all g e
    exact (hm.box g _ cs hb (by decide) (by decide)).trans hb.symm), fun x hx => ⟨hm.rows _ (h.rows x hx).1, (h.rows x hx).2⟩⟩
theorem info_seg : (Try.prog.info? 39).map (fun i => (i.zero, i.size, i.bytes)) = some (some (.agg #[.int .i64 0, .int .i64 0, .int .i64 0, .slice none 0 0]), 4, 48) := by kernel_rfl
/-- a segment more -/
theorem SegsAt.next {wz : World} {base : Nat} {v : Value} {xs : List Se16} (h : SegsAt wz base v xs) (hn : xs.length ≤ 1000000) (hbase : base ≤ wz.heap.size) (x : Se16) (hq : x.q.In .u8 wz) (hq6 : x.q.n ≤ 65536) :
    ∃ g cap w3, Sem.run Try.prog (Builtin.append_ #[45, 45] 45 #[v, .slice (some ⟨wz.heap.size, 0, none⟩) 1 1]) (wz.alloc (.cells #[.int .i64 x.e, .int .i64 x.s, .int .i64 x.k, .slice x.q.a x.q.n x.q.cap] 39)) =
      .ok (.slice (some ⟨g, 0, none⟩) (xs.length + 1) cap) w3 ∧ SegsAt w3 base (.slice (some ⟨g, 0, none⟩) (xs.length + 1) cap) (xs ++ [x]) ∧ wz.grownBy w3 v.ownBlock ∧ (∀ b, v.ownBlock = some b → base ≤ b ∧ AllC NoU wz 39 b) ∧ ∀ q : Rw, q.In .u8 wz → q.In .u8 w3 := by
  obtain ⟨g, cap, w3, hrun, ho, hA, hg, hv, hc1, hc2⟩ := append_c (P := Try.prog) (ok := NoU) wz base 45 39 _ 4 48 Try.underlying45 info_seg rfl (by omega) (by omega) (by omega)
    (by intro u hu; simp [Value.cells] at hu; rcases hu with rfl | rfl <;> first | exact noU_i64 _ | exact noU_slice _ _ _) v xs.length _ (seCells x) h.row.own h.row.all (by omega) rfl (fun u hu => se_noU [x] u (by simpa using hu))
    (by intro u hu; simp only [seCells, List.mem_cons, List.not_mem_nil, or_false] at hu; rcases hu with rfl | rfl | rfl | rfl <;> rfl) hbase
  have hrw : ∀ q : Rw, q.In .u8 wz → q.In .u8 w3 := fun q hq => by
    cases hvb : v.ownBlock with
    | none => rw [hvb] at hg; exact hq.below ⟨hg.os, hg.tape, hg.output, hg.size, fun i hi => hg.block i hi (by simp)⟩
    | some b => rw [hvb] at hg; exact rw_noK hq (h.row.all b hvb) hg
  refine ⟨g, cap, w3, hrun, ⟨?_, fun y hy => ?_⟩, hg, (fun b e => ⟨(h.row.own.lt b e).1, h.row.all b e⟩), hrw⟩
  · have : ListAt NoU w3 base 39 4 (.slice (some ⟨g, 0, none⟩) (xs.length + 1) cap) (xs.length + 1) (xs.flatMap seCells ++ seCells x) := ⟨ho, fun g' e => by simp only [Value.ownBlock, Option.some.injEq] at e; subst e; exact hA⟩
    simpa [List.flatMap_append] using this
  · rcases List.mem_append.1 hy with hy | hy
    · exact ⟨hrw _ (h.rows y hy).1, (h.rows y hy).2⟩
    · rw [List.mem_singleton] at hy; subst hy; exact ⟨hrw _ hq, hq6⟩

end Go.Proofs.Ytkinbngikmcpeaa
