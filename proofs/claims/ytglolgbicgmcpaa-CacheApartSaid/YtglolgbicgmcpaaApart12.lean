/-
  Stores beside one another: one of all, and six of a request and a layer each.
-/
import Derived.Test.YtglolgbicgmcpaaFills12
namespace Go.Proofs.Ytglolgbicgmcpaa
open Go.RowKit Go.Maps
set_option linter.unusedVariables false

/-- what there is of a request's layer -/
def grp (L : List Ent) (r l : Int) : List Ent := L.filter fun x => decide (x.r = r ∧ x.l = l)
theorem grp_has (L : List Ent) (r l p : Int) : hasE (grp L r l) r l p = hasE L r l p := by
  rw [Bool.eq_iff_iff, hasE_iff, hasE_iff]
  constructor
  · rintro ⟨x, hx, h⟩
    exact ⟨x, (List.mem_filter.1 hx).1, h⟩
  · rintro ⟨x, hx, h1, h2, h3⟩
    exact ⟨x, List.mem_filter.2 ⟨hx, by simp [h1, h2]⟩, h1, h2, h3⟩
theorem grp_find (L : List Ent) (r l p : Int) : findE (grp L r l) r l p = findE L r l p := by
  unfold findE grp
  rw [List.find?_filter]
  congr 1
  funext x
  rw [Bool.eq_iff_iff]
  simp [at_iff]
  intro h1 h2 _
  exact ⟨h1, h2⟩
theorem grp_ahead (L : List Ent) (r l p : Int) : aheadE (grp L r l) r l p = aheadE L r l p := by
  unfold aheadE
  split
  · rfl
  · exact grp_has L r l _
theorem grp_snoc (L : List Ent) (e : Ent) (r l : Int) : grp (L ++ [e]) r l = grp L r l ++ (if e.r = r ∧ e.l = l then [e] else []) := by
  unfold grp
  rw [List.filter_append]
  congr 1
  by_cases h : e.r = r ∧ e.l = l <;> simp [h]
/-- a Put into the one of all is as into the one of its own -/
theorem grp_put {L : List Ent} (hL : L.length < 1000) (e : Ent) :
    (putE 1000 (grp L e.r e.l) e).1 = (putE 1000 L e).1 ∧ (∀ r l, grp (putE 1000 L e).2 r l = if e.r = r ∧ e.l = l then (putE 1000 (grp L e.r e.l) e).2 else grp L r l) ∧ (putE 1000 L e).2.length ≤ L.length + 1 ∧ ∀ x ∈ (putE 1000 L e).2, x ∈ L ∨ x = e := by
  have hlen : (grp L e.r e.l).length < 1000 := Nat.lt_of_le_of_lt (List.length_filter_le _ _) hL
  have stay : ∀ c, putE 1000 L e = (c, L) → putE 1000 (grp L e.r e.l) e = (c, grp L e.r e.l) →
      (putE 1000 (grp L e.r e.l) e).1 = (putE 1000 L e).1 ∧ (∀ r l, grp (putE 1000 L e).2 r l = if e.r = r ∧ e.l = l then (putE 1000 (grp L e.r e.l) e).2 else grp L r l) ∧ (putE 1000 L e).2.length ≤ L.length + 1 ∧ ∀ x ∈ (putE 1000 L e).2, x ∈ L ∨ x = e := by
    intro c h1 h2
    rw [h1, h2]
    refine ⟨rfl, fun r l => ?_, Nat.le_succ _, fun x hx => .inl hx⟩
    by_cases h : e.r = r ∧ e.l = l
    · rw [if_pos h, ← h.1, ← h.2]
    · rw [if_neg h]
  by_cases h0 : e.r < 0 ∨ e.l < 0 ∨ e.p < 0
  · exact stay 2 (putE_arg h0) (putE_arg h0)
  have h0' : 0 ≤ e.r ∧ 0 ≤ e.l ∧ 0 ≤ e.p := by omega
  by_cases h1 : e.k.length = e.v.length
  rotate_left
  · exact stay 30 (putE_shape h0' h1) (putE_shape h0' h1)
  cases h2 : aheadE L e.r e.l e.p with
  | false => exact stay 120 (putE_gap h0' h1 h2) (putE_gap h0' h1 (by rw [grp_ahead, h2]))
  | true =>
    have e1 := putE_on (room := 1000) h0' h1 h2
    have e2 := putE_on (room := 1000) (L := grp L e.r e.l) h0' h1 (by rw [grp_ahead, h2])
    rw [grp_find] at e2
    cases hf : findE L e.r e.l e.p with
    | some y =>
      rw [hf] at e1 e2
      simp only at e1 e2
      by_cases hq : y.k = e.k ∧ y.v = e.v
      · rw [if_pos hq] at e1 e2
        exact stay 0 e1 e2
      · rw [if_neg hq] at e1 e2
        exact stay 2 e1 e2
    | none =>
      rw [hf] at e1 e2
      simp only at e1 e2
      rw [if_neg (by omega)] at e1 e2
      rw [e1, e2]
      refine ⟨rfl, fun r l => ?_, by simp, fun x hx => by simpa using hx⟩
      simp only
      rw [grp_snoc]
      by_cases h : e.r = r ∧ e.l = l
      · rw [if_pos h, if_pos h, ← h.1, ← h.2]
      · rw [if_neg h, if_neg h, List.append_nil]
theorem grp_drop (L : List Ent) (q r l : Int) : grp (L.filter fun x => !(x.r == q)) r l = if r = q then [] else grp L r l := by
  unfold grp
  rw [List.filter_filter]
  by_cases h : r = q
  · rw [if_pos h, List.filter_eq_nil_iff]
    intro x _
    simp
    intro h1 _
    rw [h1, h]
  · rw [if_neg h]
    refine List.filter_congr fun x _ => ?_
    rw [Bool.eq_iff_iff]
    simp
    rintro rfl _
    exact h
theorem grp_own (L : List Ent) (q l : Int) : (grp L q l).filter (fun x => !(x.r == q)) = [] := by
  rw [List.filter_eq_nil_iff]
  intro x hx
  have := (List.mem_filter.1 hx).2
  simp at this
  simp [this.1]
/-- numbers of requests and layers that there are -/
def Narrow (L : List Ent) : Prop := ∀ x ∈ L, (x.r = 0 ∨ x.r = 1 ∨ x.r = 2) ∧ (x.l = 0 ∨ x.l = 1)
theorem grp_cons (a : Ent) (L : List Ent) (r l : Int) : (grp (a :: L) r l).length = (if a.r = r ∧ a.l = l then 1 else 0) + (grp L r l).length := by
  unfold grp
  by_cases h : a.r = r ∧ a.l = l
  · rw [List.filter_cons_of_pos (by simpa using h), if_pos h, List.length_cons, Nat.add_comm]
  · rw [List.filter_cons_of_neg (by simpa using h), if_neg h, Nat.zero_add]
theorem grp_count {L : List Ent} (h : Narrow L) (q : Int) : L.length = (L.filter fun x => !(x.r == q)).length + ((grp L q 0).length + (grp L q 1).length) := by
  induction L with
  | nil => rfl
  | cons a L ih =>
    have ihh := ih (fun x hx => h x (by simp [hx]))
    obtain ⟨_, hl⟩ := h a (by simp)
    rw [grp_cons, grp_cons, List.length_cons]
    by_cases e : a.r = q
    · rw [List.filter_cons_of_neg (by simp [e])]
      rcases hl with hl | hl
      · rw [if_pos ⟨e, hl⟩, if_neg (by omega)]; omega
      · rw [if_neg (by omega), if_pos ⟨e, hl⟩]; omega
    · rw [List.filter_cons_of_pos (by simp [e]), List.length_cons, if_neg (fun h => e h.1), if_neg (fun h => e h.1)]; omega
theorem grp_sum {L : List Ent} (h : Narrow L) : L.length = (grp L 0 0).length + (grp L 0 1).length + (grp L 1 0).length + (grp L 1 1).length + (grp L 2 0).length + (grp L 2 1).length := by
  induction L with
  | nil => rfl
  | cons a L ih =>
    have ihh := ih (fun x hx => h x (by simp [hx]))
    obtain ⟨hr, hl⟩ := h a (by simp)
    simp only [grp_cons, List.length_cons]
    rcases hr with hr | hr | hr <;> rcases hl with hl | hl <;> simp only [hr, hl] <;> simp <;> omega
theorem grp_line {L : List Ent} {r l : Int} {n : Nat} (h : LineN (grp L r l) r l n) : LineN L r l n := ⟨fun p hp => by rw [← grp_has]; exact h.1 p hp, by rw [← grp_has]; exact h.2⟩

/-- a store of nothing, behind an append to a row of other things -/
theorem StoreAt.own0 {w w' : World} {sb mb room base n : Nat} {e : TypeId} {v : Value} {xs : List Value} (h : StoreAt w sb mb room []) (ho : w.ownsRow base e 1 v n xs) (hT : e ≠ 63) (hg : w.grownBy w' v.ownBlock) : StoreAt w' sb mb room [] := by
  have hne : ∀ b, v.ownBlock = some b → ∃ cs, w.heap[b]? = some (.cells cs e (0, 0)) := by
    intro b hb
    rcases ho.2 with ⟨rfl, _⟩ | ⟨g, cap, cur, rfl, _, hgg, _⟩
    · simp [Value.ownBlock] at hb
    · have : g = b := by simpa [Value.ownBlock] using hb
      subst this
      exact ⟨_, hgg⟩
  obtain ⟨F, h1, h2⟩ := h.map
  refine ⟨h.box.kept hg (fun e1 => ?_), h.good, h.room, F, h1.kept hg (fun e1 => ?_), h2.1, by simp⟩
  · obtain ⟨cs, hc⟩ := hne sb e1.symm
    have := h.box
    unfold Box at this
    rw [hc] at this
    cases this
    exact hT rfl
  · obtain ⟨cs, hc⟩ := hne mb e1.symm
    exact h1.cells hc

/-- a store of all, and six stores; the six in a row -/
structure Own12 (w0 : World) (sbA mbA g : Nat) (sb mb : Nat → Nat) (LA : List Ent) (LO : Nat → List Ent) (wr : World) : Prop where
  all : StoreAt wr sbA mbA 1000 LA
  own : ∀ i, i < 6 → StoreAt wr (sb i) (mb i) 1000 (LO i)
  neA : ∀ i, i < 6 → mbA ≠ mb i
  ne : ∀ i j, i < 6 → j < 6 → i ≠ j → mb i ≠ mb j
  ge : w0.heap.size ≤ mbA ∧ ∀ i, i < 6 → w0.heap.size ≤ mb i
  bel : Below w0.heap.size w0 wr
  row : ∀ i, i < 6 → wr.cell? ⟨g, i, none⟩ = some (.pointer (some ⟨sb i, 0, none⟩))
section
variable {w0 wr w' : World} {sbA mbA g : Nat} {sb mb : Nat → Nat} {LA L' : List Ent} {LO : Nat → List Ent}
theorem Own12.to (h : Own12 w0 sbA mbA g sb mb LA LO wr) (hb : Below wr.heap.size wr w') : Own12 w0 sbA mbA g sb mb LA LO w' :=
  ⟨h.all.bel hb, fun i hi => (h.own i hi).bel hb, h.neA, h.ne, h.ge, h.bel.trans (hb.mono h.bel.size), fun i hi => by
    have h0 := h.row i hi
    rw [World.cell?_of_block (w := wr) (a := ⟨g, i, none⟩) (hb.block g (World.block_lt_of_cell? _ _ h0))]
    exact h0⟩
theorem row_kept {m i : Nat} {x : Value} {k : TypeId} {n : Nat} {F : Lit → Option Value} (h0 : wr.cell? ⟨g, i, none⟩ = some x) (hm : MapAt wr k m n F) (hg : wr.grownBy w' (some m)) : w'.cell? ⟨g, i, none⟩ = some x := by
  have hne : some g ≠ some m := by
    intro e
    cases e
    rw [hm.cell i] at h0
    cases h0
  rw [World.cell?_of_block (w := wr) (a := ⟨g, i, none⟩) (hg.block g (World.block_lt_of_cell? _ _ h0) hne)]
  exact h0
theorem Own12.onAll (h : Own12 w0 sbA mbA g sb mb LA LO wr) (hs : StoreAt w' sbA mbA 1000 L') (hg : wr.grownBy w' (some mbA)) : Own12 w0 sbA mbA g sb mb L' LO w' := by
  obtain ⟨F, hF, _⟩ := h.all.map
  exact ⟨hs, fun i hi => (h.own i hi).other hF (h.neA i hi).symm hg, h.neA, h.ne, h.ge, h.bel.grown hg h.bel.size (fun j hj => by cases hj; exact h.ge.1), fun i hi => row_kept (h.row i hi) hF hg⟩
theorem Own12.onOne (h : Own12 w0 sbA mbA g sb mb LA LO wr) {j : Nat} (hj : j < 6) (hs : StoreAt w' (sb j) (mb j) 1000 L') (hg : wr.grownBy w' (some (mb j))) : Own12 w0 sbA mbA g sb mb LA (fun i => if i = j then L' else LO i) w' := by
  obtain ⟨F, hF, _⟩ := (h.own j hj).map
  refine ⟨h.all.other hF (h.neA j hj) hg, fun i hi => ?_, h.neA, h.ne, h.ge, h.bel.grown hg h.bel.size (fun k hk => by cases hk; exact h.ge.2 j hj), fun i hi => row_kept (h.row i hi) hF hg⟩
  by_cases e : i = j
  · subst e
    simp only [if_pos]
    exact hs
  · simp only [if_neg e]
    exact (h.own i hi).other hF (h.ne i j hi hj e) hg
end
/-- the six are the parts of the one -/
def Split (LA : List Ent) (LO : Nat → List Ent) : Prop := Narrow LA ∧ ∀ r l : Nat, r < 3 → l < 2 → LO (2 * r + l) = grp LA r l

theorem info_ptr12 : (Try.prog.info? 24).map (fun i => (i.zero, i.size, i.bytes)) = some (some (.pointer none), 1, 8) := by kernel_rfl
/-- the stores being made, n of six -/
structure Build12 (w0 : World) (sbA mbA n : Nat) (v : Value) (sb mb : Nat → Nat) (wr : World) : Prop where
  all : StoreAt wr sbA mbA 1000 []
  own : ∀ i, i < n → StoreAt wr (sb i) (mb i) 1000 []
  neA : ∀ i, i < n → mbA ≠ mb i
  ne : ∀ i j, i < n → j < n → i ≠ j → mb i ≠ mb j
  ge : w0.heap.size ≤ mbA ∧ ∀ i, i < n → w0.heap.size ≤ mb i
  bel : Below w0.heap.size w0 wr
  row : wr.ownsRow w0.heap.size 24 1 v n ((List.range n).map fun i => .pointer (some ⟨sb i, 0, none⟩))
set_option maxRecDepth 100000 in
theorem Build12.next {w0 wr w1 : World} {sbA mbA n sbn mbn : Nat} {v : Value} {sb mb : Nat → Nat} (h : Build12 w0 sbA mbA n v sb mb wr) (hn : n ≤ 10) (hb : Below wr.heap.size wr w1) (hs : StoreAt w1 sbn mbn 1000 []) (hm : wr.heap.size ≤ mbn) :
    ∃ v' w2 sb' mb', Sem.run Try.prog (Builtin.append_ #[59, 59] 59 #[v, .slice (some ⟨w1.heap.size, 0, none⟩) 1 1]) (w1.alloc (.cells #[.pointer (some ⟨sbn, 0, none⟩)] 24)) = .ok v' w2 ∧ Build12 w0 sbA mbA (n + 1) v' sb' mb' w2 := by
  have ho1 := own_below h.row hb
  obtain ⟨v', w2, hr, h2, h3, h4⟩ := run_append_val 59 24 (.pointer none) 8 Try.underlying59 info_ptr12 rfl (by omega) w1 w0.heap.size v n _ (.pointer (some ⟨sbn, 0, none⟩)) rfl ho1 (by omega) (Nat.le_trans h.bel.size hb.size)
  refine ⟨v', w2, fun i => if i = n then sbn else sb i, fun i => if i = n then mbn else mb i, hr, ?_, fun i hi => ?_, fun i hi => ?_, fun i j hi hj hij => ?_, ⟨h.ge.1, fun i hi => ?_⟩, ?_, ?_⟩
  · exact (h.all.bel hb).own0 ho1 (by decide) h3
  · by_cases e : i = n
    · subst e; simp only [if_pos]; exact hs.own0 ho1 (by decide) h3
    · simp only [if_neg e]; exact ((h.own i (by omega)).bel hb).own0 ho1 (by decide) h3
  · have hA := h.all.lt.2.1
    by_cases e : i = n
    · simp only [if_pos e]; omega
    · simp only [if_neg e]; exact h.neA i (by omega)
  · by_cases e : i = n
    · by_cases e2 : j = n
      · omega
      · have := (h.own j (by omega)).lt.2.1
        simp only [if_pos e, if_neg e2]; omega
    · by_cases e2 : j = n
      · have := (h.own i (by omega)).lt.2.1
        simp only [if_pos e2, if_neg e]; omega
      · simp only [if_neg e, if_neg e2]; exact h.ne i j (by omega) (by omega) hij
  · have := h.bel.size
    by_cases e : i = n
    · simp only [if_pos e]; omega
    · simp only [if_neg e]; exact h.ge.2 i (by omega)
  · exact (h.bel.trans (hb.mono h.bel.size)).grown h3 (Nat.le_trans h.bel.size hb.size) (own_lt ho1)
  · have e : (List.range (n + 1)).map (fun i => Value.pointer (some ⟨if i = n then sbn else sb i, 0, none⟩)) = ((List.range n).map fun i => Value.pointer (some ⟨sb i, 0, none⟩)) ++ [.pointer (some ⟨sbn, 0, none⟩)] := by
      rw [List.range_succ, List.map_append]
      congr 1
      · refine List.map_congr_left fun i hi => ?_
        have := List.mem_range.1 hi
        rw [if_neg (by omega)]
      · simp only [List.map_cons, List.map_nil, if_pos]
    rw [e]
    exact h2
theorem Build12.done {w0 wr : World} {sbA mbA : Nat} {v : Value} {sb mb : Nat → Nat} (h : Build12 w0 sbA mbA 6 v sb mb wr) : ∃ g c, v = .slice (some ⟨g, 0, none⟩) 6 c ∧ Own12 w0 sbA mbA g sb mb [] (fun _ => []) wr := by
  rcases h.row.2 with ⟨_, e⟩ | ⟨g, cap, cur, rfl, hb, hg, hrest⟩
  · simp at e
  · refine ⟨g, cap, rfl, h.all, h.own, h.neA, h.ne, h.ge, h.bel, fun i hi => ?_⟩
    rw [h.row.cellAt i (by omega)]
    simp [hi]
theorem split_nil : Split [] (fun _ => []) := ⟨fun x hx => (by cases hx), fun r l _ _ => rfl⟩
theorem Split.put {LA : List Ent} {LO : Nat → List Ent} (h : Split LA LO) (hL : LA.length < 1000) {r l : Nat} (hr : r < 3) (hl : l < 2) (p : Int) (k v : List Int) :
    (putE 1000 (LO (2 * r + l)) ⟨r, l, p, k, v⟩).1 = (putE 1000 LA ⟨r, l, p, k, v⟩).1 ∧ Split (putE 1000 LA ⟨r, l, p, k, v⟩).2 (fun i => if i = 2 * r + l then (putE 1000 (LO (2 * r + l)) ⟨r, l, p, k, v⟩).2 else LO i) ∧ (putE 1000 LA ⟨r, l, p, k, v⟩).2.length ≤ LA.length + 1 := by
  rw [h.2 r l hr hl]
  obtain ⟨h1, h2, h3, h4⟩ := grp_put hL ⟨r, l, p, k, v⟩
  refine ⟨h1, ⟨fun x hx => ?_, fun r' l' hr' hl' => ?_⟩, h3⟩
  · rcases h4 x hx with hx | rfl
    · exact h.1 x hx
    · simp only; omega
  · rw [h2]
    by_cases e : r' = r ∧ l' = l
    · obtain ⟨rfl, rfl⟩ := e
      simp
    · dsimp only
      rw [if_neg (by omega), if_neg (by omega)]
      exact h.2 r' l' hr' hl'
theorem Split.drop {LA : List Ent} {LO : Nat → List Ent} (h : Split LA LO) {r : Nat} (hr : r < 3) : Split (LA.filter fun x => !(x.r == (r : Int))) (fun i => if i = 2 * r + 1 then (LO (2 * r + 1)).filter (fun x => !(x.r == (r : Int))) else if i = 2 * r then (LO (2 * r)).filter (fun x => !(x.r == (r : Int))) else LO i) := by
  refine ⟨fun x hx => h.1 x (List.mem_filter.1 hx).1, fun r' l' hr' hl' => ?_⟩
  rw [grp_drop]
  have e0 := h.2 r 0 hr (by omega)
  have e1 := h.2 r 1 hr (by omega)
  rw [Nat.add_zero] at e0
  by_cases e : r' = r
  · subst e
    rw [if_pos rfl]
    have : l' = 0 ∨ l' = 1 := by omega
    dsimp only
    rcases this with rfl | rfl
    · rw [if_neg (by omega), if_pos (by omega), e0]; exact grp_own _ _ _
    · rw [if_pos (by omega), e1]; exact grp_own _ _ _
  · dsimp only
    rw [if_neg (by omega), if_neg (by omega), if_neg (by omega)]
    exact h.2 r' l' hr' hl'
theorem Split.count {LA : List Ent} {LO : Nat → List Ent} (h : Split LA LO) {r : Nat} (hr : r < 3) :
    (LA.length : Int) - ((LA.filter fun x => !(x.r == (r : Int))).length : Int) = (((LO (2 * r)).length : Int) - (((LO (2 * r)).filter fun x => !(x.r == (r : Int))).length : Int)) + (((LO (2 * r + 1)).length : Int) - (((LO (2 * r + 1)).filter fun x => !(x.r == (r : Int))).length : Int)) := by
  have e0 := h.2 r 0 hr (by omega)
  have e1 := h.2 r 1 hr (by omega)
  rw [Nat.add_zero] at e0
  have := grp_count h.1 (r : Int)
  rw [e0, e1]
  have f0 := grp_own LA (r : Int) ((0 : Nat) : Int)
  have f1 := grp_own LA (r : Int) ((1 : Nat) : Int)
  rw [f0, f1]
  simp only [List.length_nil]
  have g0 : (grp LA (r : Int) ((0 : Nat) : Int)).length = (grp LA (r : Int) 0).length := rfl
  have g1 : (grp LA (r : Int) ((1 : Nat) : Int)).length = (grp LA (r : Int) 1).length := rfl
  omega
/-- how many there are in the first i -/
def sumO (LO : Nat → List Ent) : Nat → Nat
  | 0 => 0
  | i + 1 => sumO LO i + (LO i).length
theorem Split.sum {LA : List Ent} {LO : Nat → List Ent} (h : Split LA LO) : sumO LO 6 = LA.length := by
  have := grp_sum h.1
  have e0 := h.2 0 0 (by omega) (by omega)
  have e1 := h.2 0 1 (by omega) (by omega)
  have e2 := h.2 1 0 (by omega) (by omega)
  have e3 := h.2 1 1 (by omega) (by omega)
  have e4 := h.2 2 0 (by omega) (by omega)
  have e5 := h.2 2 1 (by omega) (by omega)
  simp only [sumO]
  simp only [Nat.mul_zero, Nat.zero_add, Nat.add_zero, Nat.mul_one] at e0 e1 e2 e3 e4 e5
  rw [e0, e1, e2, e3, e4, e5]
  simpa using this.symm

/-- numbers are in no map's block -/
theorem el_map {w w' : World} {a : Option Addr} {n : Nat} {q : List Int} {kd : IntKind} {k : TypeId} {b : Nat} (h : Elems kd w a n q) (hm : ∃ m F, MapAt w k b m F) (hg : w.grownBy w' (some b)) : Elems kd w' a n q := by
  obtain ⟨m, F, hm⟩ := hm
  refine ⟨h.1, h.2.1, h.2.2.1, fun hn => ?_⟩
  obtain ⟨g, off, ha, hc⟩ := h.2.2.2 hn
  refine ⟨g, off, ha, fun i hi => ?_⟩
  have h0 := hc i hi
  have hne : some g ≠ some b := by
    intro e
    cases e
    have := hm.cell (off + i)
    rw [this] at h0
    cases h0
  rw [World.cell?_of_block (w := w) (a := ⟨g, off + i, none⟩) (hg.block g (World.block_lt_of_cell? _ _ h0) hne)]
  exact h0

end Go.Proofs.Ytglolgbicgmcpaa
