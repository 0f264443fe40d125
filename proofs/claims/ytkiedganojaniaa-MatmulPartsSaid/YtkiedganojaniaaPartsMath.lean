/-
  Products in parts: of the rows, one behind the other; of the columns, summed.
-/
import Derived.Test.YtkiedganojaniaaPartsKit
namespace Go.Proofs.Ytkiedganojaniaa
open Go.RowKit
set_option linter.unusedVariables false

/-- some rows' product is a stretch of the product -/
theorem mv_rows (v xs : List Int) (R C fr to : Nat) (hv : v.length = R * C) (h1 : fr ≤ to) (h2 : to ≤ R) : (mv v xs R C).take fr ++ mv (tab (to - fr) C fun i j => v.getD ((fr + i) * C + j) 0) xs (to - fr) C = (mv v xs R C).take to := by
  have e : mv (tab (to - fr) C fun i j => v.getD ((fr + i) * C + j) 0) xs (to - fr) C = ((mv v xs R C).drop fr).take (to - fr) := by
    refine List.ext_getElem? fun i => ?_
    by_cases hi : i < to - fr
    · rw [List.getElem?_take_of_lt hi, List.getElem?_drop]
      unfold mv
      rw [List.getElem?_map, List.getElem?_map, List.getElem?_range hi, List.getElem?_range (show fr + i < R by omega)]
      simp only [Option.map_some]
      rw [rowOf_map _ (to - fr) C i (tab_length _ _ _) hi, rowOf_map v R C (fr + i) hv (by omega)]
      congr 2
      refine congrArg (fun l => prods l xs) (List.map_congr_left fun j hj => ?_)
      exact tab_at _ _ _ i j hi (List.mem_range.1 hj)
    · rw [List.getElem?_eq_none (by rw [mv_length]; omega), List.getElem?_eq_none (by simp; omega)]
  rw [e]
  have := List.take_append_drop fr ((mv v xs R C).take to)
  rw [List.take_take, Nat.min_eq_left h1] at this
  rw [← List.drop_take] 
  exact this

/-- the sum of part j of row r's products -/
def pz (v xs : List Int) (C N r j : Nat) : Int := wsum (((prods (rowOf v C r) xs).drop (spanAt C N j)).take (spanAt C N (j + 1) - spanAt C N j))
def pzs (v xs : List Int) (C N r k : Nat) : List Int := (List.range k).map (pz v xs C N r)
theorem pzs_succ (v xs : List Int) (C N r k : Nat) : pzs v xs C N r (k + 1) = pzs v xs C N r k ++ [pz v xs C N r k] := by
  unfold pzs; rw [List.range_succ, List.map_append]; rfl
theorem pzs_wf (v xs : List Int) (C N r k : Nat) : ∀ x ∈ pzs v xs C N r k, (Lit.int .i32 x).wf = true := by
  intro x hx
  obtain ⟨j, _, rfl⟩ := List.mem_map.1 hx
  exact wsum_wf _
theorem pzs_length (v xs : List Int) (C N r k : Nat) : (pzs v xs C N r k).length = k := by simp [pzs]
theorem pzs_sum (v xs : List Int) (C N r k : Nat) : wrap32 (pzs v xs C N r k).sum = wrap32 ((prods (rowOf v C r) xs).take (spanAt C N k)).sum := by
  induction k with
  | zero => simp [pzs, span_zero, wrap32]
  | succ k ih =>
    have := (groups_step (ss := pzs v xs C N r k) (xs := prods (rowOf v C r) xs) (k := spanAt C N k) ih (pzs_wf v xs C N r k) (spanAt C N (k + 1) - spanAt C N k)).1
    rw [pzs_succ]
    have hm := span_mono C N k (k + 1) (by omega)
    rw [show spanAt C N k + (spanAt C N (k + 1) - spanAt C N k) = spanAt C N (k + 1) by omega] at this
    exact this
/-- all parts together are the product -/
theorem pzs_all (v xs : List Int) (R C N r : Nat) (hv : v.length = R * C) (hx : xs.length = C) (hr : r < R) (hN : 1 ≤ N) : wsum (pzs v xs C N r N) = (mv v xs R C).getD r 0 := by
  rw [mv_at _ _ _ _ _ hr]
  unfold wsum
  rw [pzs_sum, span_end C N hN, List.take_of_length_le (by rw [prods_len, rowOf_length hv hr]; omega)]
/-- a number of the product of some columns with their part of the row -/
theorem mv_cols (v xs : List Int) (R C N r j : Nat) (hv : v.length = R * C) (hr : r < R) (hj : spanAt C N (j + 1) ≤ C) :
    (mv (tab R (spanAt C N (j + 1) - spanAt C N j) fun i c => v.getD (i * C + (spanAt C N j + c)) 0) ((xs.drop (spanAt C N j)).take (spanAt C N (j + 1) - spanAt C N j)) R (spanAt C N (j + 1) - spanAt C N j)).getD r 0 = pz v xs C N r j := by
  rw [mv_at _ _ _ _ _ hr]
  unfold pz
  congr 1
  have hm := span_mono C N j (j + 1) (by omega)
  have e : rowOf (tab R (spanAt C N (j + 1) - spanAt C N j) fun i c => v.getD (i * C + (spanAt C N j + c)) 0) (spanAt C N (j + 1) - spanAt C N j) r = ((rowOf v C r).drop (spanAt C N j)).take (spanAt C N (j + 1) - spanAt C N j) := by
    rw [rowOf_map _ R _ r (tab_length _ _ _) hr]
    refine List.ext_getElem? fun c => ?_
    by_cases hc : c < spanAt C N (j + 1) - spanAt C N j
    · rw [List.getElem?_map, List.getElem?_range hc, List.getElem?_take_of_lt hc, List.getElem?_drop]
      simp only [Option.map_some]
      rw [tab_at _ _ _ _ _ hr hc]
      have hl := rowOf_length hv hr
      have := rowOf_at v C r (spanAt C N j + c) (by omega)
      rw [List.getD_eq_getElem?_getD, List.getElem?_eq_getElem (by omega)] at this
      rw [List.getElem?_eq_getElem (by omega)]
      simp only [Option.getD_some] at this
      rw [this]
    · rw [List.getElem?_eq_none (by simp; omega), List.getElem?_eq_none (by simp; omega)]
  rw [e]
  unfold prods
  rw [List.drop_zipWith, List.take_zipWith]

/-- rows of nothing, just made -/
theorem rows32_start (w : World) (R : Nat) (f : Nat → List Int) (hf : ∀ r, f r = []) : Rows32 (w.heap.size + 1) w.heap.size R (fun _ => 0) f (List.replicate R (.slice none 0 0)) (w.alloc (.cells (madeCells #[Value.slice none 0 0] R) 27)) := by
  have hm : madeCells #[Value.slice none 0 0] R = (List.replicate R (Value.slice none 0 0)).toArray := by
    apply Array.ext
    · simp [size_madeCells]
    · intro i h1 h2
      simp [madeCells, Nat.mod_one]
  refine ⟨by rw [heap_alloc_new, hm], by simp, by omega, by simp, fun r v hv => ?_, fun r r' v v' hv hv' hne b hb => ?_⟩
  · have := List.eq_of_mem_replicate (List.mem_of_getElem? hv)
    subst this
    rw [hf r]; exact own_nil _ _ _
  · have := List.eq_of_mem_replicate (List.mem_of_getElem? hv)
    subst this
    simp [Value.ownBlock] at hb

/-- what MatmulParts' loops keep: what was made ahead of them, the sums, the rows behind one another -/
structure PInv (w0 : World) (S R : Nat) (len : Nat → Nat) (f : Nat → List Int) (n : Nat) (cs : List Int) (u : Value) (vs : List Value) (wr : World) : Prop where
  bel : Below w0.heap.size w0 wr
  rows : Rows32 (w0.heap.size + 1) S R len f vs wr
  own : wr.ownsRow (w0.heap.size + 1) 21 1 u n (cs.map (.int .i32))
  dis : ∀ (r : Nat) (y : Value) (b : Nat), vs[r]? = some y → y.ownBlock = some b → u.ownBlock ≠ some b
  eS : S = w0.heap.size

theorem PInv.below {w0 : World} {S R : Nat} {len : Nat → Nat} {f : Nat → List Int} {n : Nat} {cs : List Int} {u : Value} {vs : List Value} {wr wc : World} (h : PInv w0 S R len f n cs u vs wr) (hb : Below wr.heap.size wr wc) : PInv w0 S R len f n cs u vs wc :=
  ⟨below_two h.bel hb, h.rows.below hb, own_below h.own hb, h.dis, h.eS⟩
/-- a row more, behind -/
theorem PInv.behind {w0 : World} {S R : Nat} {len : Nat → Nat} {f : Nat → List Int} {n : Nat} {cs : List Int} {u : Value} {vs : List Value} {wr : World} (h : PInv w0 S R len f n cs u vs wr) (g m cap : Nat) (ys : List Int) (hE : Elems .i32 wr (some ⟨g, 0, none⟩) m ys) (hn : n ≤ 16777216) (hm : m ≤ 16777216) :
    ∃ u' w', Sem.run Try.prog (Builtin.append_ #[27, 27] 27 #[u, .slice (some ⟨g, 0, none⟩) m cap]) wr = .ok u' w' ∧ PInv w0 S R len f (n + m) (cs ++ ys) u' vs w' ∧ wr.grownBy w' u.ownBlock := by
  have hle := h.rows.le
  obtain ⟨u', w', hrun, hown, hg, hnew⟩ := run_append_row wr (w0.heap.size + 1) u n cs g m cap ys h.own hE hn hm hle
  have hlt := h.rows.lt
  refine ⟨u', w', hrun, ⟨h.bel.grown hg (by omega) (fun b hb => by have := (h.own.lt b hb).1; omega), h.rows.kept hg ?_ (fun r y b hy hb e => h.dis r y b hy hb e.symm), hown, fun r y b hy hb => ?_, h.eS⟩, hg⟩
  · cases hb : u.ownBlock with
    | none => simp
    | some b => intro e; have := Option.some.inj e; have := (h.own.lt b hb).1; omega
  · rcases hnew with e | e
    · rw [e]; exact h.dis r y b hy hb
    · rw [e]; intro e2; have := Option.some.inj e2; have := (h.rows.blt hy hb).2; omega
/-- a number more in row r of the sums -/
theorem PInv.next {w0 : World} {S R : Nat} {len : Nat → Nat} {f : Nat → List Int} {n : Nat} {cs : List Int} {u : Value} {vs : List Value} {wr : World} (h : PInv w0 S R len f n cs u vs wr) {r : Nat} {v : Value} (hv : vs[r]? = some v) (hr : r < R) (x : Int) (hl : len r ≤ 16777216) :
    ∃ v' w', Sem.run Try.prog (Builtin.append_ #[27, 27] 27 #[v, .slice (some ⟨wr.heap.size, 0, none⟩) 1 1]) (wr.alloc (.cells #[.int .i32 x] 21)).drew = .ok v' w' ∧
      (∀ (len' : Nat → Nat) (f' : Nat → List Int), len' r = len r + 1 → f' r = f r ++ [x] → (∀ q, q ≠ r → len' q = len q ∧ f' q = f q) → PInv w0 S R len' f' n cs u (vs.set r v') (w'.setCell ⟨S, r, none⟩ v')) ∧
      (∃ old, w'.cell? ⟨S, r, none⟩ = some old) ∧ w'.frozen? ⟨S, r, none⟩ = false ∧ (∀ b o z, b < w0.heap.size → wr.cell? ⟨b, o, none⟩ = some z → w'.cell? ⟨b, o, none⟩ = some z) ∧
      Below w0.heap.size w0 (w'.setCell ⟨S, r, none⟩ v') ∧ wr.grownBy w' v.ownBlock ∧ (v'.ownBlock = v.ownBlock ∨ v'.ownBlock = some (wr.heap.size + 1)) := by
  have hle := h.rows.le
  have hlt := h.rows.lt
  obtain ⟨v', w', hrun, hg, hnx, hnew⟩ := h.rows.next hv hr x hl
  have hset := grownBy_setCell w' S r v'
  have hbel : Below w0.heap.size w0 (w'.setCell ⟨S, r, none⟩ v') := (h.bel.grown hg (by omega) (fun b hb => by have := (h.rows.blt hv hb).1; omega)).setCell (p := ⟨S, r, none⟩) (by show w0.heap.size ≤ S; have := h.eS; omega) _
  have hne : ∀ b, b < w0.heap.size → some b ≠ v.ownBlock := fun b hb e => by have := (h.rows.blt hv e.symm).1; omega
  have hSv : some S ≠ v.ownBlock := fun e => by have := (h.rows.blt hv e.symm).1; omega
  obtain ⟨v2, e2, cv, fv⟩ := h.rows.cell hr
  have hblk : w'.heap[S]? = some (.cells vs.toArray 27 (0, 0)) := (hg.block S (Nat.lt_of_lt_of_le hlt hle) hSv).trans h.rows.blk
  refine ⟨v', w', hrun, fun len' f' e1 e2 e3 => ⟨hbel, hnx len' f' e1 e2 e3, ?_, ?_, h.eS⟩, ⟨_, hg.cell cv hSv⟩, frozen_of_row w' S r _ _ hblk, fun b o z hb hc => hg.cell hc (hne b hb), hbel, hg, hnew⟩
  · have hk : w'.ownsRow (w0.heap.size + 1) 21 1 u n (cs.map (.int .i32)) := h.own.kept hg (by
      cases hb : u.ownBlock with
      | none => exact .inl rfl
      | some b => exact .inr (fun e => h.dis r v b hv e.symm hb))
    exact own_grown hk hset (by omega)
  · intro q y b hy hb
    rw [List.getElem?_set] at hy
    by_cases e : r = q
    · subst e
      rw [if_pos rfl, if_pos (by have := h.rows.len_; omega)] at hy
      cases hy
      rcases hnew with e3 | e3
      · rw [e3] at hb; exact h.dis r v b hv hb
      · intro e4
        rw [hb] at e3
        have := (h.own.lt b e4).2
        have := Option.some.inj e3
        omega
    · rw [if_neg e] at hy
      exact h.dis q y b hy hb

theorem PInv.congr {w0 : World} {S R : Nat} {len len' : Nat → Nat} {f f' : Nat → List Int} {n : Nat} {cs : List Int} {u : Value} {vs : List Value} {wr : World} (h : PInv w0 S R len f n cs u vs wr) (e : ∀ r, r < R → len' r = len r ∧ f' r = f r) : PInv w0 S R len' f' n cs u vs wr := by
  refine ⟨h.bel, ⟨h.rows.blk, h.rows.len_, h.rows.lt, h.rows.le, fun r v hv => ?_, h.rows.dis⟩, h.own, h.dis, h.eS⟩
  have hr : r < R := by
    have := (List.getElem?_eq_some_iff.1 hv).1
    have := h.rows.len_
    omega
  rw [(e r hr).1, (e r hr).2]
  exact h.rows.own r v hv

/-- what the inner loop keeps: k numbers in each row, one more in the first r; the row that is being spread -/
structure QInv (w0 : World) (S R k r : Nat) (f : Nat → Nat → List Int) (n : Nat) (cs : List Int) (gz : Nat) (zs : List Int) (u : Value) (vs : List Value) (wr : World) : Prop where
  p : PInv w0 S R (fun q => if q < r then k + 1 else k) (fun q => f q (if q < r then k + 1 else k)) n cs u vs wr
  z : Elems .i32 wr (some ⟨gz, 0, none⟩) R zs
  ne : ∀ (q : Nat) (y : Value) (b : Nat), vs[q]? = some y → y.ownBlock = some b → b ≠ gz
  nS : gz ≠ S
  lt : 0 < R → gz < wr.heap.size

theorem QInv.start {w0 : World} {S R k : Nat} {f : Nat → Nat → List Int} {n : Nat} {cs : List Int} {gz : Nat} {zs : List Int} {u : Value} {vs : List Value} {wr : World} (h : PInv w0 S R (fun _ => k) (fun q => f q k) n cs u vs wr) (hz : Elems .i32 wr (some ⟨gz, 0, none⟩) R zs) (hne : ∀ (q : Nat) (y : Value) (b : Nat), vs[q]? = some y → y.ownBlock = some b → b ≠ gz) (hS : gz ≠ S) (hlt : 0 < R → gz < wr.heap.size) : QInv w0 S R k 0 f n cs gz zs u vs wr :=
  ⟨h.congr fun r _ => by simp, hz, hne, hS, hlt⟩
theorem QInv.stop {w0 : World} {S R k : Nat} {f : Nat → Nat → List Int} {n : Nat} {cs : List Int} {gz : Nat} {zs : List Int} {u : Value} {vs : List Value} {wr : World} (h : QInv w0 S R k R f n cs gz zs u vs wr) : PInv w0 S R (fun _ => k + 1) (fun q => f q (k + 1)) n cs u vs wr :=
  h.p.congr fun r hr => by simp [hr]
theorem QInv.next {w0 : World} {S R k r : Nat} {f : Nat → Nat → List Int} {n : Nat} {cs : List Int} {gz : Nat} {zs : List Int} {u : Value} {vs : List Value} {wr : World} (h : QInv w0 S R k r f n cs gz zs u vs wr) (hr : r < R) (hk : k ≤ 1000) (x : Int) (hx : f r (k + 1) = f r k ++ [x]) :
    ∃ v v' w', wr.cell? ⟨S, r, none⟩ = some v ∧ Sem.run Try.prog (Builtin.append_ #[27, 27] 27 #[v, .slice (some ⟨wr.heap.size, 0, none⟩) 1 1]) (wr.alloc (.cells #[.int .i32 x] 21)).drew = .ok v' w' ∧
      (∃ old, w'.cell? ⟨S, r, none⟩ = some old) ∧ w'.frozen? ⟨S, r, none⟩ = false ∧ QInv w0 S R k (r + 1) f n cs gz zs u (vs.set r v') (w'.setCell ⟨S, r, none⟩ v') := by
  obtain ⟨v, hv, cv, fv⟩ := h.p.rows.cell hr
  obtain ⟨v', w', hrun, hnx, hold, hfr, _, _, hg, hnew⟩ := h.p.next hv hr x (by simp; omega)
  refine ⟨v, v', w', cv, hrun, hold, hfr, hnx _ _ (by simp) (by simp [hx]) (fun q hq => ?_), ?_, fun q y b hy hb => ?_, h.nS, ?_⟩
  · by_cases e : q < r
    · simp [e, show q < r + 1 by omega]
    · simp [e, show ¬ q < r + 1 by omega]
  · have hz := h.z.grown hg (fun e => h.ne r v gz hv e.symm rfl)
    exact hz.other (grownBy_setCell _ _ _ _) h.nS
  · rw [List.getElem?_set] at hy
    by_cases e : r = q
    · subst e
      rw [if_pos rfl, if_pos (by have := h.p.rows.len_; omega)] at hy
      cases hy
      rcases hnew with e3 | e3
      · rw [e3] at hb; exact h.ne r v b hv hb
      · rw [hb] at e3
        have := Option.some.inj e3
        have := h.lt (by omega)
        omega
    · rw [if_neg e] at hy
      exact h.ne q y b hy hb
  · intro h0
    have := h.lt h0
    have := hg.size
    simp
    omega

theorem QInv.step {w0 : World} {S R k r : Nat} {f : Nat → Nat → List Int} {n : Nat} {cs : List Int} {gz : Nat} {zs : List Int} {u : Value} {vs : List Value} {wr : World} (h : QInv w0 S R k r f n cs gz zs u vs wr) (hr : r < R) (hk : k ≤ 1000) (x : Int) (hx : f r (k + 1) = f r k ++ [x]) :
    ∃ v g cap w', wr.cell? ⟨S, r, none⟩ = some v ∧ Sem.run Try.prog (Builtin.append_ #[27, 27] 27 #[v, .slice (some ⟨wr.heap.size, 0, none⟩) 1 1]) (wr.alloc (.cells #[.int .i32 x] 21)).drew = .ok (.slice (some ⟨g, 0, none⟩) (k + 1) cap) w' ∧
      (∃ old, w'.cell? ⟨S, r, none⟩ = some old) ∧ w'.frozen? ⟨S, r, none⟩ = false ∧ QInv w0 S R k (r + 1) f n cs gz zs u (vs.set r (.slice (some ⟨g, 0, none⟩) (k + 1) cap)) (w'.setCell ⟨S, r, none⟩ (.slice (some ⟨g, 0, none⟩) (k + 1) cap)) := by
  obtain ⟨v, v', w', h1, h2, h3, h4, h5⟩ := h.next hr hk x hx
  have hv' : (vs.set r v')[r]? = some v' := by
    have := h.p.rows.len_
    rw [List.getElem?_set]; simp; omega
  have ho := h5.p.rows.own r v' hv'
  rw [if_pos (by omega)] at ho
  rcases ho.2 with ⟨_, h0⟩ | ⟨g, cap, cur, rfl, _⟩
  · omega
  · exact ⟨v, g, cap, w', h1, h2, h3, h4, h5⟩

end Go.Proofs.Ytkiedganojaniaa
