import Derived.Test.YtdclfcfdadkmeaaDoorJ01
import Derived.Test.YtdclfcfdadkmeaaDoorJ10
import Derived.IntWalk
import Derived.Test.YtdclfcfdadkmeaaDoorJ05
import Derived.WideKeyPair
import Derived.Maps.OwnSet
import Derived.ProofKit
/-
  Which model: a struct of six ints, a number of 64 bits and a row of numbers of 8 bits, as a walk is told of it.
-/
namespace Go.Proofs.YtdclfcfdadkmeaaDoor
open Go.RowKit Go.ChangeShapes Go.WideShapes Go.Deep Go.Joins Go.WideMaps
set_option linter.unusedVariables false

section
variable {H : Type} {enc : TypeId × Value → H} {w : World}
set_option maxRecDepth 100000 in
theorem six_of_trod {fuel : Nat} {c0 c1 c2 c3 c4 c5 : Value} {y : DataW H × List MemPlace} (hf : DataW.trod enc Tryd.prog w 0 (fun _ => true) true fuel 22 [c0, c1, c2, c3, c4, c5] = some y) :
    ∃ l w0 h0 i v0 p0 : Int, c0 = .int .i64 l ∧ c1 = .int .i64 w0 ∧ c2 = .int .i64 h0 ∧ c3 = .int .i64 i ∧ c4 = .int .i64 v0 ∧ c5 = .int .i64 p0 ∧ Six l w0 h0 i v0 p0 := by
  have A := arr6
  cases fuel with
  | zero => simp [DataW.trod] at hf
  | succ n =>
    rw [DataW.trod_step] at hf
    unfold DataW.trodStep at hf
    simp only [A.hu] at hf
    rw [if_pos (by rw [A.size]; rfl)] at hf
    simp only [Option.map_eq_some_iff] at hf
    obtain ⟨xs, hx, e1⟩ := hf
    rw [show List.range 6 = [0, 1, 2, 3, 4, 5] from rfl, List.mapM_cons, List.mapM_cons, List.mapM_cons, List.mapM_cons, List.mapM_cons, List.mapM_cons, List.mapM_nil] at hx
    simp only [bind, Option.bind_eq_some_iff, pure, Option.some.injEq, A.one] at hx
    obtain ⟨y0, g0, _, ⟨y1, g1, _, ⟨y2, g2, _, ⟨y3, g3, _, ⟨y4, g4, _, ⟨y5, g5, _⟩, _⟩, _⟩, _⟩, _⟩, _⟩ := hx
    obtain ⟨z0, rfl, w0⟩ := int_of (c := c0) (y := y0) g0
    obtain ⟨z1, rfl, w1⟩ := int_of (c := c1) (y := y1) g1
    obtain ⟨z2, rfl, w2⟩ := int_of (c := c2) (y := y2) g2
    obtain ⟨z3, rfl, w3⟩ := int_of (c := c3) (y := y3) g3
    obtain ⟨z4, rfl, w4⟩ := int_of (c := c4) (y := y4) g4
    obtain ⟨z5, rfl, w5⟩ := int_of (c := c5) (y := y5) g5
    exact ⟨z0, z1, z2, z3, z4, z5, rfl, rfl, rfl, rfl, rfl, rfl, w0, w1, w2, w3, w4, w5⟩

theorem cells_seeds9 : Tryd.prog.cellsOf 52 = 8 := by kernel_rfl
set_option maxRecDepth 100000 in
theorem open_seeds9 {r : Reach} {b0 : Nat} {v : Value} {d : DataW H} {p : List MemPlace} (hv : Value.okWide Tryd.prog w r b0 52 v) (h : DataW.Trod enc Tryd.prog w 0 (fun _ => true) true 52 v d p) :
    ∃ (l w0 h0 i v0 p0 sd : Int) (q : Rw), v = .agg #[.int .i64 l, .int .i64 w0, .int .i64 h0, .int .i64 i, .int .i64 v0, .int .i64 p0, .int .u64 sd, .slice q.a q.n q.cap] ∧ (Six l w0 h0 i v0 p0 ∧ (Lit.int .u64 sd).wf = true ∧ q.In .i8 w) := by
  obtain ⟨cs, rfl, hsz⟩ := okWide_struct Tryd.underlying52 hv
  obtain ⟨l⟩ := cs
  match l, hsz.trans cells_seeds9 with
  | [c0, c1, c2, c3, c4, c5, c6, c7], _ =>
    obtain ⟨fuel, hf⟩ := h
    obtain ⟨xs, n, _, hx, _, hlen, hg⟩ := DataW.trod_struct Tryd.underlying52 hf
    match xs, hlen with
    | [y0, y1, y2], _ =>
      have g0 : DataW.trod enc Tryd.prog w 0 (fun _ => true) true n 22 (([c0, c1, c2, c3, c4, c5, c6, c7].drop 0).take (Tryd.prog.cellsOf 22)) = some y0 := hg 0 _ rfl
      have g1 : DataW.trod enc Tryd.prog w 0 (fun _ => true) true n 23 (([c0, c1, c2, c3, c4, c5, c6, c7].drop 6).take (Tryd.prog.cellsOf 23)) = some y1 := hg 1 _ rfl
      have g2 : DataW.trod enc Tryd.prog w 0 (fun _ => true) true n 24 (([c0, c1, c2, c3, c4, c5, c6, c7].drop 7).take (Tryd.prog.cellsOf 24)) = some y2 := hg 2 _ rfl
      rw [cells_six] at g0
      rw [show Tryd.prog.cellsOf 23 = 1 by kernel_rfl] at g1
      rw [show Tryd.prog.cellsOf 24 = 1 by kernel_rfl] at g2
      obtain ⟨z0, z1, z2, z3, z4, z5, rfl, rfl, rfl, rfl, rfl, rfl, hs⟩ := six_of_trod (c0 := c0) (c1 := c1) (c2 := c2) (c3 := c3) (c4 := c4) (c5 := c5) g0
      obtain ⟨x, e3, _, wx⟩ := DataW.trod_int Tryd.underlying23 (show DataW.trod enc Tryd.prog w 0 (fun _ => true) true n 23 [c6] = some y1 from g1)
      simp only [List.cons.injEq, and_true] at e3
      subst e3
      obtain ⟨q, rfl, hq⟩ := rw_of_reads Tryd.underlying24 Tryd.underlying89 (by kernel_rfl) (show DataW.trod enc Tryd.prog w 0 (fun _ => true) true n 24 [c7] = some y2 from g2)
      exact ⟨z0, z1, z2, z3, z4, z5, x, q, rfl, hs, wx, hq⟩

theorem cells_seeds8 : Tryd.prog.cellsOf 26 = 8 := by kernel_rfl
set_option maxRecDepth 100000 in
theorem open_seeds8 {r : Reach} {b0 : Nat} {v : Value} {d : DataW H} {p : List MemPlace} (hv : Value.okWide Tryd.prog w r b0 26 v) (h : DataW.Trod enc Tryd.prog w 0 (fun _ => true) true 26 v d p) :
    ∃ (l w0 h0 i v0 p0 sd : Int) (q : Rw), v = .agg #[.int .i64 l, .int .i64 w0, .int .i64 h0, .int .i64 i, .int .i64 v0, .int .i64 p0, .int .u64 sd, .slice q.a q.n q.cap] ∧ (Six l w0 h0 i v0 p0 ∧ (Lit.int .u64 sd).wf = true ∧ q.In .i8 w) := by
  obtain ⟨cs, rfl, hsz⟩ := okWide_struct Tryd.underlying26 hv
  obtain ⟨l⟩ := cs
  match l, hsz.trans cells_seeds8 with
  | [c0, c1, c2, c3, c4, c5, c6, c7], _ =>
    obtain ⟨fuel, hf⟩ := h
    obtain ⟨xs, n, _, hx, _, hlen, hg⟩ := DataW.trod_struct Tryd.underlying26 hf
    match xs, hlen with
    | [y0, y1, y2], _ =>
      have g0 : DataW.trod enc Tryd.prog w 0 (fun _ => true) true n 22 (([c0, c1, c2, c3, c4, c5, c6, c7].drop 0).take (Tryd.prog.cellsOf 22)) = some y0 := hg 0 _ rfl
      have g1 : DataW.trod enc Tryd.prog w 0 (fun _ => true) true n 23 (([c0, c1, c2, c3, c4, c5, c6, c7].drop 6).take (Tryd.prog.cellsOf 23)) = some y1 := hg 1 _ rfl
      have g2 : DataW.trod enc Tryd.prog w 0 (fun _ => true) true n 24 (([c0, c1, c2, c3, c4, c5, c6, c7].drop 7).take (Tryd.prog.cellsOf 24)) = some y2 := hg 2 _ rfl
      rw [cells_six] at g0
      rw [show Tryd.prog.cellsOf 23 = 1 by kernel_rfl] at g1
      rw [show Tryd.prog.cellsOf 24 = 1 by kernel_rfl] at g2
      obtain ⟨z0, z1, z2, z3, z4, z5, rfl, rfl, rfl, rfl, rfl, rfl, hs⟩ := six_of_trod (c0 := c0) (c1 := c1) (c2 := c2) (c3 := c3) (c4 := c4) (c5 := c5) g0
      obtain ⟨x, e3, _, wx⟩ := DataW.trod_int Tryd.underlying23 (show DataW.trod enc Tryd.prog w 0 (fun _ => true) true n 23 [c6] = some y1 from g1)
      simp only [List.cons.injEq, and_true] at e3
      subst e3
      obtain ⟨q, rfl, hq⟩ := rw_of_reads Tryd.underlying24 Tryd.underlying89 (by kernel_rfl) (show DataW.trod enc Tryd.prog w 0 (fun _ => true) true n 24 [c7] = some y2 from g2)
      exact ⟨z0, z1, z2, z3, z4, z5, x, q, rfl, hs, wx, hq⟩
end

end Go.Proofs.YtdclfcfdadkmeaaDoor

/-
  Weights made of rows that lie each in a block of its own: what they are, their runs, their numbers.
-/
namespace Go.Proofs.YtdclfcfdadkmeaaDoor
open Go.RowKit
set_option linter.unusedVariables false

/-- row j: where it lies, its numbers -/
def rowG (G : Nat → Nat) (n : Nat) (V : Nat → List Int) (j : Nat) : Rw := ⟨some ⟨G j, 0, none⟩, n, n, V j⟩
def matG (G : Nat → Nat) (r c : Nat) (V : Nat → List Int) (j : Nat) : Gr := ⟨r, c, some ⟨G j, 0, none⟩, r * c, r * c, V j⟩
def blkG (s : Sz) (G : Nat → Nat) (V : Nat → List Int) (c : Nat) : Bk7 :=
  ⟨rowG G s.w V (1 + 8 * c), rowG G s.w V (1 + 8 * c + 5), matG G s.w s.w V (1 + 8 * c + 1), matG G s.w s.w V (1 + 8 * c + 2), matG G s.w s.w V (1 + 8 * c + 3), matG G s.w s.w V (1 + 8 * c + 4), matG G s.i s.w V (1 + 8 * c + 6), matG G s.w s.i V (1 + 8 * c + 7)⟩
def mkW (s : Sz) (G : Nat → Nat) (b : Nat) (V : Nat → List Int) : Wt7 :=
  ⟨s.l, s.w, s.h, s.i, s.v, s.p, matG G s.v s.w V 0, some ⟨b, 0, none⟩, s.l, s.l, (List.range s.l).map (blkG s G V), rowG G s.w V (8 * s.l + 1), matG G s.v s.w V (8 * s.l + 2)⟩
theorem mkW_cells (s : Sz) (G : Nat → Nat) (b : Nat) (V : Nat → List Int) : (mkW s G b V).cells = wval s.l s.w s.h s.i s.v s.p (G 0) b (G (8 * s.l + 1)) (G (8 * s.l + 2)) := rfl
theorem blkG_cells (s : Sz) (G : Nat → Nat) (V : Nat → List Int) (c : Nat) : (blkG s G V c).cells = bkv s.w s.i (fun k => G (1 + 8 * c + k)) := rfl

/-- run j, by its number -/
def runG (s : Sz) (G : Nat → Nat) (V : Nat → List Int) (j : Nat) : Bool × Rw := (((rowsL s).getD j default).1, rowG G ((rowsL s).getD j default).2 V j)
theorem getD_of {α : Type} [Inhabited α] {l : List α} {j : Nat} {x : α} (h : l[j]? = some x) : l.getD j default = x := by rw [List.getD_eq_getElem?_getD, h]; rfl

theorem blkG_runs (s : Sz) (G : Nat → Nat) (V : Nat → List Int) (c : Nat) (hc : c < s.l) : (blkG s G V c).runs = (List.range 8).map (fun k => runG s G V (1 + 8 * c + k)) := by
  have h : ∀ k r, k < 8 → (blk7 s)[k]? = some r → runG s G V (1 + 8 * c + k) = (r.1, rowG G r.2 V (1 + 8 * c + k)) := by
    intro k r hk hr
    unfold runG
    rw [getD_of ((rowsL_blk s c k hc hk).trans hr)]
  show _ = [runG s G V (1 + 8 * c + 0), runG s G V (1 + 8 * c + 1), runG s G V (1 + 8 * c + 2), runG s G V (1 + 8 * c + 3), runG s G V (1 + 8 * c + 4), runG s G V (1 + 8 * c + 5), runG s G V (1 + 8 * c + 6), runG s G V (1 + 8 * c + 7)]
  rw [h 0 _ (by omega) rfl, h 1 _ (by omega) rfl, h 2 _ (by omega) rfl, h 3 _ (by omega) rfl, h 4 _ (by omega) rfl, h 5 _ (by omega) rfl, h 6 _ (by omega) rfl, h 7 _ (by omega) rfl]
  rfl

theorem range_app (f : Nat → Bool × Rw) (a b : Nat) : (List.range (a + b)).map f = (List.range a).map f ++ (List.range b).map (fun k => f (a + k)) := by
  rw [List.range_add, List.map_append, List.map_map]; rfl

theorem mkW_runs (s : Sz) (G : Nat → Nat) (b : Nat) (V : Nat → List Int) : (mkW s G b V).runs = (List.range (8 * s.l + 3)).map (runG s G V) := by
  have h0 : runG s G V 0 = (false, (matG G s.v s.w V 0).row) := by unfold runG; rw [getD_of (rowsL_zero s)]; rfl
  have h1 : runG s G V (8 * s.l + 1) = (true, rowG G s.w V (8 * s.l + 1)) := by unfold runG; rw [getD_of (rowsL_last s)]
  have h2 : runG s G V (8 * s.l + 2) = (false, (matG G s.v s.w V (8 * s.l + 2)).row) := by unfold runG; rw [getD_of (rowsL_head s)]; rfl
  have hb : ∀ n, n ≤ s.l → bruns ((List.range n).map (blkG s G V)) = (List.range (8 * n)).map (fun k => runG s G V (1 + k)) := by
    intro n
    induction n with
    | zero => intro _; rfl
    | succ n ih =>
      intro hn
      have e : bruns ((List.range (n + 1)).map (blkG s G V)) = bruns ((List.range n).map (blkG s G V)) ++ (blkG s G V n).runs := by
        unfold bruns
        rw [List.range_succ, List.map_append, List.flatMap_append]
        simp
      rw [e, ih (by omega), blkG_runs s G V n (by omega), show 8 * (n + 1) = 8 * n + 8 by omega, range_app]
      congr 1
  unfold Wt7.runs
  show (false, (matG G s.v s.w V 0).row) :: bruns ((List.range s.l).map (blkG s G V)) ++ [(true, rowG G s.w V (8 * s.l + 1)), (false, (matG G s.v s.w V (8 * s.l + 2)).row)] = _
  rw [hb s.l (Nat.le_refl _), ← h0, ← h1, ← h2, show 8 * s.l + 3 = (1 + 8 * s.l) + 2 by omega, range_app, range_app]
  have e2 : (List.range 2).map (fun k => runG s G V (1 + 8 * s.l + k)) = [runG s G V (8 * s.l + 1), runG s G V (8 * s.l + 2)] := by
    show [runG s G V (1 + 8 * s.l + 0), runG s G V (1 + 8 * s.l + 1)] = _
    rw [show 1 + 8 * s.l + 0 = 8 * s.l + 1 by omega, show 1 + 8 * s.l + 1 = 8 * s.l + 2 by omega]
  rw [e2]
  rfl

/-- the numbers of weights whose row j has the numbers f (off j), f (off j + 1), .. -/
theorem flat_of (rs : List (Bool × Nat)) (f : Nat → Int) (g : Nat → List Int) (h : ∀ j, j < rs.length → g j = (List.range (rs.getD j default).2).map (fun x => f (tot (rs.take j) + x))) :
    ∀ n, n ≤ rs.length → ((List.range n).map g).flatten = (List.range (tot (rs.take n))).map f := by
  intro n
  induction n with
  | zero => intro _; rfl
  | succ n ih =>
    intro hn
    rw [List.range_succ, List.map_append, List.flatten_append, ih (by omega), tot_step _ _ (by omega), List.range_add, List.map_append, List.map_map]
    congr 1
    simp only [List.map_cons, List.map_nil, List.flatten_cons, List.flatten_nil, List.append_nil]
    rw [h n (by omega)]
    rfl
theorem mkW_flat (s : Sz) (G : Nat → Nat) (b : Nat) (V : Nat → List Int) (f : Nat → Int) (h : ∀ j, j < 8 * s.l + 3 → V j = (List.range ((rowsL s).getD j default).2).map (fun x => f (tot ((rowsL s).take j) + x))) : (mkW s G b V).flat = (List.range (cnt s)).map f := by
  unfold Wt7.flat
  rw [mkW_runs, List.flatMap_map]
  have h1 := flat_of (rowsL s) f V (fun j hj => h j (by rw [rowsL_len] at hj; exact hj)) (8 * s.l + 3) (by rw [rowsL_len]; exact Nat.le_refl _)
  rw [List.take_of_length_le (by rw [rowsL_len]; exact Nat.le_refl _), tot_rows] at h1
  rw [← h1]
  rfl

theorem blk7_len (s : Sz) : (blk7 s).length = 8 := rfl
/-- such weights stand in memory -/
theorem mkW_in (s : Sz) (ok : s.Ok) (G : Nat → Nat) (b : Nat) (V : Nat → List Int) (w : World) (cs : Array Value) (hV : ∀ j r, (rowsL s)[j]? = some r → MineK .i8 w (G j) 89 (V j) ∧ (V j).length = r.2 ∧ ∀ x ∈ V j, (Lit.int .i8 x).wf = true)
    (hb : Box w b 101 cs) (hcs : ∀ c, c < s.l → ∀ k, k < 20 → cs[c * 20 + k]? = (bkv s.w s.i (fun k => G (1 + 8 * c + k)))[k]?) : (mkW s G b V).In w := by
  obtain ⟨hl, hh, hw0, hi, hv, hp⟩ := ok.bd
  have a1 := mul_bd hv.2 hw0.2
  have a2 := mul_bd hw0.2 hw0.2
  have a3 := mul_bd hi.2 hw0.2
  have a4 := mul_bd hw0.2 hi.2
  have hrow : ∀ j n, (rowsL s)[j]? = some (true, n) ∨ (rowsL s)[j]? = some (false, n) → n ≤ 131072 → Elems .i8 w (some ⟨G j, 0, none⟩) n (V j) := by
    intro j n hj hn
    have : ∃ r, (rowsL s)[j]? = some r ∧ r.2 = n := by rcases hj with h | h <;> exact ⟨_, h, rfl⟩
    obtain ⟨r, h1, h2⟩ := this
    obtain ⟨m1, m2, m3⟩ := hV j r h1
    exact m1.elems (by rw [m2, h2]) (by omega) m3
  have hR : ∀ j n, (rowsL s)[j]? = some (true, n) ∨ (rowsL s)[j]? = some (false, n) → n ≤ 131072 → (rowG G n V j).In .i8 w := fun j n hj hn =>
    ⟨hrow j n hj hn, Nat.le_refl _, by show n ≤ _; omega, ⟨fun e => (by cases e), fun x e _ => (by cases e; rfl)⟩⟩
  have hM : ∀ j r c, (rowsL s)[j]? = some (true, r * c) ∨ (rowsL s)[j]? = some (false, r * c) → r * c ≤ 131072 → r ≤ 1000 → c ≤ 1000 → (matG G r c V j).In8 w := fun j r c hj hn hr hc =>
    ⟨hrow j _ hj hn, Nat.le_refl _, by show r * c ≤ _; omega, ⟨fun e => (by cases e), fun x e _ => (by cases e; rfl)⟩, by show _ ≤ (r : Int); omega, by show (r : Int) ≤ _; omega, by show _ ≤ (c : Int); omega, by show (c : Int) ≤ _; omega⟩
  have hB : ∀ c, c < s.l → (blkG s G V c).In w := by
    intro c hc
    have e : ∀ k r, k < 8 → (blk7 s)[k]? = some r → (rowsL s)[1 + 8 * c + k]? = some r := fun k r hk hr => (rowsL_blk s c k hc hk).trans hr
    exact ⟨hR _ _ (.inl (e 0 _ (by omega) rfl)) (by omega), hR _ _ (.inl (e 5 _ (by omega) rfl)) (by omega), hM _ _ _ (.inr (e 1 _ (by omega) rfl)) (by omega) (by omega) (by omega), hM _ _ _ (.inr (e 2 _ (by omega) rfl)) (by omega) (by omega) (by omega), hM _ _ _ (.inr (e 3 _ (by omega) rfl)) (by omega) (by omega) (by omega), hM _ _ _ (.inr (e 4 _ (by omega) rfl)) (by omega) (by omega) (by omega), hM _ _ _ (.inr (e 6 _ (by omega) rfl)) (by omega) (by omega) (by omega), hM _ _ _ (.inr (e 7 _ (by omega) rfl)) (by omega) (by omega) (by omega)⟩
  refine ⟨hM 0 _ _ (.inr (rowsL_zero s)) (by omega) (by omega) (by omega), hM _ _ _ (.inr (rowsL_head s)) (by omega) (by omega) (by omega), hR _ _ (.inl (rowsL_last s)) (by omega), ⟨by simp [mkW], by show s.l ≤ _; omega, ?_, fun _ => ⟨b, 0, rfl, hb.lt, ?_⟩⟩, Nat.le_refl _, by show s.l ≤ _; omega, ?_⟩
  · intro x hx
    obtain ⟨c, hc, rfl⟩ := List.mem_map.1 hx
    exact hB c (List.mem_range.1 hc)
  · intro c hc k hk
    have hc2 : c < s.l := hc
    rw [show (mkW s G b V).bs.getD c default = blkG s G V c by simp [mkW, List.getD, hc2], blkG_cells, Nat.zero_add, hb.cell, hcs c hc2 k hk]
  · exact ⟨by show _ ≤ (s.l : Int) ∧ (s.l : Int) ≤ _; omega, by show _ ≤ (s.w : Int) ∧ (s.w : Int) ≤ _; omega, by show _ ≤ (s.h : Int) ∧ (s.h : Int) ≤ _; omega⟩

end Go.Proofs.YtdclfcfdadkmeaaDoor

/-
  Rows that are filled number by number, one behind the other: what is so after P numbers.
-/
namespace Go.Proofs.YtdclfcfdadkmeaaDoor
open Go.RowKit
set_option linter.unusedVariables false

def off7 (s : Sz) (j : Nat) : Nat := tot ((rowsL s).take j)
def num7 (s : Sz) (j : Nat) : Nat := ((rowsL s).getD j default).2
/-- row j after P numbers -/
def fillV (s : Sz) (f : Nat → Int) (P j : Nat) : List Int := (List.range (num7 s j)).map (fun x => if off7 s j + x < P then f (off7 s j + x) else 0)
theorem fillV_len (s : Sz) (f : Nat → Int) (P j : Nat) : (fillV s f P j).length = num7 s j := by simp [fillV]
theorem fillV_zero (s : Sz) (f : Nat → Int) (j : Nat) : fillV s f 0 j = List.replicate (num7 s j) 0 := by
  unfold fillV
  apply List.ext_getElem (by simp)
  intro i h1 h2
  simp
theorem off7_succ (s : Sz) (j : Nat) (hj : j < 8 * s.l + 3) : off7 s (j + 1) = off7 s j + num7 s j := tot_step _ _ (by rw [rowsL_len]; exact hj)
theorem off7_mono (s : Sz) (i j : Nat) (h : i ≤ j) : off7 s i ≤ off7 s j := by
  unfold off7
  have e : (rowsL s).take i = ((rowsL s).take j).take i := by rw [List.take_take, Nat.min_eq_left h]
  rw [e]; exact tot_take_le _ _
theorem off7_end (s : Sz) : off7 s (8 * s.l + 3) = cnt s := by
  unfold off7
  rw [List.take_of_length_le (by rw [rowsL_len]; exact Nat.le_refl _), tot_rows]
theorem off7_lt (s : Sz) (j i : Nat) (hj : j < 8 * s.l + 3) (hi : i < num7 s j) : off7 s j + i < cnt s := by
  have h1 := off7_succ s j hj
  have h2 := off7_mono s (j + 1) (8 * s.l + 3) (by omega)
  rw [off7_end] at h2
  omega
theorem fillV_same (s : Sz) (f : Nat → Int) (j i : Nat) (hi : i < num7 s j) : (fillV s f (off7 s j + i) j).set i (f (off7 s j + i)) = fillV s f (off7 s j + i + 1) j := by
  unfold fillV
  apply List.ext_getElem (by simp)
  intro k h1 h2
  rw [List.getElem_set]
  simp only [List.getElem_map, List.getElem_range]
  by_cases e : i = k
  · subst e; rw [if_pos rfl, if_pos (by omega)]
  · rw [if_neg e]
    by_cases h : k < i
    · rw [if_pos (by omega), if_pos (by omega)]
    · rw [if_neg (by omega), if_neg (by omega)]
theorem fillV_other (s : Sz) (f : Nat → Int) (j j' i : Nat) (hj : j < 8 * s.l + 3) (hj' : j' < 8 * s.l + 3) (hi : i < num7 s j) (hne : j' ≠ j) : fillV s f (off7 s j + i) j' = fillV s f (off7 s j + i + 1) j' := by
  unfold fillV
  apply List.map_congr_left
  intro x hx
  have hx2 := List.mem_range.1 hx
  have hne2 : off7 s j' + x ≠ off7 s j + i := by
    rcases Nat.lt_or_ge j' j with h | h
    · have h1 := off7_succ s j' hj'
      have h2 := off7_mono s (j' + 1) j h
      omega
    · have h1 := off7_succ s j hj
      have h2 := off7_mono s (j + 1) j' (by omega)
      omega
  by_cases h : off7 s j' + x < off7 s j + i
  · rw [if_pos h, if_pos (by omega)]
  · rw [if_neg h, if_neg (by omega)]
theorem fillV_end (s : Sz) (f : Nat → Int) (j : Nat) (hj : j < 8 * s.l + 3) : fillV s f (cnt s) j = (List.range ((rowsL s).getD j default).2).map (fun x => f (tot ((rowsL s).take j) + x)) := by
  unfold fillV
  apply List.map_congr_left
  intro x hx
  rw [if_pos (off7_lt s j x hj (List.mem_range.1 hx))]
  rfl
theorem fillV_wf (s : Sz) (f : Nat → Int) (hf : ∀ k, (Lit.int .i8 (f k)).wf = true) (P j : Nat) : ∀ x ∈ fillV s f P j, (Lit.int .i8 x).wf = true := by
  intro x hx
  obtain ⟨k, _, rfl⟩ := List.mem_map.1 hx
  show (Lit.int .i8 (if _ then _ else _)).wf = true
  split
  · exact hf _
  · rfl

/-- the world after P numbers: the closure's cell, the rows, all else as it was -/
structure FillW (s : Sz) (w3 : World) (G : Nat → Nat) (c : Nat) (Tc : TypeId) (St : Nat → Value) (f : Nat → Int) (P : Nat) (wr : World) : Prop where
  cell : Box wr c Tc #[St P]
  rows : ∀ j, j < 8 * s.l + 3 → MineK .i8 wr (G j) 89 (fillV s f P j)
  keep : ∀ k, k < w3.heap.size → k ≠ c → (∀ j, j < 8 * s.l + 3 → k ≠ G j) → wr.heap[k]? = w3.heap[k]?
  bel : Below c w3 wr

theorem mine_box {w : World} {g : Nat} {T : TypeId} {cs : List Int} (h : MineK .i8 w g T cs) : Box w g T (cs.map (Value.int .i8)).toArray := h
theorem box_ne {w : World} {g g' : Nat} {T T' : TypeId} {cs cs' : Array Value} (h : Box w g T cs) (h' : Box w g' T' cs') (hT : T ≠ T') : g ≠ g' := by
  intro e
  subst e
  have := h.symm.trans h'
  simp at this
  exact hT this.2

/-- a stretch that makes new blocks alone -/
theorem FillW.more {s : Sz} {w3 wr w' : World} {G : Nat → Nat} {c : Nat} {Tc : TypeId} {St : Nat → Value} {f : Nat → Int} {P : Nat} (h : FillW s w3 G c Tc St f P wr) (hb : Below wr.heap.size wr w') : FillW s w3 G c Tc St f P w' := by
  refine ⟨h.cell.bel hb, fun j hj => (h.rows j hj).below hb (h.rows j hj).lt, fun k hk h1 h2 => (hb.block k (Nat.lt_of_lt_of_le hk h.bel.size)).trans (h.keep k hk h1 h2), h.bel.trans (hb.mono (Nat.le_of_lt h.cell.lt))⟩

/-- one number more: behind the closure's call, and behind the store -/
theorem FillW.next {s : Sz} {w3 wr : World} {G : Nat → Nat} {c : Nat} {Tc : TypeId} {St : Nat → Value} {f : Nat → Int} {j i : Nat} (h : FillW s w3 G c Tc St f (off7 s j + i) wr) (hj : j < 8 * s.l + 3) (hi : i < num7 s j) (hT : Tc ≠ 89)
    (hd : ∀ a b, a < 8 * s.l + 3 → b < 8 * s.l + 3 → a ≠ b → G a ≠ G b) (hcG : ∀ a, a < 8 * s.l + 3 → c ≤ G a) (w1 : World) (d : Nat) (hw1 : w1 = (wr.setCell ⟨c, 0, none⟩ (St (off7 s j + i + 1))).drewN d) :
    (∃ u, w1.cell? ⟨G j, i, none⟩ = some u) ∧ w1.frozen? ⟨G j, i, none⟩ = false ∧ FillW s w3 G c Tc St f (off7 s j + i + 1) (w1.setCell ⟨G j, i, none⟩ (.int .i8 (f (off7 s j + i)))) ∧ (∀ q T cs, q ≠ c → q ≠ G j → Box wr q T cs → Box (w1.setCell ⟨G j, i, none⟩ (.int .i8 (f (off7 s j + i)))) q T cs) ∧ (∀ q T cs, q ≠ c → Box wr q T cs → Box w1 q T cs) ∧ w1.heap.size = wr.heap.size := by
  subst hw1
  have hcg : ∀ a, a < 8 * s.l + 3 → c ≠ G a := fun a ha => box_ne h.cell (mine_box (h.rows a ha)) hT
  have g1 : wr.grownBy ((wr.setCell ⟨c, 0, none⟩ (St (off7 s j + i + 1))).drewN d) (some c) := (grownBy_setCell wr c 0 _).trans (grownBy_drewN _ d _)
  have g2 := grownBy_setCell ((wr.setCell ⟨c, 0, none⟩ (St (off7 s j + i + 1))).drewN d) (G j) i (.int .i8 (f (off7 s j + i)))
  have hM := fun a ha => (h.rows a ha).kept g1 (by simpa using fun e => hcg a ha e.symm)
  have hlen := fillV_len s f (off7 s j + i) j
  have hC : Box ((wr.setCell ⟨c, 0, none⟩ (St (off7 s j + i + 1))).drewN d) c Tc #[St (off7 s j + i + 1)] := h.cell.set 0 (St (off7 s j + i + 1))
  refine ⟨⟨_, (hM j hj).cell (k := i) (by omega)⟩, (hM j hj).frozen i, ⟨hC.kept g2 (by simpa using hcg j hj), fun a ha => ?_, fun k hk h1 h2 => ?_, ?_⟩, fun q T cs h1 h2 hb => (hb.kept g1 (by simpa using h1)).kept g2 (by simpa using h2), fun q T cs h1 hb => hb.kept g1 (by simpa using h1), by simp⟩
  · by_cases e : a = j
    · subst e
      rw [← fillV_same s f a i hi]
      exact (hM a ha).set i _
    · rw [← fillV_other s f j a i hj ha hi e]
      exact (hM a ha).kept g2 (by simpa using hd a j ha hj e)
  · have hk2 : k < wr.heap.size := Nat.lt_of_lt_of_le hk h.bel.size
    exact (g2.block k (Nat.lt_of_lt_of_le hk2 g1.size) (by simpa using h2 j hj)).trans ((g1.block k hk2 (by simpa using h1)).trans (h.keep k hk h1 h2))
  · exact (h.bel.trans ((Below.refl c wr).grown g1 (Nat.le_of_lt h.cell.lt) (fun k hk => by cases hk; exact Nat.le_refl _))).setCell (p := ⟨G j, i, none⟩) (hcG j hj) _

end Go.Proofs.YtdclfcfdadkmeaaDoor

/-
  The next number of 64 bits, in plain mathematics.
-/
namespace Go.Proofs.YtdclfcfdadkmeaaDoor
open Go.RowKit
set_option linter.unusedVariables false

/-- the next of the numbers of 64 bits -/
def nxt (x : Nat) : Nat := (x * 6364136223846793005 + 1442695040888963407) % 18446744073709551616
/-- the k-th of them, from the seed on -/
def seedK (x : Nat) : Nat → Nat
  | 0 => x
  | k + 1 => nxt (seedK x k)
/-- the number that it gives -/
def numK (gain : Bool) (y : Nat) : Int := let n : Int := (y / 72057594037927936 : Nat) - 128; if gain then n.tdiv 16 + 16 else n
theorem nxt_lt (x : Nat) : nxt x < 18446744073709551616 := Nat.mod_lt _ (by decide)
theorem seedK_lt (x : Nat) (hx : x < 18446744073709551616) (k : Nat) : seedK x k < 18446744073709551616 := by
  cases k with
  | zero => exact hx
  | succ k => exact nxt_lt _
theorem numK_bd (gain : Bool) (y : Nat) (hy : y < 18446744073709551616) : -128 ≤ numK gain y ∧ numK gain y ≤ 127 := by
  have h : y / 72057594037927936 ≤ 255 := by omega
  unfold numK
  cases gain with
  | false => simp; omega
  | true =>
    simp only [if_true]
    generalize hn : (((y / 72057594037927936 : Nat) : Int) - 128) = n
    have h1 : -128 ≤ n ∧ n ≤ 127 := by omega
    have h2 := Int.tdiv_mul_add_tmod n 16 
    have h3 : -16 < n.tmod 16 ∧ n.tmod 16 < 16 := by
      have a1 := Int.tmod_lt_of_pos n (b := 16) (by decide)
      have a2 := Int.neg_tmod n 16
      have a3 := Int.tmod_lt_of_pos (-n) (b := 16) (by decide)
      omega
    omega
theorem numK_wf (gain : Bool) (y : Nat) (hy : y < 18446744073709551616) : (Lit.int .i8 (numK gain y)).wf = true := by
  have := numK_bd gain y hy
  simp [Lit.wf, IntKind.min, IntKind.max, IntKind.signed, IntKind.bits]; omega

/-- is number k a gain? -/
def gainK : List (Bool × Nat) → Nat → Bool
  | [], _ => false
  | r :: rs, k => if k < r.2 then r.1 else gainK rs (k - r.2)
theorem gainK_at (rs : List (Bool × Nat)) (j i : Nat) (hj : j < rs.length) (hi : i < (rs.getD j default).2) : gainK rs (tot (rs.take j) + i) = (rs.getD j default).1 := by
  induction rs generalizing j with
  | nil => simp at hj
  | cons r rs ih =>
    cases j with
    | zero =>
      have hi2 : i < r.2 := hi
      show (if tot [] + i < r.2 then r.1 else _) = r.1
      rw [if_pos (by simp [tot]; omega)]
    | succ j =>
      have e : tot ((r :: rs).take (j + 1)) = r.2 + tot (rs.take j) := by simp [tot]
      rw [e]
      show (if r.2 + tot (rs.take j) + i < r.2 then r.1 else gainK rs (r.2 + tot (rs.take j) + i - r.2)) = _
      rw [if_neg (by omega), show r.2 + tot (rs.take j) + i - r.2 = tot (rs.take j) + i by omega]
      exact ih j (by simpa using hj) hi
/-- all numbers out of a seed -/
def grownF (s : Sz) (x : Nat) (k : Nat) : Int := numK (gainK (rowsL s) k) (seedK x (k + 1))
def grownL (s : Sz) (x : Nat) : List Int := (List.range (cnt s)).map (grownF s x)

/-- the two steps as the program takes them -/
def mulK (y : Int) : Int := IntKind.u64.wrap (y * 6364136223846793005)
theorem addK (y : Nat) : IntKind.u64.wrap (mulK y + 1442695040888963407) = (nxt y : Nat) := by
  unfold mulK nxt
  simp only [IntKind.wrap_u64]
  omega
theorem numK_true (y bb : Nat) (h : y / 72057594037927936 = bb) : numK true y = ((bb : Int) - 128).tdiv 16 + 16 := by unfold numK; rw [h]; simp
theorem numK_false (y bb : Nat) (h : y / 72057594037927936 = bb) : numK false y = (bb : Int) - 128 := by unfold numK; rw [h]; simp
theorem top_cast (z bb : Nat) (h : z / 72057594037927936 = bb) : (z : Int) / 72057594037927936 = (bb : Int) := by rw [← h]; exact (Int.natCast_ediv _ _).symm
theorem mulK_eq (y : Nat) : IntKind.u64.wrap ((y : Int) * 6364136223846793005) = mulK y := by unfold mulK; exact Eq.refl _
theorem top_le (z : Nat) (hz : z < 18446744073709551616) : z / 72057594037927936 ≤ 255 := by omega

end Go.Proofs.YtdclfcfdadkmeaaDoor

/-
  A row of the call's own: cut short, one cell stored anew, as an argument of Parse.
-/
namespace Go.Proofs.YtdclfcfdadkmeaaDoor
open Go.RowKit
set_option linter.unusedVariables false

theorem own_cut {w : World} {base : Nat} {e : TypeId} {a : Option Addr} {n m cap : Nat} {xs : List Value} (h : w.ownsRow base e 1 (.slice a n cap) n xs) (hm : m ≤ n) : w.ownsRow base e 1 (.slice a m cap) m (xs.take m) := by
  refine ⟨by rw [List.length_take, h.1]; omega, ?_⟩
  rcases h.2 with ⟨h1, h2⟩ | ⟨g, c, cur, h1, h2, h3, h4, h5, h6, h7⟩
  · simp only [Value.slice.injEq] at h1
    obtain ⟨rfl, _, rfl⟩ := h1
    obtain rfl : m = 0 := by omega
    exact .inl ⟨rfl, rfl⟩
  · simp only [Value.slice.injEq, true_and] at h1
    obtain ⟨rfl, rfl⟩ := h1
    refine .inr ⟨g, cap, cur, rfl, h2, h3, by omega, h5, h6, ?_⟩
    rw [← h7, List.take_take]
    congr 1
    omega

/-- where such a row lies, and how it reads -/
theorem own_lies {kd : IntKind} {w : World} {base : Nat} {e : TypeId} {v : Value} {n : Nat} {xs : List Int} (h : w.ownsRow base e 1 v n (xs.map (.int kd))) (hw : ∀ x ∈ xs, (Lit.int kd x).wf = true) (hn : n ≤ 9223372036854775807) :
    ∃ a cap, v = .slice a n cap ∧ Elems kd w a n xs ∧ n ≤ cap ∧ cap ≤ 9223372036854775807 ∧ (a = none → cap = 0) ∧ (0 < n → ∃ b, a = some ⟨b, 0, none⟩) := by
  obtain ⟨a, cap, rfl, hE, h1, h2, h3⟩ := own_reads h hw hn
  refine ⟨a, cap, rfl, hE, h1, h2, h3, fun h0 => ?_⟩
  rcases h.2 with ⟨_, h4⟩ | ⟨g, c, cur, h4, _⟩
  · omega
  · simp only [Value.slice.injEq] at h4
    exact ⟨g, h4.1⟩

/-- one cell stored anew -/
theorem own_store {kd : IntKind} {w : World} {base : Nat} {e : TypeId} {g n cap : Nat} {xs : List Int} (h : w.ownsRow base e 1 (.slice (some ⟨g, 0, none⟩) n cap) n (xs.map (.int kd))) (j : Nat) (x : Int) :
    (w.setCell ⟨g, j, none⟩ (.int kd x)).ownsRow base e 1 (.slice (some ⟨g, 0, none⟩) n cap) n ((xs.set j x).map (.int kd)) := by
  have := (h.stored j (.int kd x)).1
  rw [List.map_set]
  exact this

/-- bytes stay bytes -/
theorem set_wf {kd : IntKind} {xs : List Int} (h : ∀ x ∈ xs, (Lit.int kd x).wf = true) (j : Nat) {y : Int} (hy : (Lit.int kd y).wf = true) : ∀ x ∈ xs.set j y, (Lit.int kd x).wf = true := by
  intro x hx
  rcases List.mem_or_eq_of_mem_set hx with h1 | h1
  · exact h x h1
  · rw [h1]; exact hy

/-- the first numbers of one row, the others of another -/
theorem take_drop_set (xs ys : List Int) (k : Nat) (x : Int) (hx : xs.getD k 0 = x) (h1 : k < xs.length) (h2 : k < ys.length) : (xs.take k ++ ys.drop k).set k x = xs.take (k + 1) ++ ys.drop (k + 1) := by
  rw [List.set_append_right _ _ (by simp; omega)]
  have e : k - (xs.take k).length = 0 := by simp; omega
  rw [e, List.drop_eq_getElem_cons h2, List.set_cons_zero, List.take_add_one, List.getElem?_eq_getElem h1]
  have : xs[k] = x := by rw [← hx, List.getD_eq_getElem?_getD, List.getElem?_eq_getElem h1]; rfl
  simp [this]
theorem take_drop_wf {kd : IntKind} {xs ys : List Int} (h1 : ∀ x ∈ xs, (Lit.int kd x).wf = true) (h2 : ∀ x ∈ ys, (Lit.int kd x).wf = true) (k : Nat) : ∀ x ∈ xs.take k ++ ys.drop k, (Lit.int kd x).wf = true := by
  intro x hx
  rcases List.mem_append.1 hx with h | h
  · exact h1 x (List.mem_of_mem_take h)
  · exact h2 x (List.mem_of_mem_drop h)

end Go.Proofs.YtdclfcfdadkmeaaDoor

/-
  Pairs of ints, as keys and as arguments.
-/
namespace Go.Proofs.YtdclfcfdadkmeaaDoor
open Go.RowKit Go.Maps Go.WideMaps
set_option linter.unusedVariables false

theorem arr2 : ArrKey Tryd.prog 53 3 2 := ⟨Tryd.underlying53, by kernel_rfl, by kernel_rfl, by kernel_rfl⟩

end Go.Proofs.YtdclfcfdadkmeaaDoor
