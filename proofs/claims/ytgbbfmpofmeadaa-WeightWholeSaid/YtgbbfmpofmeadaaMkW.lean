/-
  Weights made of rows that lie each in a block of its own: what they are, their runs, their numbers.
-/
import Derived.Test.YtgbbfmpofmeadaaWt7
import Derived.Test.YtgbbfmpofmeadaaBlank7
namespace Go.Proofs.Ytgbbfmpofmeadaa
open Go.RowKit
set_option linter.unusedVariables false

/-- row j: where it lies, its numbers -/
def rowG (G : Nat → Nat) (n : Nat) (V : Nat → List Int) (j : Nat) : Rw := ⟨some ⟨G j, 0, none⟩, n, n, V j⟩
def matG (G : Nat → Nat) (r c : Nat) (V : Nat → List Int) (j : Nat) : Gr := ⟨r, c, some ⟨G j, 0, none⟩, r * c, r * c, V j⟩
def blkG (s : Sz) (G : Nat → Nat) (V : Nat → List Int) (c : Nat) : Bk7 :=
  ⟨rowG G s.w V (1 + 8 * c), rowG G s.w V (1 + 8 * c + 5), matG G s.w s.w V (1 + 8 * c + 1), matG G s.w s.w V (1 + 8 * c + 2), matG G s.w s.w V (1 + 8 * c + 3), matG G s.w s.w V (1 + 8 * c + 4), matG G s.i s.w V (1 + 8 * c + 6), matG G s.w s.i V (1 + 8 * c + 7)⟩
def mkW (s : Sz) (G : Nat → Nat) (b : Nat) (V : Nat → List Int) : Wt7 :=
  ⟨s.l, s.w, s.h, s.i, s.v, s.p, matG G s.v s.w V 0, some ⟨b, 0, none⟩, s.l, s.l, (List.range s.l).map (blkG s G V), rowG G s.w V (8 * s.l + 1), matG G s.v s.w V (8 * s.l + 2)⟩
theorem mkW_cells (s : Sz) (G : Nat → Nat) (b : Nat) (V : Nat → List Int) : (mkW s G b V).cells = wval s.l s.w s.h s.i s.v s.p (G 0) b (G (8 * s.l + 1)) (G (8 * s.l + 2)) := rfl
theorem blkG_cells (s : Sz) (G : Nat → Nat) (V : Nat → List Int) (c : Nat) : (blkG s G V c).cells = bkv s.w s.i (fun k => G (1 + 8 * c + k)) := rfl

/-- run j, by its number -/
def runG (s : Sz) (G : Nat → Nat) (V : Nat → List Int) (j : Nat) : Bool × Rw := (((rowsL s).getD j default).1, rowG G ((rowsL s).getD j default).2 V j)
theorem getD_of {α : Type} [Inhabited α] {l : List α} {j : Nat} {x : α} (h : l[j]? = some x) : l.getD j default = x := by rw [List.getD_eq_getElem?_getD, h]; rfl

theorem blkG_runs (s : Sz) (G : Nat → Nat) (V : Nat → List Int) (c : Nat) (hc : c < s.l) : (blkG s G V c).runs = (List.range 8).map (fun k => runG s G V (1 + 8 * c + k)) := by
  have h : ∀ k r, k < 8 → (blk7 s)[k]? = some r → runG s G V (1 + 8 * c + k) = (r.1, rowG G r.2 V (1 + 8 * c + k)) := by
    intro k r hk hr
    unfold runG
    rw [getD_of ((rowsL_blk s c k hc hk).trans hr)]
  show _ = [runG s G V (1 + 8 * c + 0), runG s G V (1 + 8 * c + 1), runG s G V (1 + 8 * c + 2), runG s G V (1 + 8 * c + 3), runG s G V (1 + 8 * c + 4), runG s G V (1 + 8 * c + 5), runG s G V (1 + 8 * c + 6), runG s G V (1 + 8 * c + 7)]
  rw [h 0 _ (by omega) rfl, h 1 _ (by omega) rfl, h 2 _ (by omega) rfl, h 3 _ (by omega) rfl, h 4 _ (by omega) rfl, h 5 _ (by omega) rfl, h 6 _ (by omega) rfl, h 7 _ (by omega) rfl]
  rfl

theorem range_app (f : Nat → Bool × Rw) (a b : Nat) : (List.range (a + b)).map f = (List.range a).map f ++ (List.range b).map (fun k => f (a + k)) := by
  rw [List.range_add, List.map_append, List.map_map]; rfl

theorem mkW_runs (s : Sz) (G : Nat → Nat) (b : Nat) (V : Nat → List Int) : (mkW s G b V).runs = (List.range (8 * s.l + 3)).map (runG s G V) := by
  have h0 : runG s G V 0 = (false, (matG G s.v s.w V 0).row) := by unfold runG; rw [getD_of (rowsL_zero s)]; rfl
  have h1 : runG s G V (8 * s.l + 1) = (true, rowG G s.w V (8 * s.l + 1)) := by unfold runG; rw [getD_of (rowsL_last s)]
  have h2 : runG s G V (8 * s.l + 2) = (false, (matG G s.v s.w V (8 * s.l + 2)).row) := by unfold runG; rw [getD_of (rowsL_head s)]; rfl
  have hb : ∀ n, n ≤ s.l → bruns ((List.range n).map (blkG s G V)) = (List.range (8 * n)).map (fun k => runG s G V (1 + k)) := by
    intro n
    induction n with
    | zero => intro _; rfl
    | succ n ih =>
      intro hn
      have e : bruns ((List.range (n + 1)).map (blkG s G V)) = bruns ((List.range n).map (blkG s G V)) ++ (blkG s G V n).runs := by
        unfold bruns
        rw [List.range_succ, List.map_append, List.flatMap_append]
        simp
      rw [e, ih (by omega), blkG_runs s G V n (by omega), show 8 * (n + 1) = 8 * n + 8 by omega, range_app]
      congr 1
  unfold Wt7.runs
  show (false, (matG G s.v s.w V 0).row) :: bruns ((List.range s.l).map (blkG s G V)) ++ [(true, rowG G s.w V (8 * s.l + 1)), (false, (matG G s.v s.w V (8 * s.l + 2)).row)] = _
  rw [hb s.l (Nat.le_refl _), ← h0, ← h1, ← h2, show 8 * s.l + 3 = (1 + 8 * s.l) + 2 by omega, range_app, range_app]
  have e2 : (List.range 2).map (fun k => runG s G V (1 + 8 * s.l + k)) = [runG s G V (8 * s.l + 1), runG s G V (8 * s.l + 2)] := by
    show [runG s G V (1 + 8 * s.l + 0), runG s G V (1 + 8 * s.l + 1)] = _
    rw [show 1 + 8 * s.l + 0 = 8 * s.l + 1 by omega, show 1 + 8 * s.l + 1 = 8 * s.l + 2 by omega]
  rw [e2]
  rfl

/-- the numbers of weights whose row j has the numbers f (off j), f (off j + 1), .. -/
theorem flat_of (rs : List (Bool × Nat)) (f : Nat → Int) (g : Nat → List Int) (h : ∀ j, j < rs.length → g j = (List.range (rs.getD j default).2).map (fun x => f (tot (rs.take j) + x))) :
    ∀ n, n ≤ rs.length → ((List.range n).map g).flatten = (List.range (tot (rs.take n))).map f := by
  intro n
  induction n with
  | zero => intro _; rfl
  | succ n ih =>
    intro hn
    rw [List.range_succ, List.map_append, List.flatten_append, ih (by omega), tot_step _ _ (by omega), List.range_add, List.map_append, List.map_map]
    congr 1
    simp only [List.map_cons, List.map_nil, List.flatten_cons, List.flatten_nil, List.append_nil]
    rw [h n (by omega)]
    rfl
theorem mkW_flat (s : Sz) (G : Nat → Nat) (b : Nat) (V : Nat → List Int) (f : Nat → Int) (h : ∀ j, j < 8 * s.l + 3 → V j = (List.range ((rowsL s).getD j default).2).map (fun x => f (tot ((rowsL s).take j) + x))) : (mkW s G b V).flat = (List.range (cnt s)).map f := by
  unfold Wt7.flat
  rw [mkW_runs, List.flatMap_map]
  have h1 := flat_of (rowsL s) f V (fun j hj => h j (by rw [rowsL_len] at hj; exact hj)) (8 * s.l + 3) (by rw [rowsL_len]; exact Nat.le_refl _)
  rw [List.take_of_length_le (by rw [rowsL_len]; exact Nat.le_refl _), tot_rows] at h1
  rw [← h1]
  rfl

theorem blk7_len (s : Sz) : (blk7 s).length = 8 := rfl
/-- such weights stand in memory -/
theorem mkW_in (s : Sz) (ok : s.Ok) (G : Nat → Nat) (b : Nat) (V : Nat → List Int) (w : World) (cs : Array Value) (hV : ∀ j r, (rowsL s)[j]? = some r → MineK .i8 w (G j) 56 (V j) ∧ (V j).length = r.2 ∧ ∀ x ∈ V j, (Lit.int .i8 x).wf = true)
    (hb : Box w b 39 cs) (hcs : ∀ c, c < s.l → ∀ k, k < 20 → cs[c * 20 + k]? = (bkv s.w s.i (fun k => G (1 + 8 * c + k)))[k]?) : (mkW s G b V).In w := by
  obtain ⟨hl, hh, hw0, hi, hv, hp⟩ := ok.bd
  have a1 := mul_bd hv.2 hw0.2
  have a2 := mul_bd hw0.2 hw0.2
  have a3 := mul_bd hi.2 hw0.2
  have a4 := mul_bd hw0.2 hi.2
  have hrow : ∀ j n, (rowsL s)[j]? = some (true, n) ∨ (rowsL s)[j]? = some (false, n) → n ≤ 131072 → Elems .i8 w (some ⟨G j, 0, none⟩) n (V j) := by
    intro j n hj hn
    have : ∃ r, (rowsL s)[j]? = some r ∧ r.2 = n := by rcases hj with h | h <;> exact ⟨_, h, rfl⟩
    obtain ⟨r, h1, h2⟩ := this
    obtain ⟨m1, m2, m3⟩ := hV j r h1
    exact m1.elems (by rw [m2, h2]) (by omega) m3
  have hR : ∀ j n, (rowsL s)[j]? = some (true, n) ∨ (rowsL s)[j]? = some (false, n) → n ≤ 131072 → (rowG G n V j).In .i8 w := fun j n hj hn =>
    ⟨hrow j n hj hn, Nat.le_refl _, by show n ≤ _; omega, ⟨fun e => (by cases e), fun x e _ => (by cases e; rfl)⟩⟩
  have hM : ∀ j r c, (rowsL s)[j]? = some (true, r * c) ∨ (rowsL s)[j]? = some (false, r * c) → r * c ≤ 131072 → r ≤ 1000 → c ≤ 1000 → (matG G r c V j).In8 w := fun j r c hj hn hr hc =>
    ⟨hrow j _ hj hn, Nat.le_refl _, by show r * c ≤ _; omega, ⟨fun e => (by cases e), fun x e _ => (by cases e; rfl)⟩, by show _ ≤ (r : Int); omega, by show (r : Int) ≤ _; omega, by show _ ≤ (c : Int); omega, by show (c : Int) ≤ _; omega⟩
  have hB : ∀ c, c < s.l → (blkG s G V c).In w := by
    intro c hc
    have e : ∀ k r, k < 8 → (blk7 s)[k]? = some r → (rowsL s)[1 + 8 * c + k]? = some r := fun k r hk hr => (rowsL_blk s c k hc hk).trans hr
    exact ⟨hR _ _ (.inl (e 0 _ (by omega) rfl)) (by omega), hR _ _ (.inl (e 5 _ (by omega) rfl)) (by omega), hM _ _ _ (.inr (e 1 _ (by omega) rfl)) (by omega) (by omega) (by omega), hM _ _ _ (.inr (e 2 _ (by omega) rfl)) (by omega) (by omega) (by omega), hM _ _ _ (.inr (e 3 _ (by omega) rfl)) (by omega) (by omega) (by omega), hM _ _ _ (.inr (e 4 _ (by omega) rfl)) (by omega) (by omega) (by omega), hM _ _ _ (.inr (e 6 _ (by omega) rfl)) (by omega) (by omega) (by omega), hM _ _ _ (.inr (e 7 _ (by omega) rfl)) (by omega) (by omega) (by omega)⟩
  refine ⟨hM 0 _ _ (.inr (rowsL_zero s)) (by omega) (by omega) (by omega), hM _ _ _ (.inr (rowsL_head s)) (by omega) (by omega) (by omega), hR _ _ (.inl (rowsL_last s)) (by omega), ⟨by simp [mkW], by show s.l ≤ _; omega, ?_, fun _ => ⟨b, 0, rfl, hb.lt, ?_⟩⟩, Nat.le_refl _, by show s.l ≤ _; omega, ?_⟩
  · intro x hx
    obtain ⟨c, hc, rfl⟩ := List.mem_map.1 hx
    exact hB c (List.mem_range.1 hc)
  · intro c hc k hk
    have hc2 : c < s.l := hc
    rw [show (mkW s G b V).bs.getD c default = blkG s G V c by simp [mkW, List.getD, hc2], blkG_cells, Nat.zero_add, hb.cell, hcs c hc2 k hk]
  · exact ⟨by show _ ≤ (s.l : Int) ∧ (s.l : Int) ≤ _; omega, by show _ ≤ (s.w : Int) ∧ (s.w : Int) ≤ _; omega, by show _ ≤ (s.h : Int) ∧ (s.h : Int) ≤ _; omega⟩

end Go.Proofs.Ytgbbfmpofmeadaa
