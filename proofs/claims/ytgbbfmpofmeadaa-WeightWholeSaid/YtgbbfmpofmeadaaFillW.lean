/-
  Rows that are filled number by number, one behind the other: what is so after P numbers.
-/
import Derived.Test.YtgbbfmpofmeadaaMkW
namespace Go.Proofs.Ytgbbfmpofmeadaa
open Go.RowKit
set_option linter.unusedVariables false

def off7 (s : Sz) (j : Nat) : Nat := tot ((rowsL s).take j)
def num7 (s : Sz) (j : Nat) : Nat := ((rowsL s).getD j default).2
/-- row j after P numbers -/
def fillV (s : Sz) (f : Nat → Int) (P j : Nat) : List Int := (List.range (num7 s j)).map (fun x => if off7 s j + x < P then f (off7 s j + x) else 0)
theorem fillV_len (s : Sz) (f : Nat → Int) (P j : Nat) : (fillV s f P j).length = num7 s j := by simp [fillV]
theorem fillV_zero (s : Sz) (f : Nat → Int) (j : Nat) : fillV s f 0 j = List.replicate (num7 s j) 0 := by
  unfold fillV
  apply List.ext_getElem (by simp)
  intro i h1 h2
  simp
theorem off7_succ (s : Sz) (j : Nat) (hj : j < 8 * s.l + 3) : off7 s (j + 1) = off7 s j + num7 s j := tot_step _ _ (by rw [rowsL_len]; exact hj)
theorem off7_mono (s : Sz) (i j : Nat) (h : i ≤ j) : off7 s i ≤ off7 s j := by
  unfold off7
  have e : (rowsL s).take i = ((rowsL s).take j).take i := by rw [List.take_take, Nat.min_eq_left h]
  rw [e]; exact tot_take_le _ _
theorem off7_end (s : Sz) : off7 s (8 * s.l + 3) = cnt s := by
  unfold off7
  rw [List.take_of_length_le (by rw [rowsL_len]; exact Nat.le_refl _), tot_rows]
theorem off7_lt (s : Sz) (j i : Nat) (hj : j < 8 * s.l + 3) (hi : i < num7 s j) : off7 s j + i < cnt s := by
  have h1 := off7_succ s j hj
  have h2 := off7_mono s (j + 1) (8 * s.l + 3) (by omega)
  rw [off7_end] at h2
  omega
theorem fillV_same (s : Sz) (f : Nat → Int) (j i : Nat) (hi : i < num7 s j) : (fillV s f (off7 s j + i) j).set i (f (off7 s j + i)) = fillV s f (off7 s j + i + 1) j := by
  unfold fillV
  apply List.ext_getElem (by simp)
  intro k h1 h2
  rw [List.getElem_set]
  simp only [List.getElem_map, List.getElem_range]
  by_cases e : i = k
  · subst e; rw [if_pos rfl, if_pos (by omega)]
  · rw [if_neg e]
    by_cases h : k < i
    · rw [if_pos (by omega), if_pos (by omega)]
    · rw [if_neg (by omega), if_neg (by omega)]
theorem fillV_other (s : Sz) (f : Nat → Int) (j j' i : Nat) (hj : j < 8 * s.l + 3) (hj' : j' < 8 * s.l + 3) (hi : i < num7 s j) (hne : j' ≠ j) : fillV s f (off7 s j + i) j' = fillV s f (off7 s j + i + 1) j' := by
  unfold fillV
  apply List.map_congr_left
  intro x hx
  have hx2 := List.mem_range.1 hx
  have hne2 : off7 s j' + x ≠ off7 s j + i := by
    rcases Nat.lt_or_ge j' j with h | h
    · have h1 := off7_succ s j' hj'
      have h2 := off7_mono s (j' + 1) j h
      omega
    · have h1 := off7_succ s j hj
      have h2 := off7_mono s (j + 1) j' (by omega)
      omega
  by_cases h : off7 s j' + x < off7 s j + i
  · rw [if_pos h, if_pos (by omega)]
  · rw [if_neg h, if_neg (by omega)]
theorem fillV_end (s : Sz) (f : Nat → Int) (j : Nat) (hj : j < 8 * s.l + 3) : fillV s f (cnt s) j = (List.range ((rowsL s).getD j default).2).map (fun x => f (tot ((rowsL s).take j) + x)) := by
  unfold fillV
  apply List.map_congr_left
  intro x hx
  rw [if_pos (off7_lt s j x hj (List.mem_range.1 hx))]
  rfl
theorem fillV_wf (s : Sz) (f : Nat → Int) (hf : ∀ k, (Lit.int .i8 (f k)).wf = true) (P j : Nat) : ∀ x ∈ fillV s f P j, (Lit.int .i8 x).wf = true := by
  intro x hx
  obtain ⟨k, _, rfl⟩ := List.mem_map.1 hx
  show (Lit.int .i8 (if _ then _ else _)).wf = true
  split
  · exact hf _
  · rfl

/-- the world after P numbers: the closure's cell, the rows, all else as it was -/
structure FillW (s : Sz) (w3 : World) (G : Nat → Nat) (c : Nat) (Tc : TypeId) (St : Nat → Value) (f : Nat → Int) (P : Nat) (wr : World) : Prop where
  cell : Box wr c Tc #[St P]
  rows : ∀ j, j < 8 * s.l + 3 → MineK .i8 wr (G j) 56 (fillV s f P j)
  keep : ∀ k, k < w3.heap.size → k ≠ c → (∀ j, j < 8 * s.l + 3 → k ≠ G j) → wr.heap[k]? = w3.heap[k]?
  bel : Below c w3 wr

theorem mine_box {w : World} {g : Nat} {T : TypeId} {cs : List Int} (h : MineK .i8 w g T cs) : Box w g T (cs.map (Value.int .i8)).toArray := h
theorem box_ne {w : World} {g g' : Nat} {T T' : TypeId} {cs cs' : Array Value} (h : Box w g T cs) (h' : Box w g' T' cs') (hT : T ≠ T') : g ≠ g' := by
  intro e
  subst e
  have := h.symm.trans h'
  simp at this
  exact hT this.2

/-- a stretch that makes new blocks alone -/
theorem FillW.more {s : Sz} {w3 wr w' : World} {G : Nat → Nat} {c : Nat} {Tc : TypeId} {St : Nat → Value} {f : Nat → Int} {P : Nat} (h : FillW s w3 G c Tc St f P wr) (hb : Below wr.heap.size wr w') : FillW s w3 G c Tc St f P w' := by
  refine ⟨h.cell.bel hb, fun j hj => (h.rows j hj).below hb (h.rows j hj).lt, fun k hk h1 h2 => (hb.block k (Nat.lt_of_lt_of_le hk h.bel.size)).trans (h.keep k hk h1 h2), h.bel.trans (hb.mono (Nat.le_of_lt h.cell.lt))⟩

/-- one number more: behind the closure's call, and behind the store -/
theorem FillW.next {s : Sz} {w3 wr : World} {G : Nat → Nat} {c : Nat} {Tc : TypeId} {St : Nat → Value} {f : Nat → Int} {j i : Nat} (h : FillW s w3 G c Tc St f (off7 s j + i) wr) (hj : j < 8 * s.l + 3) (hi : i < num7 s j) (hT : Tc ≠ 56)
    (hd : ∀ a b, a < 8 * s.l + 3 → b < 8 * s.l + 3 → a ≠ b → G a ≠ G b) (hcG : ∀ a, a < 8 * s.l + 3 → c ≤ G a) (w1 : World) (d : Nat) (hw1 : w1 = (wr.setCell ⟨c, 0, none⟩ (St (off7 s j + i + 1))).drewN d) :
    (∃ u, w1.cell? ⟨G j, i, none⟩ = some u) ∧ w1.frozen? ⟨G j, i, none⟩ = false ∧ FillW s w3 G c Tc St f (off7 s j + i + 1) (w1.setCell ⟨G j, i, none⟩ (.int .i8 (f (off7 s j + i)))) ∧ (∀ q T cs, q ≠ c → q ≠ G j → Box wr q T cs → Box (w1.setCell ⟨G j, i, none⟩ (.int .i8 (f (off7 s j + i)))) q T cs) ∧ (∀ q T cs, q ≠ c → Box wr q T cs → Box w1 q T cs) ∧ w1.heap.size = wr.heap.size := by
  subst hw1
  have hcg : ∀ a, a < 8 * s.l + 3 → c ≠ G a := fun a ha => box_ne h.cell (mine_box (h.rows a ha)) hT
  have g1 : wr.grownBy ((wr.setCell ⟨c, 0, none⟩ (St (off7 s j + i + 1))).drewN d) (some c) := (grownBy_setCell wr c 0 _).trans (grownBy_drewN _ d _)
  have g2 := grownBy_setCell ((wr.setCell ⟨c, 0, none⟩ (St (off7 s j + i + 1))).drewN d) (G j) i (.int .i8 (f (off7 s j + i)))
  have hM := fun a ha => (h.rows a ha).kept g1 (by simpa using fun e => hcg a ha e.symm)
  have hlen := fillV_len s f (off7 s j + i) j
  have hC : Box ((wr.setCell ⟨c, 0, none⟩ (St (off7 s j + i + 1))).drewN d) c Tc #[St (off7 s j + i + 1)] := h.cell.set 0 (St (off7 s j + i + 1))
  refine ⟨⟨_, (hM j hj).cell (k := i) (by omega)⟩, (hM j hj).frozen i, ⟨hC.kept g2 (by simpa using hcg j hj), fun a ha => ?_, fun k hk h1 h2 => ?_, ?_⟩, fun q T cs h1 h2 hb => (hb.kept g1 (by simpa using h1)).kept g2 (by simpa using h2), fun q T cs h1 hb => hb.kept g1 (by simpa using h1), by simp⟩
  · by_cases e : a = j
    · subst e
      rw [← fillV_same s f a i hi]
      exact (hM a ha).set i _
    · rw [← fillV_other s f j a i hj ha hi e]
      exact (hM a ha).kept g2 (by simpa using hd a j ha hj e)
  · have hk2 : k < wr.heap.size := Nat.lt_of_lt_of_le hk h.bel.size
    exact (g2.block k (Nat.lt_of_lt_of_le hk2 g1.size) (by simpa using h2 j hj)).trans ((g1.block k hk2 (by simpa using h1)).trans (h.keep k hk h1 h2))
  · exact (h.bel.trans ((Below.refl c wr).grown g1 (Nat.le_of_lt h.cell.lt) (fun k hk => by cases hk; exact Nat.le_refl _))).setCell (p := ⟨G j, i, none⟩) (hcG j hj) _

end Go.Proofs.Ytgbbfmpofmeadaa
