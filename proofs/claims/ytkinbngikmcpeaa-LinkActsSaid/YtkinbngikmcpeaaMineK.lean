/-
  A block of numbers of whatever kind that the call itself made, known whole; copy into it; one number of 8 bits more, behind a row of the call's own.
-/
import Derived.Test.YtkinbngikmcpeaaMine
namespace Go.Proofs.Ytkinbngikmcpeaa
open Go.RowKit
set_option linter.unusedVariables false

theorem infoInt : (Try.prog.info? 3).map (fun i => (i.zero, i.size, i.bytes)) = some (some (.int .i64 0), 1, 8) := by kernel_rfl

/-- block g holds the numbers cs, and none of its cells is frozen -/
def MineK (kd : IntKind) (w : World) (g : Nat) (e : TypeId) (cs : List Int) : Prop := w.heap[g]? = some (.cells (cs.map (Value.int kd)).toArray e (0, 0))

section
variable {kd : IntKind} {w w' : World} {g : Nat} {e : TypeId} {cs : List Int}
theorem MineK.lt (h : MineK kd w g e cs) : g < w.heap.size := (Array.getElem?_eq_some_iff.1 h).1
theorem MineK.cell (h : MineK kd w g e cs) {k : Nat} (hk : k < cs.length) : w.cell? ⟨g, k, none⟩ = some (.int kd (cs.getD k 0)) := by
  rw [cell_of_row w g k _ e (0, 0) h]
  simp [List.getD, hk]
theorem MineK.frozen (h : MineK kd w g e cs) (k : Nat) : w.frozen? ⟨g, k, none⟩ = false := frozen_of_row w g k _ e h
theorem MineK.set (h : MineK kd w g e cs) (k : Nat) (v : Int) : MineK kd (w.setCell ⟨g, k, none⟩ (.int kd v)) g e (cs.set k v) := by
  have := heap_setCell_same w g k _ e (.int kd v) h
  unfold MineK
  rw [this]
  congr 2
  simp [List.map_set]
theorem MineK.kept (h : MineK kd w g e cs) {row : Option Nat} (hg : w.grownBy w' row) (hne : some g ≠ row) : MineK kd w' g e cs := (hg.block g h.lt hne).trans h
theorem MineK.drewN (h : MineK kd w g e cs) (d : Nat) : MineK kd (w.drewN d) g e cs := h
theorem MineK.alloc (h : MineK kd w g e cs) (o : Obj) : MineK kd (w.alloc o) g e cs := h.kept (World.grownBy_alloc w o none) (by simp)
theorem MineK.below {B : Nat} (h : MineK kd w g e cs) (hb : Below B w w') (hg : g < B) : MineK kd w' g e cs := (hb.block g hg).trans h
end

theorem MineK.elems {kd : IntKind} {w : World} {g n : Nat} {e : TypeId} {cs : List Int} (h : MineK kd w g e cs) (hl : cs.length = n) (hn : n ≤ 9223372036854775807) (hw : ∀ x ∈ cs, (Lit.int kd x).wf = true) : Elems kd w (some ⟨g, 0, none⟩) n cs :=
  ⟨hl, hn, hw, fun _ => ⟨g, 0, rfl, fun i hi => by rw [Nat.zero_add]; exact h.cell (by omega)⟩⟩
/-- copy into a block that is known whole: of it, its row of cells behind, and what of the world stays -/
theorem wpList_copy_mineK {kd : IntKind} {P : Program} {w : World} {ops : Array Oper} {rest : List Oper} {o : Oper} {a : Act} {Q : Exit → Act → World → Prop} (hgd : o.guard = none) (d s : Operand) (dT sT : TypeId)
    (ho : o.op = .call { callee := .builtin .copy, args := #[d, s], argTypes := #[dT, sT] }) (elem : TypeId) (hu : P.underlying dT = some (.slice elem)) (hsz : (P.info? elem).map (·.size) = some 1)
    (dp sp : Option Addr) (dLen dCap sLen sCap : Nat) (hd : a.eval d = .slice dp dLen dCap) (hs : a.eval s = .slice sp sLen sCap)
    (g off : Nat) (cur : List Int) (t : TypeId) (hg : MineK kd w g t cur) (cs : List Int) (hn : cs.length = Nat.min sLen dLen)
    (hpos : 0 < cs.length → dp = some ⟨g, off, none⟩ ∧ Elems kd w sp cs.length cs)
    (hfit : off + cs.length ≤ cur.length)
    (h : ∀ w', MineK kd w' g t (splice cur off cs) → w.grownBy w' (some g) → wpList P ops Q rest (a.put o.dst (goInt cs.length)) w') :
    wpList P ops Q (o :: rest) a w := by
  by_cases h0 : cs.length = 0
  · obtain rfl : cs = [] := List.eq_nil_of_length_eq_zero h0
    refine wpList_copy_nothing hgd d s dT sT ho elem hu hsz dp sp dLen dCap sLen sCap hd hs (by simpa using hn.symm) ?_
    exact h w (by simpa [splice] using hg) (grownBy_refl _ _)
  · obtain ⟨rfl, hE⟩ := hpos (by omega)
    obtain ⟨b, so, rfl, hcell⟩ := hE.2.2.2 (by omega)
    have hN := hE.news
    refine wpList_copy_own hgd d s dT sT ho elem hu hsz g off dLen dCap ⟨b, so, none⟩ sLen sCap hd hs _ t hg (cs.map (.int kd)) (by simpa using hn) hN (by simpa using hfit) (ints_one cs) ?_
    have := h (w.setRow g _) (by
      unfold MineK
      have := setRow_heap w g _ ((List.map (Value.int kd) cur).toArray.toList.take off ++ (cs.map (Value.int kd) ++ (List.map (Value.int kd) cur).toArray.toList.drop (off + (cs.map (Value.int kd)).length))).toArray t (0, 0) hg
      rw [this]
      simp [splice, List.map_append, List.map_take, List.map_drop]) (grownBy_setRow w g _)
    simpa using this

/-- copy, as a run -/
theorem run_copy_mineK {kd : IntKind} {P : Program} {w : World} (dT sT ty elem : TypeId) (hu : P.underlying dT = some (.slice elem)) (hsz : (P.info? elem).map (·.size) = some 1)
    (dp sp : Option Addr) (dLen dCap sLen sCap : Nat)
    (g off : Nat) (cur : List Int) (t : TypeId) (hg : MineK kd w g t cur) (cs : List Int) (hn : cs.length = Nat.min sLen dLen)
    (hpos : 0 < cs.length → dp = some ⟨g, off, none⟩ ∧ Elems kd w sp cs.length cs)
    (hfit : off + cs.length ≤ cur.length) :
    ∃ w', Sem.run P (Builtin.copy_ #[dT, sT] ty #[.slice dp dLen dCap, .slice sp sLen sCap]) w = .ok (.int .i64 (cs.length : Nat)) w' ∧ MineK kd w' g t (splice cur off cs) ∧ w.grownBy w' (some g) := by
  by_cases h0 : cs.length = 0
  · obtain rfl : cs = [] := List.eq_nil_of_length_eq_zero h0
    have hrun := run_copy_none (P := P) w dT sT ty elem dp sp dLen dCap sLen sCap hu hsz (by simpa using hn.symm)
    exact ⟨w, hrun, by simpa [splice] using hg, grownBy_refl _ _⟩
  · obtain ⟨rfl, hE⟩ := hpos (by omega)
    obtain ⟨b, so, rfl, hcell⟩ := hE.2.2.2 (by omega)
    have hN := hE.news
    have hrun := run_copy_row (P := P) w dT sT ty elem g off dLen dCap ⟨b, so, none⟩ sLen sCap _ t (cs.map (.int kd)) hu hsz hg (by simpa using hn) hN (by simpa using hfit) (ints_one cs)
    rw [List.length_map] at hrun
    refine ⟨_, hrun, ?_, grownBy_setRow w g _⟩
    unfold MineK
    rw [setRow_heap w g _ _ t _ hg]
    simp [splice, List.map_append, List.map_take, List.map_drop]

/-- a block of noughts that was just made -/
theorem mine_made (kd : IntKind) (w : World) (T : TypeId) (n : Nat) {b : Nat} (hb : b = w.heap.size) : MineK kd (w.alloc (.cells (madeCells #[Value.int kd 0] n) T)) b T (List.replicate n 0) := by
  subst hb
  have := made_zeros kd n
  rw [Nat.mul_one] at this
  have hh := heap_alloc_new w (.cells (madeCells #[Value.int kd 0] n) T)
  unfold MineK
  rw [hh, ← this]
  rfl


end Go.Proofs.Ytkinbngikmcpeaa
