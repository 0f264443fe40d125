/-
  The document's store as it stands; Find.
-/
import Derived.Test.YtolmejaedldeeaaAllC
import Derived.Test.YtolmejaedldeeaaAwake12
import Derived.Test.YtolmejaedldeeaaReqs12
namespace Go.Proofs.Ytolmejaedldeeaa
open Go.RowKit Go.Maps
set_option linter.unusedVariables false

/-- an entry, and where its rows lie -/
structure De where
  e : Ent
  k : Rw
  v : Rw
def deCells (x : De) : List Value := [.int .i64 x.e.r, .int .i64 x.e.l, .int .i64 x.e.p, .slice x.k.a x.k.n x.k.cap, .slice x.v.a x.v.n x.v.cap]
theorem deCells_len (x : De) : (deCells x).length = 5 := rfl
def docL (D : List De) : List Ent := D.map De.e
theorem docL_len (D : List De) : (docL D).length = D.length := by simp [docL]
theorem deCells_no8 (D : List De) : ∀ u ∈ D.flatMap deCells, No8 u := by
  intro u hu
  obtain ⟨x, _, hx⟩ := List.mem_flatMap.1 hu
  simp only [deCells, List.mem_cons, List.not_mem_nil, or_false] at hx
  rcases hx with rfl | rfl | rfl | rfl | rfl
  · exact no8_i64 _
  · exact no8_i64 _
  · exact no8_i64 _
  · exact no8_slice _ _ _
  · exact no8_slice _ _ _
structure DocAt (w : World) (db room base : Nat) (v : Value) (D : List De) : Prop where
  box : Box w db 31 #[.int .i64 room, v]
  row : ListAt No8 w base 46 5 v D.length (D.flatMap deCells)
  ent : ∀ x ∈ D, RowsE w x.e x.k x.v
  lt : db < base
  le : base ≤ w.heap.size
section
variable {w w' : World} {db room base : Nat} {v : Value} {D : List De}
theorem DocAt.bel (h : DocAt w db room base v D) (hb : Below w.heap.size w w') : DocAt w' db room base v D := ⟨h.box.bel hb, h.row.bel hb, fun x hx => (h.ent x hx).bel hb, h.lt, Nat.le_trans h.le hb.size⟩
theorem DocAt.noBox (h : DocAt w db room base v D) : AllC No8 w 31 db := by
  obtain ⟨a, c, e⟩ := h.row.shape
  refine ⟨_, h.box, fun u hu => ?_⟩
  simp only [List.mem_cons, List.not_mem_nil, or_false] at hu
  rcases hu with rfl | rfl
  · exact no8_i64 _
  · rw [e]; exact no8_slice _ _ _
/-- where a map turns -/
theorem DocAt.map (h : DocAt w db room base v D) {mb n : Nat} {k : TypeId} {F : Lit → Option Value} (hM : MapAt w k mb n F) (hg : w.grownBy w' (some mb)) : DocAt w' db room base v D :=
  ⟨h.box.kept hg (fun e => hM.cells (by rw [← Option.some.inj e]; exact h.box)), h.row.kept hg (fun g e x => let ⟨cs, hc, _⟩ := h.row.all g e; hM.cells (by rw [Option.some.inj x]; exact hc)), fun x hx => let h := h.ent x hx; ⟨rw_map h.1 hM hg, rw_map h.2.1 hM hg, h.2.2⟩, h.lt, Nat.le_trans h.le hg.size⟩
theorem DocAt.store (h : DocAt w db room base v D) {sb mb rm : Nat} {L : List Ent} (hS : StoreAt w sb mb rm L) (hg : w.grownBy w' (some mb)) : DocAt w' db room base v D :=
  let ⟨F, hM, _⟩ := hS.map; h.map hM hg
/-- an entry's cells -/
theorem DocAt.cells (h : DocAt w db room base v D) (h0 : 0 < D.length) : ∃ g c, v = .slice (some ⟨g, 0, none⟩) D.length c ∧ D.length ≤ c ∧ c ≤ 9223372036854775807 ∧ g < w.heap.size ∧
    ∀ i (hi : i < D.length), w.cell? ⟨g, i * 5, none⟩ = some (.int .i64 D[i].e.r) ∧ w.cell? ⟨g, i * 5 + 1, none⟩ = some (.int .i64 D[i].e.l) ∧ w.cell? ⟨g, i * 5 + 2, none⟩ = some (.int .i64 D[i].e.p) ∧
      w.cell? ⟨g, i * 5 + 3, none⟩ = some (.slice D[i].k.a D[i].k.n D[i].k.cap) ∧ w.cell? ⟨g, i * 5 + 4, none⟩ = some (.slice D[i].v.a D[i].v.n D[i].v.cap) := by
  obtain ⟨g, c, e, h1, h2, h3, _, hc⟩ := h.row.cells h0
  refine ⟨g, c, e, h1, h2, h3, fun i hi => ⟨?_, ?_, ?_, ?_, ?_⟩⟩
  · have := hc (i * 5) (by omega); rw [this, show i * 5 = i * 5 + 0 from rfl, flat_at deCells 5 deCells_len D i 0 hi (by omega)]; rfl
  · have := hc (i * 5 + 1) (by omega); rw [this, flat_at deCells 5 deCells_len D i 1 hi (by omega)]; rfl
  · have := hc (i * 5 + 2) (by omega); rw [this, flat_at deCells 5 deCells_len D i 2 hi (by omega)]; rfl
  · have := hc (i * 5 + 3) (by omega); rw [this, flat_at deCells 5 deCells_len D i 3 hi (by omega)]; rfl
  · have := hc (i * 5 + 4) (by omega); rw [this, flat_at deCells 5 deCells_len D i 4 hi (by omega)]; rfl
end
/-- what the document's calls leave: rows, blocks of other types, maps -/
structure KeptD (w w' : World) : Prop where
  size : w.heap.size ≤ w'.heap.size
  rw : ∀ q : Rw, q.In .i8 w → q.In .i8 w'
  box : ∀ g T cs, Box w g T cs → T ≠ 46 → T ≠ 31 → Box w' g T cs
  map : ∀ k b n F, MapAt w k b n F → MapAt w' k b n F
theorem KeptD.of_bel {w w' : World} (hb : Below w.heap.size w w') : KeptD w w' := ⟨hb.size, fun q h => h.below hb, fun g T cs h _ _ => h.bel hb, fun k b n F h => h.bel hb h.lt⟩
theorem KeptD.trans {w w1 w' : World} (h : KeptD w w1) (h' : KeptD w1 w') : KeptD w w' :=
  ⟨Nat.le_trans h.size h'.size, fun q x => h'.rw q (h.rw q x), fun g T cs x a b => h'.box g T cs (h.box g T cs x a b) a b, fun k b n F x => h'.map k b n F (h.map k b n F x)⟩
theorem KeptD.of_row {w w' : World} {row : Option Nat} (hg : w.grownBy w' row) (hr : ∀ g, row = some g → AllC No8 w 46 g ∨ AllC No8 w 31 g) : KeptD w w' := by
  cases hrow : row with
  | none =>
    subst hrow
    exact KeptD.of_bel ⟨hg.os, hg.tape, hg.output, hg.size, fun i hi => hg.block i hi (by simp)⟩
  | some g =>
    subst hrow
    have hA := hr g rfl
    refine ⟨hg.size, fun q h => ?_, fun b T cs h t1 t2 => h.kept hg (fun e => ?_), fun k b n F h => h.kept hg (fun e => ?_)⟩
    · rcases hA with hA | hA
      · exact rw_no8 h hA hg
      · exact rw_no8 h hA hg
    · rcases hA with hA | hA
      · exact hA.box_ne h t1 (Option.some.inj e)
      · exact hA.box_ne h t2 (Option.some.inj e)
    · rcases hA with ⟨cs, hA, _⟩ | ⟨cs, hA, _⟩
      · exact h.cells (by rw [Option.some.inj e]; exact hA)
      · exact h.cells (by rw [Option.some.inj e]; exact hA)
theorem KeptD.st {w w' : World} (h : KeptD w w') {sb mb rm : Nat} {L : List Ent} (hS : StoreAt w sb mb rm L) : StoreAt w' sb mb rm L := by
  obtain ⟨F, h1, h2⟩ := hS.map
  exact ⟨h.box _ _ _ hS.box (by decide) (by decide), hS.good, hS.room, F, h.map _ _ _ _ h1, h2.1, fun x hx => let ⟨k, v, e, r1, r2, r3⟩ := h2.2 x hx; ⟨k, v, e, h.rw _ r1, h.rw _ r2, r3⟩⟩

/-! ### Find -/
/-- a spot's place in a list, -1 where it isn't there -/
def FindR (L : List Ent) (r l p x : Int) : Prop := x = -1 ∧ hasE L r l p = false ∨ ∃ (k : Nat) (hk : k < L.length), x = (k : Int) ∧ L[k].r = r ∧ L[k].l = l ∧ L[k].p = p
theorem eql_spot (a b c d e f : Int) (w : World) : Sem.run Try.prog (binOp .eql 33 (.agg #[.int .i64 a, .int .i64 b, .int .i64 c]) (.agg #[.int .i64 d, .int .i64 e, .int .i64 f])) w = .ok (.bool (decide (a = d ∧ b = e ∧ c = f))) w := by
  by_cases e0 : a = d
  · subst e0
    by_cases e1 : b = e
    · subst e1
      by_cases e2 : c = f
      · subst e2
        rw [decide_eq_true ⟨rfl, rfl, rfl⟩]
        go_simp
      · have h : (c == f) = false := by simpa using e2
        rw [decide_eq_false (fun x => e2 x.2.2)]
        clear e2
        go_simp
    · have h : (b == e) = false := by simpa using e1
      rw [decide_eq_false (fun x => e1 x.2.1)]
      clear e1
      go_simp
  · have h : (a == d) = false := by simpa using e0
    rw [decide_eq_false (fun x => e0 x.1)]
    clear e0
    go_simp

set_option maxHeartbeats 1600000 in
set_option maxRecDepth 100000 in
theorem find12 {w : World} {db room base : Nat} {v : Value} {D : List De} (h : DocAt w db room base v D) (hn : D.length ≤ 1048576) (r l p : Int) :
    Calls Try.prog 16 #[.pointer (some ⟨db, 0, none⟩), spotV r l p] w fun e w' => (∃ x, e = .returned (.int .i64 x) ∧ FindR (docL D) r l p x) ∧ Below w.heap.size w w' := by
  obtain ⟨a, c, rfl⟩ := h.row.shape
  have HD := Lib.hid h
  have HI : ∀ W, Below w.heap.size w W → Hid (DocAt W db room base (.slice a D.length c) D) := fun W hW => Lib.hid (h.bel hW)
  have hal : Below w.heap.size w (w.alloc (.cells #[.int .i64 r, .int .i64 l, .int .i64 p] 33)) := (Below.refl _ _).alloc (Nat.le_refl _) _
  have hX : Box (w.alloc (.cells #[.int .i64 r, .int .i64 l, .int .i64 p] 33)) w.heap.size 33 #[.int .i64 r, .int .i64 l, .int .i64 p] := box_new _ _ _
  have HST : Hid (Below w.heap.size w (w.alloc (.cells #[.int .i64 r, .int .i64 l, .int .i64 p] 33)) ∧ Box (w.alloc (.cells #[.int .i64 r, .int .i64 l, .int .i64 p] 33)) w.heap.size 33 #[.int .i64 r, .int .i64 l, .int .i64 p]) := Lib.hid ⟨hal, hX⟩
  unfold spotV
  clear h hal hX
  go_enter Try.func16, Try.ntmps16
  go_wp2_with fail
  go_loopw [5] (fun kv wr => ∃ k : Nat, k ≤ D.length ∧ kv = .int .i64 k ∧ Hid ((Below w.heap.size w wr ∧ Box wr w.heap.size 33 #[.int .i64 r, .int .i64 l, .int .i64 p]) ∧ ∀ j (hj : j < D.length), j < k → D[j].e.at_ r l p = false)) (fun kv _ => D.length - (intOf kv).toNat)
  case atStart => exact ⟨0, by omega, rfl, Lib.hid ⟨HST.out, fun j hj h => by omega⟩⟩
  case round =>
    obtain ⟨k, hk, rfl, HJ⟩ := hrel
    clear HST
    have hDr := (HI wr HJ.out.1.1).out
    have s1 : wr.cell? ⟨db, 1, none⟩ = some (.slice a D.length c) := hDr.box.cell 1
    by_cases hlt : k < D.length
    · have hlt2 : (k : Int) < (D.length : Int) := by omega
      have hk1 : IntKind.i64.wrap ((k : Int) + 1) = ((k + 1 : Nat) : Int) := by rw [IntWalk.i64_in _ (by omega)]; rfl
      obtain ⟨g, c', e, hc1, hc2, hg, hcells⟩ := hDr.cells (by omega)
      obtain ⟨z0, z1, z2, -, -⟩ := hcells k hlt
      simp only [Value.slice.injEq] at e
      obtain ⟨rfl, -, rfl⟩ := e
      have x0 : wr.cell? ⟨w.heap.size, 0, none⟩ = some (.int .i64 r) := HJ.out.1.2.cell 0
      have x1 : wr.cell? ⟨w.heap.size, 1, none⟩ = some (.int .i64 l) := HJ.out.1.2.cell 1
      have x2 : wr.cell? ⟨w.heap.size, 2, none⟩ = some (.int .i64 p) := HJ.out.1.2.cell 2
      obtain ⟨e0, he0⟩ : ∃ e0, D[k].e = e0 := ⟨_, rfl⟩
      rw [he0] at z0 z1 z2
      have HE0 := Lib.hid he0
      have heq := fun W => eql_spot e0.r e0.l e0.p r l p W
      clear hDr hcells hc1 hc2 hg he0
      cases hat : e0.at_ r l p with
      | true =>
        have hd : decide (e0.r = r ∧ e0.l = l ∧ e0.p = p) = true := decide_eq_true (at_iff.1 hat)
        have HR : Hid (FindR (docL D) r l p (k : Int)) := Lib.hid (.inr ⟨k, by rw [docL_len]; exact hlt, rfl, by
          have : (docL D)[k]'(by rw [docL_len]; exact hlt) = e0 := by rw [← HE0.out]; simp [docL]
          rw [this]; exact at_iff.1 hat⟩)
        rw [hd] at heq
        clear hat hd
        go_wp2_with fail
        go_quiet (fail)
        go_wp2
        go_ret
        exact ⟨⟨_, rfl, HR.out⟩, below_drewN HJ.out.1.1 _⟩
      | false =>
        have hd : decide (e0.r = r ∧ e0.l = l ∧ e0.p = p) = false := by
          rw [← Bool.not_eq_true, decide_eq_true_eq, ← at_iff, hat]; simp
        rw [hd] at heq
        have HAT := Lib.hid hat
        clear hat hd
        go_wp2_with fail
        go_quiet (fail)
        go_wp2
        go_roundw
        case rel => exact ⟨k + 1, by omega, rfl, Lib.hid ⟨⟨below_drewN HJ.out.1.1 _, HJ.out.1.2.drewN _⟩, fun j hj h => by
            rcases Nat.lt_succ_iff_lt_or_eq.1 h with h | rfl
            · exact HJ.out.2 j hj h
            · rw [HE0.out]; exact HAT.out⟩⟩
        case measure => simp [intOf]; omega
    · obtain rfl : k = D.length := by omega
      have HN : Hid (hasE (docL D) r l p = false) := Lib.hid (by
        rw [hasE_no]
        intro x hx hxe
        obtain ⟨y, hy, rfl⟩ := List.mem_map.1 hx
        obtain ⟨j, hj, rfl⟩ := List.getElem_of_mem hy
        have := HJ.out.2 j hj hj
        rw [← Bool.not_eq_true, at_iff] at this
        exact this hxe)
      have HB := Lib.hid HJ.out.1.1
      clear hlt
      go_wp2
      go_ret
      exact ⟨⟨_, rfl, .inl ⟨rfl, HN.out⟩⟩, HB.out⟩

end Go.Proofs.Ytolmejaedldeeaa
