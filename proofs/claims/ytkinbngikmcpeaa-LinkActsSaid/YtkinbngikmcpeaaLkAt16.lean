/-
  The code's link as it stands in memory: its own block, its map of early bodies, its row of bodies to be sent; what turns when only these turn.
-/
import Derived.Test.YtkinbngikmcpeaaLk16
import Derived.Test.YtkinbngikmcpeaaListR
import Derived.Test.YtkinbngikmcpeaaMapF
namespace Go.Proofs.Ytkinbngikmcpeaa
open Go.RowKit Go.Maps
set_option linter.unusedVariables false

theorem int_law16 : Keyed Try.prog 3 := int_keyed Try.underlying3
/-- where a link lies -/
structure Foot where
  lb : Nat
  mb : Nat
  va : Value
def Foot.has (f : Foot) (b : Nat) : Prop := b = f.lb ∨ b = f.mb ∨ f.va.ownBlock = some b
/-- a body to be sent, and where it lies -/
structure We16 where
  s : Int
  q : Rw
def tk16 (Sp : Nat) (s : Int) : Int := if s < 0 then 1 else Sp - s
def weCells (Sp : Nat) (x : We16) : List Value := [.slice x.q.a x.q.n x.q.cap, .int .i64 (tk16 Sp x.s)]
theorem weCells_len (Sp : Nat) (x : We16) : (weCells Sp x).length = 2 := rfl
def outOf (es : List We16) : List Wt16 := es.map fun x => ⟨x.s, x.q.v⟩
theorem outOf_len (es : List We16) : (outOf es).length = es.length := by simp [outOf]
abbrev NoU : Value → Prop := NoK .u8
theorem noU_i64 (z : Int) : NoU (.int .i64 z) := fun y e => by cases e
theorem noU_slice (a : Option Addr) (n c : Nat) : NoU (.slice a n c) := fun y e => by cases e
theorem noU_map (m : Option Nat) : NoU (.map m) := fun y e => by cases e
theorem noU_bool (b : Bool) : NoU (.bool b) := fun y e => by cases e
theorem noU_ptr (b : Option Addr) : NoU (.pointer b) := fun y e => by cases e
theorem we_noU (Sp : Nat) (es : List We16) : ∀ u ∈ es.flatMap (weCells Sp), NoU u := by
  intro u hu
  obtain ⟨x, _, hx⟩ := List.mem_flatMap.1 hu
  simp only [weCells, List.mem_cons, List.not_mem_nil, or_false] at hx
  rcases hx with rfl | rfl
  · exact noU_slice _ _ _
  · exact noU_i64 _
/-- a body's row -/
def rowQ (q : Rw) : Value := .slice q.a q.n q.cap
/-- F holds the early bodies -/
def FitQ (w : World) (E : List (Nat × List Int)) (F : Lit → Option Value) : Prop :=
  (∀ n : Nat, (F (.int .i64 n)).isSome = (findQ E n).isSome) ∧ ∀ n x, findQ E n = some x → ∃ q : Rw, F (.int .i64 n) = some (rowQ q) ∧ q.In .u8 w ∧ q.v = x.2 ∧ q.n ≤ 65536
def linkCells (W Sp R : Nat) (st : Lk16) (va : Value) (mb : Nat) : Array Value :=
  #[.int .i64 W, .int .i64 Sp, .int .i64 R, .int .i64 st.ep, va, .int .i64 st.acked, .int .i64 st.sent, .int .i64 st.got, .map (some mb), .bool st.owes]
structure LinkAt (w : World) (f : Foot) (W Sp R : Nat) (st : Lk16) : Prop where
  box : Box w f.lb 77 (linkCells W Sp R st f.va f.mb)
  left : ∃ es, outOf es = st.out ∧ ListAt NoU w 0 82 2 f.va st.out.length (es.flatMap (weCells Sp)) ∧ ∀ x ∈ es, x.q.In .u8 w ∧ x.q.n ≤ 65536
  map : ∃ F, MapAt w 3 f.mb st.early.length F ∧ FitQ w st.early F
  good : Good16 W Sp R st

/-! ### what turns -/
/-- a block of a link's: no bytes lie there, and it is of one of two types, or a map's -/
def BlkOk (w : World) (b : Nat) : Prop := (∀ o z, w.cell? ⟨b, o, none⟩ ≠ some (.int .u8 z)) ∧ ∀ T cs, Box w b T cs → T = 77 ∨ T = 82
theorem blkOk_map {w : World} {k : TypeId} {b n : Nat} {F : Lit → Option Value} (h : MapAt w k b n F) : BlkOk w b :=
  ⟨(fun o z e => by rw [h.cell o] at e; cases e), fun T cs e => (h.cells e).elim⟩
theorem blkOk_list {w : World} {g : Nat} (h : AllC NoU w 82 g) : BlkOk w g := by
  refine ⟨fun o z e => h.ne e (fun k => k _ rfl) rfl, fun T cs e => ?_⟩
  obtain ⟨c, h1, _⟩ := h
  have := h1.symm.trans e
  simp at this
  exact .inr this.2.symm
theorem linkCells_noU {W Sp R : Nat} {st : Lk16} {va : Value} {mb : Nat} (hv : NoU va) : ∀ u ∈ (linkCells W Sp R st va mb).toList, NoU u := by
  intro u hu
  simp only [linkCells, List.mem_cons, List.not_mem_nil, or_false] at hu
  rcases hu with rfl | rfl | rfl | rfl | rfl | rfl | rfl | rfl | rfl | rfl
  · exact noU_i64 _
  · exact noU_i64 _
  · exact noU_i64 _
  · exact noU_i64 _
  · exact hv
  · exact noU_i64 _
  · exact noU_i64 _
  · exact noU_i64 _
  · exact noU_map _
  · exact noU_bool _
theorem blkOk_box {w : World} {b : Nat} {cs : Array Value} (h : Box w b 77 cs) (hc : ∀ u ∈ cs.toList, NoU u) : BlkOk w b := by
  refine ⟨fun o z e => ?_, fun T c e => ?_⟩
  · rw [h.cell, ← Array.getElem?_toList] at e
    exact hc _ (List.mem_of_getElem? e) z rfl
  · have := h.symm.trans e
    simp at this
    exact .inl this.2.symm
structure Moves (w w' : World) (f : Foot) : Prop where
  os : w'.os = w.os
  tape : w'.tape = w.tape
  output : w'.output = w.output
  size : w.heap.size ≤ w'.heap.size
  only : ∀ b, b < w.heap.size → ¬ f.has b → w'.heap[b]? = w.heap[b]?
  rows : ∀ q : Rw, q.In .u8 w → q.In .u8 w'
  box : ∀ g T cs, Box w g T cs → T ≠ 77 → T ≠ 82 → Box w' g T cs
def FootTo (w : World) (f f' : Foot) : Prop := f'.lb = f.lb ∧ ∀ b, f'.has b → f.has b ∨ w.heap.size ≤ b
theorem FootTo.refl (w : World) (f : Foot) : FootTo w f f := ⟨rfl, fun b h => .inl h⟩
theorem FootTo.trans {w w1 : World} {f f1 f2 : Foot} (h : FootTo w f f1) (h2 : FootTo w1 f1 f2) (hs : w.heap.size ≤ w1.heap.size) : FootTo w f f2 :=
  ⟨h2.1.trans h.1, fun b hb => (h2.2 b hb).elim (fun x => h.2 b x) (fun x => .inr (Nat.le_trans hs x))⟩
theorem Moves.of_below {w w' : World} (hb : Below w.heap.size w w') (f : Foot) : Moves w w' f :=
  ⟨hb.os, hb.tape, hb.output, hb.size, fun b h _ => hb.block b h, fun q h => h.below hb, fun g T cs h _ _ => h.bel hb⟩
theorem Moves.trans {w w1 w2 : World} {f f1 : Foot} (h : Moves w w1 f) (hf : FootTo w f f1) (h2 : Moves w1 w2 f1) : Moves w w2 f :=
  ⟨h2.os.trans h.os, h2.tape.trans h.tape, h2.output.trans h.output, Nat.le_trans h.size h2.size, fun b hb hn => (h2.only b (Nat.lt_of_lt_of_le hb h.size) (fun x => (hf.2 b x).elim hn (fun y => by omega))).trans (h.only b hb hn), fun q x => h2.rows q (h.rows q x), fun g T cs x a b => h2.box g T cs (h.box g T cs x a b) a b⟩
theorem Moves.of_row {w w' : World} {f : Foot} {row : Option Nat} (hg : w.grownBy w' row) (hr : ∀ b, row = some b → f.has b ∧ BlkOk w b) : Moves w w' f := by
  refine ⟨hg.os, hg.tape, hg.output, hg.size, fun b hb hn => hg.block b hb (fun e => hn (hr b e.symm).1), fun q h => ?_, fun g T cs h a b => h.kept hg (fun e => ?_)⟩
  · refine ⟨⟨h.1.1, h.1.2.1, h.1.2.2.1, fun hn => let ⟨b, off, ha, hc⟩ := h.1.2.2.2 hn; ⟨b, off, ha, fun i hi => ?_⟩⟩, h.2⟩
    have h0 := hc i hi
    rw [World.cell?_of_block (w := w) (a := ⟨b, off + i, none⟩) (hg.block b (World.block_lt_of_cell? _ _ h0) (fun e => (hr b e.symm).2.1 _ _ h0))]
    exact h0
  · rcases (hr g e.symm).2.2 T cs h with e | e
    · exact a e
    · exact b e
/-- below a number that is none of the link's, all stands -/
theorem Moves.below {w w' : World} {f : Foot} (h : Moves w w' f) {B : Nat} (hB : B ≤ w.heap.size) (hf : ∀ b, f.has b → B ≤ b) : Below B w w' :=
  ⟨h.os, h.tape, h.output, h.size, fun k hk => h.only k (by omega) (fun x => by have := hf k x; omega)⟩
section
variable {w w' : World} {f : Foot} {W Sp R : Nat} {st : Lk16}
theorem LinkAt.shape (h : LinkAt w f W Sp R st) : ∃ a c, f.va = .slice a st.out.length c := let ⟨_, _, h, _⟩ := h.left; h.shape
theorem LinkAt.lt (h : LinkAt w f W Sp R st) : ∀ b, f.has b → b < w.heap.size := by
  rintro b (rfl | rfl | e)
  · exact h.box.lt
  · obtain ⟨F, hF, _⟩ := h.map; exact hF.lt
  · obtain ⟨es, _, hl, _⟩ := h.left; exact (hl.all b e).lt
theorem LinkAt.ok (h : LinkAt w f W Sp R st) : ∀ b, f.has b → BlkOk w b := by
  rintro b (rfl | rfl | e)
  · obtain ⟨a, c, hv⟩ := h.shape
    exact blkOk_box h.box (linkCells_noU (by rw [hv]; exact noU_slice _ _ _))
  · obtain ⟨F, hF, _⟩ := h.map; exact blkOk_map hF
  · obtain ⟨es, _, hl, _⟩ := h.left; exact blkOk_list (hl.all b e)
/-- rows, and the link's own blocks, stand -/
theorem LinkAt.keep (h : LinkAt w f W Sp R st) (hb : ∀ b, f.has b → w'.heap[b]? = w.heap[b]?) (hr : ∀ q : Rw, q.In .u8 w → q.In .u8 w') : LinkAt w' f W Sp R st := by
  obtain ⟨es, h1, h2, h3⟩ := h.left
  obtain ⟨F, h4, h5⟩ := h.map
  exact ⟨(hb _ (.inl rfl)).trans h.box, ⟨es, h1, h2.blk (fun g e => hb g (.inr (.inr e))), fun x hx => ⟨hr _ (h3 x hx).1, (h3 x hx).2⟩⟩, ⟨F, h4.block (hb _ (.inr (.inl rfl))), h5.1, fun n x hx => let ⟨q, a, b, c⟩ := h5.2 n x hx; ⟨q, a, hr _ b, c⟩⟩, h.good⟩
theorem LinkAt.bel (h : LinkAt w f W Sp R st) (hb : Below w.heap.size w w') : LinkAt w' f W Sp R st := h.keep (fun b hf => hb.block b (h.lt b hf)) (fun q x => x.below hb)
/-- another link moves -/
theorem LinkAt.moved (h : LinkAt w f W Sp R st) {f2 : Foot} (hm : Moves w w' f2) (hne : ∀ b, f.has b → ¬ f2.has b) : LinkAt w' f W Sp R st := h.keep (fun b hf => hm.only b (h.lt b hf) (hne b hf)) hm.rows
end
/-- the three parts of a link's place differ -/
theorem LinkAt.apart {w : World} {f : Foot} {W Sp R : Nat} {st : Lk16} (h : LinkAt w f W Sp R st) : f.lb ≠ f.mb ∧ (∀ g, f.va.ownBlock = some g → g ≠ f.lb ∧ g ≠ f.mb) := by
  obtain ⟨es, h1, h2, h3⟩ := h.left
  obtain ⟨F, h4, h5⟩ := h.map
  refine ⟨fun e => h4.cells (e ▸ h.box), fun g e => ⟨fun x => (h2.all g e).box_ne h.box (by decide) x.symm, fun x => ?_⟩⟩
  obtain ⟨cs, hb, _⟩ := h2.all g e
  exact h4.cells (x ▸ hb)
/-- what a call leaves -/
def Ends (w w' : World) (f : Foot) (W Sp R : Nat) (st : Lk16) : Prop := ∃ f', LinkAt w' f' W Sp R st ∧ FootTo w f f' ∧ Moves w w' f
theorem LinkAt.same {w w' : World} {f : Foot} {W Sp R : Nat} {st : Lk16} (h : LinkAt w f W Sp R st) (hb : Below w.heap.size w w') : Ends w w' f W Sp R st := ⟨f, h.bel hb, FootTo.refl _ _, Moves.of_below hb f⟩
theorem Ends.after {w w1 w2 : World} {f : Foot} {W Sp R : Nat} {st : Lk16} (hf : ∀ b, f.has b → b < w.heap.size) (hb : Below w.heap.size w w1) (h : Ends w1 w2 f W Sp R st) : Ends w w2 f W Sp R st :=
  let ⟨f', h1, h2, h3⟩ := h
  ⟨f', h1, ⟨h2.1, fun b x => (h2.2 b x).imp id (Nat.le_trans hb.size)⟩, (Moves.of_below hb f).trans (FootTo.refl _ _) h3⟩

end Go.Proofs.Ytkinbngikmcpeaa
