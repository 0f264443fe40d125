/-
  What CacheActs asks: the code's store and the document's, side by side.
-/
import Derived.Test.YtolmejaedldeeaaLines12
import Derived.Test.YtolmejaedldeeaaLitCopy
import Derived.Deep.CutRange
import Derived.Deep.CutBlock
namespace Go.Proofs.Ytolmejaedldeeaa
open Go.RowKit Go.Maps
set_option linter.unusedVariables false

structure ActsI (w0 : World) (sb mb db base room : Nat) (L : List Ent) (v : Value) (D : List De) (wr : World) : Prop where
  st : StoreAt wr sb mb room L
  doc : DocAt wr db room base v D
  bel : Below w0.heap.size w0 wr
  mb : w0.heap.size ≤ mb
  db : w0.heap.size ≤ db
section
variable {w0 wr w' : World} {sb mb db base room b : Nat} {L L' : List Ent} {v v' : Value} {D D' : List De}
theorem ActsI.to (h : ActsI w0 sb mb db base room L v D wr) (hb : Below wr.heap.size wr w') : ActsI w0 sb mb db base room L v D w' := ⟨h.st.bel hb, h.doc.bel hb, h.bel.trans (hb.mono h.bel.size), h.mb, h.db⟩
theorem ActsI.code (h : ActsI w0 sb mb db base room L v D wr) (hS : StoreAt w' sb mb room L') (hg : wr.grownBy w' (some mb)) : ActsI w0 sb mb db base room L' v D w' :=
  ⟨hS, h.doc.store h.st hg, h.bel.grown hg h.bel.size (fun j hj => by cases hj; exact h.mb), h.mb, h.db⟩
theorem ActsI.docs (h : ActsI w0 sb mb db base room L v D wr) (hD : DocAt w' db room base v' D') (hK : KeptD wr w') (hB : Below db wr w') : ActsI w0 sb mb db base room L v' D' w' :=
  ⟨hK.st h.st, hD, h.bel.trans (hB.mono h.db), h.mb, h.db⟩
end

/-- all is let go -/
theorem ActsI.clear {w0 wr w' : World} {sb mb db base room : Nat} {L : List Ent} {v : Value} {D : List De} (h : ActsI w0 sb mb db base room L v D wr) (hS : StoreAt w' sb mb room []) (hg : wr.grownBy w' (some mb)) :
    ActsI w0 sb mb db base room [] (.slice none 0 0) [] (w'.setCell ⟨db, 1, none⟩ (.slice none 0 0)) ∧ KeptD w' (w'.setCell ⟨db, 1, none⟩ (.slice none 0 0)) := by
  have h1 := h.code hS hg
  have hg4 : w'.grownBy (w'.setCell ⟨db, 1, none⟩ (.slice none 0 0)) (some db) := ⟨rfl, rfl, rfl, by simp, fun i hi hne => by rw [heap_setCell_other w' ⟨db, 1, none⟩ i _ (fun e => hne (by rw [e]))]⟩
  have hK : KeptD w' (w'.setCell ⟨db, 1, none⟩ (.slice none 0 0)) := KeptD.of_row hg4 (fun g e => by cases e; exact .inr h1.doc.noBox)
  refine ⟨⟨hK.st hS, ⟨h1.doc.box.set 1 _, listAt_nil _ _ _ _ _, fun x hx => (by cases hx), h.doc.lt, Nat.le_trans h1.doc.le hK.size⟩, h1.bel.setCell (p := ⟨db, 1, none⟩) h.db _, h.mb, h.db⟩, hK⟩
theorem KeptD.off {w w' : World} (h : KeptD w w') {sb mb room b : Nat} {L : List Ent} (hS : StoreAt w sb mb room L) (ho : StoreOff w sb mb L b) : StoreOff w' sb mb L b := by
  refine ⟨ho.1, ho.2.1, fun F hF x hx k v e => ?_⟩
  obtain ⟨F0, h1, _⟩ := hS.map
  rw [hF.uniq (h.map _ _ _ _ h1)] at e
  exact ho.2.2 F0 h1 x hx k v e
/-- a number of 8 bits stored into block b leaves the document's store -/
theorem DocAt.far {w w' : World} {db room base b : Nat} {v : Value} {D : List De} {cs : Array Value} (h : DocAt w db room base v D) (ho : DocOff D b) (hb : Box w b 39 cs) (hg : w.grownBy w' (some b)) : DocAt w' db room base v D := by
  have hdb : b ≠ db := h.noBox.box_ne hb (by decide)
  refine ⟨h.box.kept hg (fun e => hdb (Option.some.inj e).symm), h.row.kept hg (fun g e x => (h.row.all g e).box_ne hb (by decide) (Option.some.inj x)), fun x hx => ?_, h.lt, Nat.le_trans h.le hg.size⟩
  have hx2 := h.ent x hx
  obtain ⟨o1, o2⟩ := ho x hx
  exact ⟨rw_grown (b := 0) hx2.1 hg (fun y hy h0 e => o1 y hy h0 (Option.some.inj e)), rw_grown (b := 0) hx2.2.1 hg (fun y hy h0 e => o2 y hy h0 (Option.some.inj e)), hx2.2.2⟩
/-- while the copy that was handed in is changed -/
structure MutI (w0 : World) (sb mb db base room : Nat) (L : List Ent) (v : Value) (D : List De) (ga : Option Addr) (gn : Nat) (wr : World) : Prop where
  a : ActsI w0 sb mb db base room L v D wr
  op : Op8 wr ga gn
  off : ∀ x, ga = some x → 0 < gn → StoreOff wr sb mb L x.block ∧ DocOff D x.block ∧ w0.heap.size ≤ x.block
theorem Op8.by {w w' : World} {a : Option Addr} {n : Nat} (h : Op8 w a n) (hk : ∀ g cs, Box w g 39 cs → Box w' g 39 cs) : Op8 w' a n := fun h0 => by
  obtain ⟨b, off, cs, ha, hB, hc⟩ := h h0
  exact ⟨b, off, cs, ha, hk _ _ hB, hc⟩
theorem put_mut {w0 wA wc w1 w2 : World} {sb mb db base room : Nat} {v : Value} {D : List De} {e : Ent} {g : Rw} (hA : ActsI w0 sb mb db base room (docL D) v D wA) (hb : Below wA.heap.size wA wc) (hg : g.In .i8 wc) (ht : ThA wc g.a) (hga : ∀ y, g.a = some y → wA.heap.size ≤ y.block)
    (hS : StoreAt w1 sb mb room (putE room (docL D) e).2) (hgr : wc.grownBy w1 (some mb)) (hoff : ∀ b, b < wc.heap.size → StoreOff wc sb mb (docL D) b → StoreOff w1 sb mb (putE room (docL D) e).2 b) (hD : DPutR room base db D e w1 w2) :
    ∃ v' D', MutI w0 sb mb db base room (putE room (docL D) e).2 v' D' g.a g.n w2 ∧ docL D' = (putE room (docL D) e).2 := by
  obtain ⟨⟨v', D', hd, he, hf⟩, hK, hB⟩ := hD
  have hC := hA.to hb
  have h1 := hC.code hS hgr
  have hop : Op8 wc g.a g.n := op8_of hg (fun _ => ht)
  refine ⟨v', D', ⟨h1.docs hd hK hB, (hop.by fun g cs h => hC.st.bx h hgr).by (fun g cs h => hK.box g _ cs h (by decide) (by decide)), fun x hx h0 => ?_⟩, he⟩
  have hlt := hg.lt hx h0
  have hge := hga x hx
  refine ⟨hK.off hS (hoff _ hlt ((hA.st.off hge).bel hA.st hb)), hf _ (Nat.lt_of_lt_of_le hlt hgr.size) (fun y hy => ?_), Nat.le_trans hA.bel.size hge⟩
  have := hA.doc.ent y hy
  exact ⟨this.1.off hge, this.2.1.off hge⟩
theorem MutI.set {w0 wr : World} {sb mb db base room b o gn : Nat} {L : List Ent} {v : Value} {D : List De} {z : Int} (h : MutI w0 sb mb db base room L v D (some ⟨b, o, none⟩) gn wr) (h0 : 0 < gn) (p : Nat) : MutI w0 sb mb db base room L v D (some ⟨b, o, none⟩) gn (wr.setCell ⟨b, p, none⟩ (.int .i8 z)) := by
  obtain ⟨o1, o2, o3⟩ := h.off _ rfl h0
  obtain ⟨b', o', cs, e, hB, _⟩ := h.op h0
  cases e
  have hg : wr.grownBy (wr.setCell ⟨b, p, none⟩ (.int .i8 z)) (some b) := ⟨rfl, rfl, rfl, by simp, fun i hi hne => by rw [heap_setCell_other wr ⟨b, p, none⟩ i _ (fun e => hne (by rw [e]))]⟩
  have hf := h.a.st.far o1 hg
  exact ⟨⟨hf.1, h.a.doc.far o2 hB hg, h.a.bel.setCell (p := ⟨b, p, none⟩) o3 _, h.a.mb, h.a.db⟩, h.op.set _ _ _, fun x hx _ => by cases hx; exact ⟨hf.2, o2, o3⟩⟩

end Go.Proofs.Ytolmejaedldeeaa
