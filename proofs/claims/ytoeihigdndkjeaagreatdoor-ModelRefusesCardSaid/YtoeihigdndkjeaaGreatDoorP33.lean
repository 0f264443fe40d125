import Derived.Test.YtoeihigdndkjeaaGreatDoorP27
import Derived.Test.YtoeihigdndkjeaaGreatDoorP24
import Derived.Test.YtoeihigdndkjeaaGreatDoorJ05
import Derived.Test.YtoeihigdndkjeaaGreatDoorP32
/-
  The document's Generate.
-/
namespace Go.Proofs.YtoeihigdndkjeaaGreatDoor
open Go.RowKit Go.Shelf
set_option linter.unusedVariables false

/-- what is asked of One -/
def OneC : Prop := ∀ (r t p : Nat) (lv : Value) (s : Sz) (ok : s.Ok) (W : Wt7) (K : KF8) (w : World), DocS w r lv s W p K → (W.l = s.l ∧ W.w = s.w ∧ W.h = s.h ∧ W.i = s.i ∧ W.v = s.v ∧ W.p = s.p) → wtB s W = true → t < s.v → p ≤ 199 →
      Calls Tryz.prog 22 #[.pointer (some ⟨r, 0, none⟩), .int .i64 t] w fun e w' => OneD s W r lv p t K w e w'
/-- a run of which nothing was fed -/
theorem docS_new {w : World} {r : Nat} {s : Sz} {W : Wt7} {K : KF8} (hb : Box w r 53 (dcells W (.slice none 0 0))) (hW : W.In w) : DocS w r (.slice none 0 0) s W 0 K :=
  ⟨hb, ⟨[], ⟨World.ownsRow_nil _ _ _ _, (by intro g hg; cases hg), (by intro x hx; cases hx), (by intro q hq; omega)⟩⟩, hW⟩

theorem HdT.gr {w w' : World} {g0 : Option Nat} {v : Value} {n base wd : Nat} {rows : List Rw} {X : TypeId} (h : HdT w base v n wd rows) (hg : w.grownBy w' g0) (hq : ∀ g, g0 = some g → IsT w g X) (n1 : 64 ≠ X) (n2 : 24 ≠ X) : HdT w' base v n wd rows :=
  ⟨own_blk h.own (fun k hk => hg.block k (h.own.lt k hk).2 (fun e => (own_isT h.own hk).ne (hq k e.symm) n2 rfl)),
   fun x hx => ⟨(h.rows x hx).1.blk fun y hy => hg.block _ ((h.rows x hx).1.2 y hy).lt (fun e => ((h.rows x hx).1.2 y hy).ne (hq _ e.symm) n1 rfl), (h.rows x hx).2⟩,
   fun k hk => (h.sl k hk).blk (hg.block k (h.own.lt k hk).2 (fun e => (own_isT h.own hk).ne (hq k e.symm) n2 rfl))⟩
theorem DocS.gr {w w' : World} {g0 : Option Nat} {r p : Nat} {lv : Value} {s : Sz} {W : Wt7} {K : KF8} {X : TypeId} (h : DocS w r lv s W p K) (hg : w.grownBy w' g0) (hq : ∀ g, g0 = some g → IsT w g X) (n1 : 64 ≠ X) (n2 : 24 ≠ X) (n3 : 56 ≠ X) (n4 : 53 ≠ X) (hW : W.In w') : DocS w' r lv s W p K := by
  obtain ⟨ps, hl⟩ := h.l
  refine ⟨(hg.block r h.box.lt (fun e => IsT.ne (g := r) ⟨_, _, h.box⟩ (hq r e.symm) n4 rfl)).trans h.box, ⟨ps, ?_⟩, hW⟩
  exact ⟨own_blk hl.own (fun k hk => hg.block k (hl.own.lt k hk).2 (fun e => (own_isT hl.own hk).ne (hq k e.symm) n3 rfl)),
    fun k hk => (hl.sl k hk).blk (hg.block k (hl.own.lt k hk).2 (fun e => (own_isT hl.own hk).ne (hq k e.symm) n3 rfl)),
    fun x hx => ⟨(hl.pl x hx).1.gr hg hq n1 n2, (hl.pl x hx).2.gr hg hq n1 n2⟩, hl.num⟩
end Go.Proofs.YtoeihigdndkjeaaGreatDoor
