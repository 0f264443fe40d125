import Derived.Test.YtoeihigdndkjeaaGreatDoorP30
import Derived.Test.YtoeihigdndkjeaaGreatDoorP38
import Derived.Test.YtoeihigdndkjeaaGreatDoorP40
import Derived.Test.YtoeihigdndkjeaaGreatDoorP39
import Derived.Test.YtoeihigdndkjeaaGreatDoorP36
/-
  The document's Made: its shape and numbers as functions of what is handed in, its rows in new blocks.
-/
namespace Go.Proofs.YtoeihigdndkjeaaGreatDoor
open Go.RowKit Go.Shelf
set_option linter.unusedVariables false

/-- the shape; a row of which the first k numbers are another's; the numbers -/
def madeS (x0 x1 x2 x3 x4 x5 : Int) : Sz := tinyY (x0 % 3) (x1 % 2) (x2 % 3) (x3 % 8) (x4 % 9) (x5 % 9)
def putL (g q : List Int) : Nat → List Int
  | 0 => g
  | k + 1 => (putL g q k).set k (q.getD k 0)
def madeL (s : Sz) (sd : Nat) (q : List Int) (n : Nat) : List Int := putL (grownL s sd) q (min (cnt s) n)
/-- the weights that are made -/
def MadeF (x0 x1 x2 x3 x4 x5 : Int) (sd : Nat) (q : Rw) (B : Nat) (w : World) (e : Ending) : Prop := ∃ s xs, s = madeS x0 x1 x2 x3 x4 x5 ∧ xs = madeL s sd q.v q.n ∧ (s.Tiny ∧ s.p ≤ 12) ∧ OfWF s xs B w e

set_option maxHeartbeats 8000000 in
set_option maxRecDepth 100000 in
theorem made_pin (x0 x1 x2 x3 x4 x5 : Int) (sd : Nat) (hsd : sd < 18446744073709551616) (q : Rw) (w : World) (hq : q.In .i8 w) (hn : q.n ≤ 2000) :
    Calls Tryz.prog 17 #[.agg #[.int .i64 x0, .int .i64 x1, .int .i64 x2, .int .i64 x3, .int .i64 x4, .int .i64 x5], .int .u64 sd, .slice q.a q.n q.cap] w fun e w' => MadeF x0 x1 x2 x3 x4 x5 sd q w.heap.size w' e ∧ Below w.heap.size w w' := by
  obtain ⟨qa, qn, qcap, qv⟩ := q
  have HQ : Hid (Elems .i8 w qa qn qv) := Lib.hid hq.1
  have hn : qn ≤ 2000 := hn
  have cT : ∀ W, Calls Tryz.prog 39 #[.agg #[.int .i64 x0, .int .i64 x1, .int .i64 x2, .int .i64 x3, .int .i64 x4, .int .i64 x5]] W fun e w' => (∃ s : Sz, (s.Tiny ∧ s.p ≤ 12) ∧ s = madeS x0 x1 x2 x3 x4 x5 ∧ e = .returned (.agg #[.int .i64 s.l, .int .i64 s.w, .int .i64 s.h, .int .i64 s.i, .int .i64 s.v, .int .i64 s.p])) ∧ Below W.heap.size W w' := fun W => tiny_pin x0 x1 x2 x3 x4 x5 W
  have cG : ∀ (s : Sz), s.Ok → ∀ W, Calls Tryz.prog 40 #[.agg #[.int .i64 s.l, .int .i64 s.w, .int .i64 s.h, .int .i64 s.i, .int .i64 s.v, .int .i64 s.p], .int .u64 sd] W fun e w' => (∃ v, e = .returned v ∧ w'.ownsRow W.heap.size 64 1 v (cnt s) ((grownL s sd).map (.int .i8))) ∧ Below W.heap.size W w' := fun s ok W => doc_grown s ok sd hsd W
  have HSD := Lib.hid hsd
  clear hq hsd
  go_enter Tryz.func17, Tryz.ntmps17
  go_upto_region 1 with (fail)
  generalize hwa : World.alloc _ _ = wa
  have XN : Box wa w.heap.size 22 #[.int .i64 x0, .int .i64 x1, .int .i64 x2, .int .i64 x3, .int .i64 x4, .int .i64 x5] := by rw [← hwa]; exact (box_new _ _ _).alloc _
  have RZ : Box wa (w.heap.size + 1) 50 zwts := by rw [← hwa]; exact box_at (by simp) _ _
  have HB : Below w.heap.size w wa := by rw [← hwa]; exact ((Below.refl _ _).alloc (Nat.le_refl _) _).alloc (by simp) _
  clear hwa
  obtain ⟨z0, z1, z2, z3, z4, z5⟩ := XN.cells6
  have HRZ := Lib.hid RZ
  have HBA := Lib.hid HB
  clear XN RZ HB
  go_wp2_with fail
  refine (cT _).mono ?_
  rintro e w1 ⟨⟨s, hs, hpin, rfl⟩, hb⟩
  have HPIN := Lib.hid hpin
  clear hpin
  have HRZ1 := Lib.hid (HRZ.out.bel hb)
  have HB1 := Lib.hid (below_two HBA.out hb)
  have HS := Lib.hid hs
  have cG1 := cG s hs.1.1
  clear cT cG z0 z1 z2 z3 z4 z5 HRZ HBA hb hs
  go_upto_region 2 with (fail)
  generalize hw2 : World.alloc w1 _ = w2
  have SH : Box w2 w1.heap.size 45 #[.int .i64 s.l, .int .i64 s.w, .int .i64 s.h, .int .i64 s.i, .int .i64 s.v, .int .i64 s.p] := by rw [← hw2]; exact box_new _ _ _
  have RZ2 : Box w2 (w.heap.size + 1) 50 zwts := by rw [← hw2]; exact HRZ1.out.alloc _
  have HB2 : Below w.heap.size w w2 := by rw [← hw2]; exact HB1.out.alloc HB1.out.size _
  obtain ⟨n1, hn1⟩ : ∃ n1, w1.heap.size = n1 := ⟨_, rfl⟩
  have hn01 : w.heap.size ≤ n1 := by rw [← hn1]; exact HB1.out.size
  have hn02 : w.heap.size + 1 < n1 := by rw [← hn1]; exact HRZ1.out.lt
  rw [hn1] at SH ⊢
  clear hw2 HRZ1 HB1 hn1
  obtain ⟨z0, z1, z2, z3, z4, z5⟩ := SH.cells6
  have hn12 := SH.lt
  have HSH := Lib.hid SH
  have HRZ2 := Lib.hid RZ2
  have HBB2 := Lib.hid HB2
  clear SH RZ2 HB2
  go_wp2_with fail
  refine (cG1 _).mono ?_
  rintro e w3 ⟨⟨v, rfl, hown⟩, hb⟩
  have hwf := grownL_wf s sd HSD.out
  obtain ⟨c1, c2⟩ := tiny_cnt HS.out.1
  obtain ⟨n, hcn⟩ : ∃ n, cnt s = n := ⟨_, rfl⟩
  rw [hcn] at hown c1 c2
  obtain ⟨a, cap, rfl, hE, hc1, hc2, -, hc4⟩ := own_lies hown hwf (by omega)
  obtain ⟨g, rfl⟩ := hc4 c1
  have HCN := Lib.hid hcn
  have HO : Hid (w3.ownsRow (n1 + 1) 64 1 (.slice (some ⟨g, 0, none⟩) n cap) n ((grownL s sd).map (.int .i8))) := Lib.hid (Go.Joins.ownsRow_le hown hn12)
  have HWF := Lib.hid hwf
  have HSH3 := Lib.hid (HSH.out.bel hb)
  have HRZ3 := Lib.hid (HRZ2.out.bel hb)
  have HB3 := Lib.hid (below_two HBB2.out hb)
  clear hcn hown hE hc4 hwf hb z0 z1 z2 z3 z4 z5 HSH HRZ2 HBB2 cG1
  go_wp2_with fail
  go_loopw [9] (fun i wr => ∃ (k : Nat) (xs : List Int), k ≤ n ∧ i = .int .i64 k ∧ Hid (k ≤ qn ∧ xs = putL (grownL s sd) qv k) ∧ Hid (wr.ownsRow (n1 + 1) 64 1 (.slice (some ⟨g, 0, none⟩) n cap) n (xs.map (.int .i8))) ∧ Hid (∀ y ∈ xs, (Lit.int .i8 y).wf = true) ∧ Hid (Box wr n1 45 #[.int .i64 s.l, .int .i64 s.w, .int .i64 s.h, .int .i64 s.i, .int .i64 s.v, .int .i64 s.p]) ∧ Hid (Box wr (w.heap.size + 1) 50 zwts) ∧ Hid (Below w.heap.size w wr)) (fun i _ => n - (intOf i).toNat)
  case atStart => exact ⟨0, _, by omega, rfl, Lib.hid ⟨by omega, rfl⟩, HO, HWF, HSH3, HRZ3, HB3⟩
  case round =>
    clear HO HWF HSH3 HRZ3 HB3
    obtain ⟨k, xs, hk, rfl, hPX, hO, hW, hS, hR, hB⟩ := hrel
    have hg1 : n1 + 1 ≤ g := (hO.out.lt g rfl).1
    by_cases hlt : k < n ∧ k < qn
    · obtain ⟨hl1, hl2⟩ := hlt
      obtain ⟨bb, off, t, rfl, hc, HT, hw⟩ := (HQ.out.below hB.out).at_ hl2
      have hxl : xs.length = n := by have := hO.out.1; simpa using this
      have y0 : wr.cell? ⟨g, k, none⟩ = some (.int .i8 (xs.getD k 0)) := by
        have := hO.out.cellAt k (by omega)
        rw [this, List.getElem?_map, List.getD_eq_getElem?_getD, List.getElem?_eq_getElem (by omega)]
        rfl
      have yf := hO.out.frozenAt k
      have HO2 : Hid ((wr.setCell ⟨g, k, none⟩ (.int .i8 t)).ownsRow (n1 + 1) 64 1 (.slice (some ⟨g, 0, none⟩) n cap) n ((xs.set k t).map (.int .i8))) := Lib.hid (own_store hO.out k t)
      have HW2 : Hid (∀ y ∈ xs.set k t, (Lit.int .i8 y).wf = true) := Lib.hid (set_wf hW.out k hw)
      have HS2 : Hid (Box (wr.setCell ⟨g, k, none⟩ (.int .i8 t)) n1 45 #[.int .i64 s.l, .int .i64 s.w, .int .i64 s.h, .int .i64 s.i, .int .i64 s.v, .int .i64 s.p]) := Lib.hid (hS.out.other _ (by omega))
      have HR2 : Hid (Box (wr.setCell ⟨g, k, none⟩ (.int .i8 t)) (w.heap.size + 1) 50 zwts) := Lib.hid (hR.out.other _ (by omega))
      have HB4 : Hid (Below w.heap.size w (wr.setCell ⟨g, k, none⟩ (.int .i8 t))) := Lib.hid (hB.out.setCell (by show w.heap.size ≤ g; omega) _)
      have HP2 : Hid (k + 1 ≤ qn ∧ xs.set k t = putL (grownL s sd) qv (k + 1)) := Lib.hid ⟨hl2, by rw [hPX.out.2, ← HT.out]; rfl⟩
      clear hPX
      clear hO hW hS hR hB hxl hw
      go_wp2
      go_roundw
      case rel => exact ⟨k + 1, _, by omega, by go_num, HP2, HO2, HW2, HS2, HR2, HB4⟩
      case measure => simp [intOf]; omega
    · obtain ⟨a, cap2, hv, hE, hc1, hc2, -, -⟩ := own_lies hO.out hW.out (by omega)
      cases hv
      have cO := ofF s HS.out.1.1 g 0 n cap xs wr hE HCN.out.symm hc1 hc2 (by omega)
      unfold Sz.val shv at cO
      obtain ⟨z0, z1, z2, z3, z4, z5⟩ := hS.out.cells6
      have HE := Lib.hid hE
      clear hE hO hW
      have hcase : (k = n) ∨ (k < n ∧ ¬ k < qn) := by omega
      have HPF : Hid (xs = madeL s sd qv qn) := Lib.hid (by
        have h1 := hPX.out.1
        rw [hPX.out.2]
        unfold madeL
        rw [HCN.out, show min n qn = k by omega])
      clear hPX
      clear hlt
      rcases hcase with rfl | ⟨hl1, hl2⟩
      all_goals
        go_wp2_with fail
        refine cO.mono ?_
        rintro e w4 ⟨⟨W, rfl, hin, h6, hwt, hnu, hfr, hth⟩, hb⟩
        have RZ4 := hR.out.bel hb
        have HF : Hid (W.In w4 ∧ (W.l = s.l ∧ W.w = s.w ∧ W.h = s.h ∧ W.i = s.i ∧ W.v = s.v ∧ W.p = s.p) ∧ wtB s W = true ∧ W.nums s = wnOf s xs ∧ WFresh w.heap.size W ∧ WThaw w4 W) := Lib.hid ⟨hin, h6, hwt, hnu, hfr.mono hB.out.size, hth⟩
        have HB4 := Lib.hid (below_two hB.out hb)
        clear hin h6 hwt hnu hfr hth hb z0 z1 z2 z3 z4 z5 cO HE hR hB hS
        unfold zwts at RZ4
        go_wp2_with (refine wpList_store_row (o := ⟨none, .store _ _ _, _, _, _, _⟩) rfl 50 _ _ rfl (w.heap.size + 1) W.cells rfl rfl 50 _ RZ4 (by kernel_rfl) rfl (by simp [Wt7.cells, Value.oneCell']) ?_)
        have X2 := RZ4.setRow (cs' := W.cells)
        have hB5 := below_setRow (cs := W.cells) HB4.out (g := w.heap.size + 1) (by omega) HB4.out.size
        have hth2 : WThaw (w4.setRow (w.heap.size + 1) W.cells) W := ⟨HF.out.2.2.2.2.2.1.but RZ4 (by decide) (but_grown (grownBy_setRow w4 (w.heap.size + 1) W.cells)), HF.out.2.2.2.2.2.2.but RZ4 (by decide) (but_grown (grownBy_setRow w4 (w.heap.size + 1) W.cells))⟩
        have hin2 := wt_but HF.out.1 RZ4 (no8_of (by simp)) (by simp) (grownBy_setRow w4 (w.heap.size + 1) W.cells)
        exact bodyPost_ret (v := .agg W.cells) (results_row rfl rfl X2 Tryz.underlying50 rfl (by kernel_rfl)) rfl ⟨⟨s, xs, HPIN.out, HPF.out, HS.out, W, rfl, hin2, HF.out.2.1, HF.out.2.2.1, HF.out.2.2.2.1, HF.out.2.2.2.2.1, hth2⟩, hB5⟩

end Go.Proofs.YtoeihigdndkjeaaGreatDoor

/-
  What stands where a few blocks turn; weights of which numbers are stored anew; New of weights that aren't whole.
-/
namespace Go.Proofs.YtoeihigdndkjeaaGreatDoor
open Go.RowKit Go.Shelf
set_option linter.unusedVariables false

/-- all blocks below B0, and all from B1 on, stand -/
structure Turnt (B0 B1 : Nat) (w w' : World) : Prop where
  os : w'.os = w.os
  tape : w'.tape = w.tape
  output : w'.output = w.output
  size : w'.heap.size = w.heap.size
  block : ∀ k, k < B0 ∨ B1 ≤ k → w'.heap[k]? = w.heap[k]?
section
variable {B0 B1 : Nat} {w0 w w' : World} {W V : Wt7} {s : Sz} {m : Nat}
theorem Turnt.refl (B0 B1 : Nat) (w : World) : Turnt B0 B1 w w := ⟨rfl, rfl, rfl, rfl, fun _ _ => rfl⟩
theorem Turnt.set (h : Turnt B0 B1 w w') {g : Nat} (hg : B0 ≤ g ∧ g < B1) (o : Nat) (v : Value) : Turnt B0 B1 w (w'.setCell ⟨g, o, none⟩ v) :=
  ⟨h.os, h.tape, h.output, (by rw [← h.size]; simp), fun k hk => (Below.heap_setCell w' ⟨g, o, none⟩ v k (by show k ≠ g; omega)).trans (h.block k hk)⟩
theorem Turnt.box (h : Turnt B0 B1 w w') {g : Nat} {T : TypeId} {cs : Array Value} (hB : Box w g T cs) (hg : g < B0 ∨ B1 ≤ g) : Box w' g T cs := (h.block g hg).trans hB
theorem Turnt.elems (h : Turnt B0 B1 w w') {k : IntKind} {a : Option Addr} {n : Nat} {xs : List Int} (hE : Elems k w a n xs) (ha : 0 < n → ∀ x, a = some x → x.block < B0 ∨ B1 ≤ x.block) : Elems k w' a n xs :=
  ⟨hE.1, hE.2.1, hE.2.2.1, fun hn => let ⟨b, off, e, hc⟩ := hE.2.2.2 hn; ⟨b, off, e, fun i hi => (World.cell?_of_block (w := w) (a := ⟨b, off + i, none⟩) (h.block b (ha hn ⟨b, off, none⟩ e))).trans (hc i hi)⟩⟩
theorem Turnt.below (h : Turnt B0 B1 w w') (hb : Below B0 w0 w) : Below B0 w0 w' := ⟨h.os.trans hb.os, h.tape.trans hb.tape, h.output.trans hb.output, (by rw [h.size]; exact hb.size), fun k hk => (h.block k (.inl hk)).trans (hb.block k hk)⟩
theorem Turnt.wt (h : Turnt B0 B1 w w') (hW : W.In w) (hf : WFresh B1 W) : W.In w' := by
  obtain ⟨h1, h2, h3, ⟨k1, k2, k3, k4⟩, h5⟩ := hW
  obtain ⟨f1, f2, f3, f4, f5⟩ := hf
  refine ⟨⟨h.elems h1.1 fun _ x hx => .inr (f1 x hx), h1.2⟩, ⟨h.elems h2.1 fun _ x hx => .inr (f2 x hx), h2.2⟩, ⟨h.elems h3.1 fun _ x hx => .inr (f3 x hx), h3.2⟩, ⟨k1, k2, fun x hx => ?_, fun hn => ?_⟩, h5⟩
  · obtain ⟨o1, o2, o3, o4, o5, o6, o7, o8⟩ := f5 x hx
    obtain ⟨h1, h2, h3, h4, h5, h6, h7, h8⟩ := k3 x hx
    exact ⟨⟨h.elems h1.1 fun _ x hx => .inr (o1 x hx), h1.2⟩, ⟨h.elems h2.1 fun _ x hx => .inr (o2 x hx), h2.2⟩, ⟨h.elems h3.1 fun _ x hx => .inr (o3 x hx), h3.2⟩, ⟨h.elems h4.1 fun _ x hx => .inr (o4 x hx), h4.2⟩, ⟨h.elems h5.1 fun _ x hx => .inr (o5 x hx), h5.2⟩, ⟨h.elems h6.1 fun _ x hx => .inr (o6 x hx), h6.2⟩, ⟨h.elems h7.1 fun _ x hx => .inr (o7 x hx), h7.2⟩, ⟨h.elems h8.1 fun _ x hx => .inr (o8 x hx), h8.2⟩⟩
  · obtain ⟨g, off, ha, hlt, hx⟩ := k4 hn
    exact ⟨g, off, ha, by rw [h.size]; exact hlt, fun i hi k hk => (World.cell?_of_block (w := w) (a := ⟨g, off + i * 20 + k, none⟩) (h.block g (.inr (f4 _ ha)))).trans (hx i hi k hk)⟩
theorem Turnt.mod (h : Turnt B0 B1 w w') (hm : ModAt w m s V) (hB : B1 ≤ m) (hf : WFresh B1 V) : ModAt w' m s V :=
  ⟨h.box hm.box (.inr hB), h.wt hm.inn hf, hm.l, hm.w, hm.h, hm.i, hm.v, hm.p, hm.whole⟩
theorem Turnt.tab (h : Turnt B0 B1 w w') (hT : Tab w) (hl : 1 < B0) : Tab w' := fun i hi => (World.cell?_of_block (w := w) (a := ⟨1, i, none⟩) (h.block _ (.inl hl))).trans (hT i hi)
theorem Turnt.stab (h : Turnt B0 B1 w w') (hT : STab w) (hl : 0 < B0) : STab w' := fun i hi => (World.cell?_of_block (w := w) (a := ⟨0, i, none⟩) (h.block _ (.inl hl))).trans (hT i hi)
end

/-- a row of numbers of 8 bits, where one is stored anew -/
theorem elems8_set {w : World} {g o : Nat} {cs : Array Value} {y : Int} (hB : Box w g 64 cs) (hy : (Lit.int .i8 y).wf = true) {a : Option Addr} {n : Nat} {xs : List Int} (h : Elems .i8 w a n xs) : ∃ ys, Elems .i8 (w.setCell ⟨g, o, none⟩ (.int .i8 y)) a n ys := by
  by_cases hn : 0 < n
  · obtain ⟨b, off, rfl, hc⟩ := h.2.2.2 hn
    by_cases hb : b = g
    · subst hb
      refine ⟨(List.range n).map fun i => if off + i = o then y else xs.getD i 0, by simp, h.2.1, fun x hx => ?_, fun _ => ⟨b, off, rfl, fun i hi => ?_⟩⟩
      · obtain ⟨i, hi, rfl⟩ := List.mem_map.1 hx
        split
        · exact hy
        · exact h.2.2.1 _ (getD_mem (by rw [h.1]; simpa using hi))
      · have h0 := hc i hi
        rw [hB.cell] at h0
        rw [(hB.set o _).cell]
        have e9 : ((List.range n).map fun i => if off + i = o then y else xs.getD i 0).getD i 0 = if off + i = o then y else xs.getD i 0 := by
          rw [List.getD_eq_getElem?_getD, List.getElem?_map, List.getElem?_range hi]; rfl
        rw [e9]
        by_cases e : off + i = o
        · subst e
          rw [if_pos rfl, Array.getElem?_setIfInBounds_self_of_lt (Array.getElem?_eq_some_iff.1 h0).1]
        · rw [if_neg e, Array.getElem?_setIfInBounds_ne (Ne.symm e)]
          exact h0
    · exact ⟨xs, h.1, h.2.1, h.2.2.1, fun _ => ⟨b, off, rfl, fun i hi => (World.cell?_of_block (w := w) (a := ⟨b, off + i, none⟩) (Below.heap_setCell w ⟨g, o, none⟩ _ b hb)).trans (hc i hi)⟩⟩
  · exact ⟨xs, h.1, h.2.1, h.2.2.1, fun h9 => absurd h9 hn⟩
/-- weights that lie as others do -/
structure Alike (W W3 : Wt7) : Prop where
  six : W3.l = W.l ∧ W3.w = W.w ∧ W3.h = W.h ∧ W3.i = W.i ∧ W3.v = W.v ∧ W3.p = W.p
  cells : W3.cells = W.cells
  ea : W3.e.a = W.e.a ∧ W3.e.n = W.e.n
  ba : W3.ba = W.ba ∧ W3.bn = W.bn
  bs : W3.bs.map Bk7.cells = W.bs.map Bk7.cells
theorem Alike.refl (W : Wt7) : Alike W W := ⟨⟨rfl, rfl, rfl, rfl, rfl, rfl⟩, rfl, ⟨rfl, rfl⟩, ⟨rfl, rfl⟩, rfl⟩
theorem Alike.trans {W W3 W4 : Wt7} (h : Alike W W3) (k : Alike W3 W4) : Alike W W4 := by
  obtain ⟨⟨a1, a2, a3, a4, a5, a6⟩, a7, ⟨a8, a9⟩, ⟨b1, b2⟩, b3⟩ := h
  obtain ⟨⟨c1, c2, c3, c4, c5, c6⟩, c7, ⟨c8, c9⟩, ⟨d1, d2⟩, d3⟩ := k
  exact ⟨⟨c1.trans a1, c2.trans a2, c3.trans a3, c4.trans a4, c5.trans a5, c6.trans a6⟩, c7.trans a7, ⟨c8.trans a8, c9.trans a9⟩, ⟨d1.trans b1, d2.trans b2⟩, d3.trans b3⟩
theorem bk_set {w : World} {g o : Nat} {cs : Array Value} {y : Int} (hB : Box w g 64 cs) (hy : (Lit.int .i8 y).wf = true) {b : Bk7} (h : b.In w) : ∃ b' : Bk7, b'.In (w.setCell ⟨g, o, none⟩ (.int .i8 y)) ∧ b'.cells = b.cells := by
  obtain ⟨h1, h2, h3, h4, h5, h6, h7, h8⟩ := h
  obtain ⟨y1, e1⟩ := elems8_set (o := o) hB hy h1.1
  obtain ⟨y2, e2⟩ := elems8_set (o := o) hB hy h2.1
  obtain ⟨y3, e3⟩ := elems8_set (o := o) hB hy h3.1
  obtain ⟨y4, e4⟩ := elems8_set (o := o) hB hy h4.1
  obtain ⟨y5, e5⟩ := elems8_set (o := o) hB hy h5.1
  obtain ⟨y6, e6⟩ := elems8_set (o := o) hB hy h6.1
  obtain ⟨y7, e7⟩ := elems8_set (o := o) hB hy h7.1
  obtain ⟨y8, e8⟩ := elems8_set (o := o) hB hy h8.1
  exact ⟨⟨⟨b.x.a, b.x.n, b.x.cap, y1⟩, ⟨b.y.a, b.y.n, b.y.cap, y2⟩, ⟨b.q.r, b.q.c, b.q.a, b.q.n, b.q.cap, y3⟩, ⟨b.k.r, b.k.c, b.k.a, b.k.n, b.k.cap, y4⟩, ⟨b.v.r, b.v.c, b.v.a, b.v.n, b.v.cap, y5⟩, ⟨b.o.r, b.o.c, b.o.a, b.o.n, b.o.cap, y6⟩, ⟨b.u.r, b.u.c, b.u.a, b.u.n, b.u.cap, y7⟩, ⟨b.d.r, b.d.c, b.d.a, b.d.n, b.d.cap, y8⟩⟩,
    ⟨⟨e1, h1.2⟩, ⟨e2, h2.2⟩, ⟨e3, h3.2⟩, ⟨e4, h4.2⟩, ⟨e5, h5.2⟩, ⟨e6, h6.2⟩, ⟨e7, h7.2⟩, ⟨e8, h8.2⟩⟩, rfl⟩
theorem bks_set {w : World} {g o : Nat} {cs : Array Value} {y : Int} (hB : Box w g 64 cs) (hy : (Lit.int .i8 y).wf = true) : ∀ (bs : List Bk7), (∀ b ∈ bs, b.In w) → ∃ cs' : List Bk7, (∀ b ∈ cs', b.In (w.setCell ⟨g, o, none⟩ (.int .i8 y))) ∧ cs'.map Bk7.cells = bs.map Bk7.cells
  | [], _ => ⟨[], by simp, rfl⟩
  | b :: bs, h => by
    obtain ⟨b', h1, h2⟩ := bk_set (o := o) hB hy (h b (List.mem_cons.2 (.inl rfl)))
    obtain ⟨bs', h3, h4⟩ := bks_set (o := o) hB hy bs (fun c hc => h c (List.mem_cons.2 (.inr hc)))
    refine ⟨b' :: bs', fun c hc => ?_, by rw [List.map_cons, List.map_cons, h2, h4]⟩
    rcases List.mem_cons.1 hc with rfl | hc
    · exact h1
    · exact h3 c hc
theorem cells_getD {bs cs : List Bk7} (h : cs.map Bk7.cells = bs.map Bk7.cells) (i : Nat) : (cs.getD i default).cells = (bs.getD i default).cells := by
  have h1 := congrArg (fun l => l[i]?) h
  simp only [List.getElem?_map] at h1
  rw [List.getD_eq_getElem?_getD, List.getD_eq_getElem?_getD]
  cases e1 : cs[i]? with
  | none => cases e2 : bs[i]? with
    | none => rfl
    | some b => rw [e1, e2] at h1; cases h1
  | some c => cases e2 : bs[i]? with
    | none => rw [e1, e2] at h1; cases h1
    | some b => rw [e1, e2] at h1; exact Option.some.inj h1
theorem wt_set {w : World} {g o : Nat} {cs : Array Value} {y : Int} {W : Wt7} (hB : Box w g 64 cs) (hy : (Lit.int .i8 y).wf = true) (hW : W.In w) (hth : ThT 66 w W.ba) : ∃ W3 : Wt7, W3.In (w.setCell ⟨g, o, none⟩ (.int .i8 y)) ∧ Alike W W3 := by
  obtain ⟨h1, h2, h3, ⟨k1, k2, k3, k4⟩, h5⟩ := hW
  obtain ⟨y1, e1⟩ := elems8_set (o := o) hB hy h1.1
  obtain ⟨y2, e2⟩ := elems8_set (o := o) hB hy h2.1
  obtain ⟨y3, e3⟩ := elems8_set (o := o) hB hy h3.1
  obtain ⟨bs', b1, b2⟩ := bks_set (o := o) hB hy W.bs k3
  have hl : bs'.length = W.bs.length := by have := congrArg List.length b2; simpa using this
  refine ⟨⟨W.l, W.w, W.h, W.i, W.v, W.p, ⟨W.e.r, W.e.c, W.e.a, W.e.n, W.e.cap, y1⟩, W.ba, W.bn, W.bcap, bs', ⟨W.t.a, W.t.n, W.t.cap, y3⟩, ⟨W.hd.r, W.hd.c, W.hd.a, W.hd.n, W.hd.cap, y2⟩⟩, ⟨⟨e1, h1.2⟩, ⟨e2, h2.2⟩, ⟨e3, h3.2⟩, ⟨hl.trans k1, k2, b1, fun hn => ?_⟩, h5⟩, ⟨⟨rfl, rfl, rfl, rfl, rfl, rfl⟩, rfl, ⟨rfl, rfl⟩, ⟨rfl, rfl⟩, b2⟩⟩
  obtain ⟨gb, off, ha, hlt, hx⟩ := k4 hn
  obtain ⟨c, hc⟩ := hth _ ha
  have hne : gb ≠ g := box_ne8 hc hB (by decide)
  refine ⟨gb, off, ha, by simpa using hlt, fun i hi k hk => ?_⟩
  rw [cells_getD b2 i]
  exact (World.cell?_of_block (w := w) (a := ⟨gb, off + i * 20 + k, none⟩) (Below.heap_setCell w ⟨g, o, none⟩ _ gb hne)).trans (hx i hi k hk)
theorem WThaw.set {w : World} {g o : Nat} {cs : Array Value} {W : Wt7} (h : WThaw w W) (hB : Box w g 64 cs) (v : Value) : WThaw (w.setCell ⟨g, o, none⟩ v) W := by
  refine ⟨fun a ha x hx => ?_, h.2.but hB (by decide) (fun k hk hne => Below.heap_setCell w ⟨g, o, none⟩ v k hne)⟩
  obtain ⟨c, hc⟩ := h.1 a ha x hx
  by_cases e : x.block = g
  · subst e
    have := Box.set hc o v
    exact ⟨_, this⟩
  · exact ⟨c, hc.other v e⟩
/-- no Last: not whole -/
theorem noLast {s : Sz} (ok : s.Ok) {W : Wt7} (h : W.l = s.l ∧ W.w = s.w ∧ W.h = s.h ∧ W.i = s.i ∧ W.v = s.v ∧ W.p = s.p) : wholeB { W with t := ⟨none, 0, 0, []⟩ } = false := by
  rw [wholeB_ok (W := { W with t := ⟨none, 0, 0, []⟩ }) ok h]
  have hw1 : 0 < s.w := by have := ok.bd; omega
  cases e : wtB s { W with t := ⟨none, 0, 0, []⟩ } with
  | false => rfl
  | true =>
    have := (wtB_yes e).2.2.1
    simp only at this
    omega

set_option maxHeartbeats 2000000 in
set_option maxRecDepth 100000 in
theorem new_no (W : Wt7) (w : World) (hin : W.In w) (hw : wholeB W = false) :
    Calls Tryz.prog 18 #[.agg W.cells] w fun e w' => e = .returned (.tuple #[.pointer none, .int .i64 30]) ∧ Below w.heap.size w w' := by
  have HC : ∀ V T, Below w.heap.size w V → Calls Tryz.prog 41 #[.slice (some ⟨V.heap.size, 0, none⟩) 1 1] (V.alloc (.cells W.cells T)) fun e w' => e = .returned (.bool false) ∧ Below V.heap.size V w' := fun V T hV => by
    have h := code_whole V.heap.size 1 1 [W] _ (wts_one (T := T) W (hin.bel hV))
    simp only [List.all_cons, List.all_nil, hw, Bool.false_and] at h
    exact h.mono fun e w' ⟨h1, h2⟩ => ⟨h1, ((Below.refl _ _).alloc (Nat.le_refl _) _).trans (h2.mono (by simp))⟩
  clear hin hw
  unfold Wt7.cells at HC ⊢
  go_enter Tryz.func18, Tryz.ntmps18
  go_upto_region 1 with (fail)
  generalize hwa : w.alloc _ = wa
  have hB : Below w.heap.size w wa := by rw [← hwa]; exact (Below.refl _ _).alloc (Nat.le_refl _) _
  have XW : Box wa w.heap.size 50 W.cells := by rw [← hwa]; exact box_new _ _ _
  clear hwa
  have T1 := fun T => HC wa T hB
  have HB := Lib.hid hB
  unfold Wt7.cells at XW
  clear HC hB
  go_wp2_with (refine wpList_load_row rfl 50 _ rfl w.heap.size rfl 50 _ (0, 0) _ XW Tryz.underlying50 rfl (by kernel_rfl) ?_)
  refine (T1 _).mono ?_
  rintro e w1 ⟨rfl, hb⟩
  have HB1 := Lib.hid (below_two HB.out hb)
  clear T1 hb XW HB
  go_wp2
  go_ret2
  exact ⟨rfl, HB1.out⟩

end Go.Proofs.YtoeihigdndkjeaaGreatDoor

/-
  What ModelRefuses keeps; tokens brought to a vocabulary, in a new block.
-/
namespace Go.Proofs.YtoeihigdndkjeaaGreatDoor
open Go.RowKit Go.Shelf
set_option linter.unusedVariables false
attribute [local go_sem] Oper.semAt_some

set_option maxHeartbeats 4000000 in
set_option maxRecDepth 100000 in
theorem fitsF (q : Rw) (v : Nat) (hv : 0 < v) (hv2 : v ≤ 1000) (w : World) (hq : q.In .i64 w) (hn : q.n ≤ 1000) :
    Calls Tryz.prog 19 #[.slice q.a q.n q.cap, .int .i64 v] w fun e w' => (∃ t : Rw, e = .returned (.slice t.a t.n t.cap) ∧ t.In .i64 w' ∧ t.v = q.v.map (fitI v) ∧ t.n = q.n ∧ (q.n = 0 → t.a = none ∧ t.cap = 0) ∧ ∀ x, t.a = some x → w.heap.size ≤ x.block) ∧ Below w.heap.size w w' := by
  have HQ := Lib.hid hq
  have h1 := hq.2.1
  have h2 := hq.2.2.1
  clear hq
  go_enter Tryz.func19, Tryz.ntmps19
  go_wp2_with fail
  go_loopw [5, 6] (fun o i wr => ∃ (k : Nat), k ≤ q.n ∧ i = .int .i64 k ∧ Hid (wr.ownsRow w.heap.size 3 1 o k (((q.v.take k).map (fitI v)).map (.int .i64))) ∧ Hid (Below w.heap.size w wr) ∧ Hid (k = 0 → o = .slice none 0 0)) (fun _ i _ => q.n - (intOf i).toNat)
  case atStart => exact ⟨0, by omega, rfl, Lib.hid (own_nil _ _ _), Lib.hid (Below.refl _ _), Lib.hid (fun _ => rfl)⟩
  case round =>
    obtain ⟨k, hk, rfl, ho, hb, hz⟩ := hrel
    by_cases hlt : k < q.n
    · obtain ⟨bb, off, x, hqa, hc, HX, hw⟩ := (HQ.out.1.below hb.out).at_ hlt
      obtain ⟨t1, t2⟩ := tmod_bd v hv x
      have hfb := fitI_bd v hv x
      have hx64 := wf64 hw
      have nz : ¬ (v : Int) = 0 := by omega
      obtain ⟨v2, w2, hrun, ho2, hg2, _⟩ := run_append_lits (P := Tryz.prog) .i64 wr w.heap.size 35 3 8 (by omega) Tryz.underlying35 info_int _ k 1 _ [fitI v x] #[.int .i64 (fitI v x)] rfl rfl ho.out (by omega) (by omega) hb.out.size
      have HO : Hid (w2.ownsRow w.heap.size 3 1 v2 (k + 1) (((q.v.take (k + 1)).map (fitI v)).map (.int .i64))) := Lib.hid (by
        have e : q.v.take (k + 1) = q.v.take k ++ [x] := by
          have h9 : k < q.v.length := by rw [HQ.out.1.1]; exact hlt
          have h8 := HX.out
          rw [List.getD_eq_getElem?_getD, List.getElem?_eq_getElem h9] at h8
          simp only [Option.getD_some] at h8
          rw [List.take_add_one, List.getElem?_eq_getElem h9, h8]
          rfl
        rw [e, List.map_append, List.map_append]
        simpa using ho2)
      have HB2 := Lib.hid (hb.out.grown hg2 hb.out.size (fun j hj => (ho.out.lt j hj).1))
      unfold fitI at hrun
      rw [hqa]
      clear ho2 hg2 hfb hw hqa
      go_wp2_with (at_builtin; refine wpList_append_at (by rfl) _ _ _ (by rfl) _ _ (by rfl) (by rfl) hrun ?_)
      clear hrun
      go_roundw
      case rel => exact ⟨k + 1, by omega, by go_num, HO, HB2, Lib.hid (fun e => absurd e (by omega))⟩
      case measure => simp [intOf]; omega
    · obtain rfl : k = q.n := by omega
      obtain ⟨t, hto, hti, htv, htn, htb⟩ := own_rw ho.out (fun c hc => by
        obtain ⟨x, _, rfl⟩ := List.mem_map.1 hc
        have := fitI_bd v hv x
        obtain ⟨z, hz⟩ : ∃ z : Nat, fitI v x = z := ⟨(fitI v x).toNat, by omega⟩
        rw [hz]; exact wf_n (by omega)) (by omega)
      have HT := Lib.hid hti
      have HTV : Hid (t.v = q.v.map (fitI v)) := Lib.hid (by rw [htv, List.take_of_length_le (by rw [HQ.out.1.1]; exact Nat.le_refl _)])
      have HTN := Lib.hid htn
      have HTX := Lib.hid htb
      have HTB : Hid (q.n = 0 → t.a = none ∧ t.cap = 0) := Lib.hid fun e => by
        have h3 := hz.out e
        rw [hto] at h3
        simp only [Value.slice.injEq] at h3
        exact ⟨h3.1, h3.2.2⟩
      have HB9 := hb
      clear ho hb hti htv htn htb hz
      subst hto
      go_wp2
      go_ret
      exact ⟨⟨t, rfl, HT.out, HTV.out, HTN.out, HTB.out, HTX.out⟩, HB9.out⟩

theorem elems_one {k : IntKind} {w : World} {b o n : Nat} {xs : List Int} (h : Elems k w (some ⟨b, o, none⟩) n xs) {i : Nat} (hi : i < n) : Elems k w (some ⟨b, o + i, none⟩) 1 [xs.getD i 0] := by
  have h1 := (h.drop i (by omega)).take 1 (by omega)
  have e : (xs.drop i).take 1 = [xs.getD i 0] := by
    have hl : i < xs.length := by rw [h.1]; exact hi
    rw [List.getD_eq_getElem?_getD, List.getElem?_eq_getElem hl, List.drop_eq_getElem_cons hl]
    rfl
  rwa [e] at h1
section
variable {w w' : World} {s : Sz} {W V U : Wt7} {m r mb rr p : Nat} {fed : List Int} {lv lv' : Value} {K : KF8}
/-- other weights, where the code's run is fed; where the document's is -/
theorem wt_code (hU : U.In w) (hr : RunE w r m mb s V fed) (ha : Away w w' r mb) : U.In w' := by
  obtain ⟨N, h1, _⟩ := hr
  obtain ⟨D, hO, _⟩ := h1.run.map
  exact wt_of (fun a n xs hE => elems_away8 h1.run.box (no8_of (by simp)) hO ha hE) hU ha.size fun g off hga hn => ha.block g (wt_lt hU hga hn) ((wt_ne hU hga hn).2 _ _ _ h1.run.box (show 3 ≤ 19 by omega)) (wt_own hU hO hga hn)
theorem wt_docS (hU : U.In w) (hd : DocS w rr lv s W p K) (h' : Box w' rr 53 (dcells W lv')) (ha : AwayO w w' rr lv.ownBlock) : U.In w' := by
  obtain ⟨ps, hl⟩ := hd.l
  have hs := hd.stays h' ha
  exact wt_of (fun a n xs hE => hs.elems hE) hU ha.size fun g off hga hn => ha.block g (wt_lt hU hga hn) ((wt_ne hU hga hn).2 _ _ _ hd.box (show 15 ≤ 19 by omega)) (fun e => (wt_ne hU hga hn).1 _ _ (hl.sl g e.symm) rfl)
theorem box_docS {g : Nat} {T : TypeId} {cs : Array Value} (hB : Box w g T cs) (n1 : T ≠ 53) (n2 : T ≠ 56) (hd : DocS w rr lv s W p K) (ha : AwayO w w' rr lv.ownBlock) : Box w' g T cs := by
  obtain ⟨ps, hl⟩ := hd.l
  exact (ha.block g hB.lt (box_ne8 hB hd.box n1) (fun e => IsT.ne (g := g) ⟨_, _, hB⟩ (hl.sl g e.symm).isT n2 rfl)).trans hB
end
/-- both runs, the tokens, and the weights that were turned -/
structure RefS (w0 w : World) (r m mb rr : Nat) (lv : Value) (s : Sz) (W2 V W : Wt7) (fc fd : List Int) (ta : Option Addr) (tn tcap : Nat) (tv : List Int) (n7 : Nat) : Prop where
  pair : PairS w0 w r m mb rr lv s W2 V fc fd
  toks : Rw.In .i64 w ⟨ta, tn, tcap, tv⟩
  away : ∀ b o, ta = some ⟨b, o, none⟩ → b ≠ r ∧ b ≠ mb ∧ b ≠ rr
  box : Box w n7 50 W.cells
  wt : ∃ W3 : Wt7, W3.In w ∧ Alike W W3
section
variable {w0 w w' : World} {s : Sz} {W W2 V : Wt7} {m r mb rr n7 tn tcap : Nat} {fc fc' fd fd' tv : List Int} {lv lv' : Value} {ta : Option Addr}
theorem RefS.below (h : RefS w0 w r m mb rr lv s W2 V W fc fd ta tn tcap tv n7) (hb : Below w.heap.size w w') : RefS w0 w' r m mb rr lv s W2 V W fc fd ta tn tcap tv n7 :=
  ⟨h.pair.below hb, h.toks.below hb, h.away, h.box.bel hb, let ⟨W3, h1, h2⟩ := h.wt; ⟨W3, h1.bel hb, h2⟩⟩
theorem RefS.code (h : RefS w0 w r m mb rr lv s W2 V W fc fd ta tn tcap tv n7) (ha : Away w w' r mb) (hr : RunE w' r m mb s V fc') : RefS w0 w' r m mb rr lv s W2 V W fc' fd ta tn tcap tv n7 :=
  ⟨h.pair.code ha hr, ⟨ha.elems h.toks.1 (fun b o e => ⟨(h.away b o e).1, (h.away b o e).2.1⟩), h.toks.2⟩, h.away, (h.pair.run.isT ha ⟨_, _, h.box⟩ (by decide)).trans h.box, let ⟨W3, h1, h2⟩ := h.wt; ⟨W3, wt_code h1 h.pair.run ha, h2⟩⟩
theorem RefS.docS (h : RefS w0 w r m mb rr lv s W2 V W fc fd ta tn tcap tv n7) (ha : AwayO w w' rr lv.ownBlock) (hd : DocS w' rr lv' s W2 fd'.length (runO (W2.nums s) st09 (fd'.map Int.toNat)).K) (hl : lv'.ownBlock = lv.ownBlock ∨ ∃ b, lv'.ownBlock = some b ∧ w.heap.size ≤ b) : RefS w0 w' r m mb rr lv' s W2 V W fc fd' ta tn tcap tv n7 :=
  ⟨h.pair.docS ha hd hl, (h.pair.doc.stays hd.box ha).rw_ h.toks, h.away, box_docS h.box (by decide) (by decide) h.pair.doc ha, let ⟨W3, h1, h2⟩ := h.wt; ⟨W3, wt_docS h1 h.pair.doc hd.box ha, h2⟩⟩
end
theorem elems32_away {w w' : World} {s : Sz} {V : Wt7} {m r mb n : Nat} {fed xs : List Int} {a : Option Addr} (h4 : Elems .i32 w a n xs) (hr : RunE w r m mb s V fed) (ha : Away w w' r mb) : Elems .i32 w' a n xs := by
  obtain ⟨N, h5, _⟩ := hr
  obtain ⟨D, hO, _⟩ := h5.run.map
  refine ⟨h4.1, h4.2.1, h4.2.2.1, fun hn => ?_⟩
  obtain ⟨b, off, hb, hc⟩ := h4.2.2.2 hn
  refine ⟨b, off, hb, fun i hi => ha.cell (hc i hi) ?_ ?_⟩
  · intro e
    simp only at e
    subst e
    have := hc i hi
    rw [h5.run.box.cell] at this
    have h9 : ∀ (o : Nat) (y : Int), (#[Value.pointer (some ⟨m, 0, none⟩), .int .i64 (fed.length : Nat), .map (some mb)] : Array Value)[o]? ≠ some (.int .i32 y) := by
      intro o y
      match o with
      | 0 => simp
      | 1 => simp
      | 2 => simp
      | o + 3 => simp
    exact h9 _ _ this
  · intro e
    simp only at e
    subst e
    have := hc i hi
    rw [hO.cell] at this
    cases this
theorem AnsR.code {w w' : World} {s : Sz} {V : Wt7} {m r mb : Nat} {fed ys : List Int} {v : Value} (h : AnsR w ys v) (hr : RunE w r m mb s V fed) (ha : Away w w' r mb) : AnsR w' ys v := let ⟨a, c, h1, h2⟩ := h; ⟨a, c, h1, elems32_away h2 hr ha⟩
theorem fault_two {s : Sz} {p : Nat} {x y : Int} (h : oddO s y = true) : faultO s p [x, y] = 2 := by
  unfold faultO
  rw [if_pos (by simp [h])]
theorem fault_one {s : Sz} {p : Nat} {t : Int} (h : 0 ≤ t ∧ t < s.v) : faultO s p [t] = if s.p < p + 1 then 80 else 0 := fault_full (by have := oddO_no.2 h; simp [this])

end Go.Proofs.YtoeihigdndkjeaaGreatDoor
