import Derived.Test.YtoeihigdndkjeaaGreatDoorJ11
import Derived.Test.YtoeihigdndkjeaaGreatDoorJ13
import Derived.Test.YtoeihigdndkjeaaGreatDoorJ04
import Derived.RangeFuncNested
import Derived.RangeFuncBound
import Derived.RangeFuncCalls
import Derived.RangeFuncLeaves
import Derived.RangeFuncBox
import Derived.Shelf.Abstract
import Derived.Shelf.RegionOpen
import Derived.OwnWalkIn
import Derived.TacticsInMore
import Derived.LoopNIn
import Derived.LoopIn
import Derived.Deep.CutRange
import Derived.Maps.AppendAt
import Derived.Sort.CutIn
import Derived.Maps.OwnSet
import Derived.Maps.Views
import Derived.DeepKeys4
import Derived.ProofKit
import Derived.Deep.RegionHeld3
/-
  A model as it stands in memory; its Shape; a token's row, at first.
-/
namespace Go.Proofs.YtoeihigdndkjeaaGreatDoor
open Go.RowKit
set_option linter.unusedVariables false

/-- a model in block m: right weights W of the shape s -/
structure ModAt (w : World) (m : Nat) (s : Sz) (W : Wt7) : Prop where
  box : Box w m 94 W.cells
  inn : W.In w
  l : W.l = s.l
  w : W.w = s.w
  h : W.h = s.h
  i : W.i = s.i
  v : W.v = s.v
  p : W.p = s.p
  whole : wtB s W = true
theorem ModAt.bel {w w' : World} {m : Nat} {s : Sz} {W : Wt7} (h : ModAt w m s W) (hb : Below w.heap.size w w') : ModAt w' m s W :=
  ⟨h.box.bel hb, h.inn.bel hb, h.l, h.w, h.h, h.i, h.v, h.p, h.whole⟩
theorem matB_iff {r c : Nat} {g : Gr} (h : matB r c g = true) : matB8 r c g := by
  unfold matB at h
  simp only [Bool.and_eq_true, decide_eq_true_eq] at h
  exact ⟨h.1, h.2.1, h.2.2⟩
theorem wtB_yes {s : Sz} {W : Wt7} (h : wtB s W = true) : matB8 s.v s.w W.e ∧ matB8 s.v s.w W.hd ∧ W.t.n = s.w ∧ W.bn = s.l ∧ ∀ b ∈ W.bs, bkB s b = true := by
  unfold wtB at h
  simp only [List.all_cons, List.all_nil, Bool.and_true, Bool.and_eq_true, decide_eq_true_eq, List.all_eq_true] at h
  obtain ⟨⟨h1, h2⟩, h3, h4, h5⟩ := h
  exact ⟨matB_iff h1, matB_iff h2, h3, h4, h5⟩
theorem bkB_yes {s : Sz} {b : Bk7} (h : bkB s b = true) : b.x.n = s.w ∧ b.y.n = s.w ∧ matB8 s.w s.w b.q ∧ matB8 s.w s.w b.k ∧ matB8 s.w s.w b.v ∧ matB8 s.w s.w b.o ∧ matB8 s.i s.w b.u ∧ matB8 s.w s.i b.d := by
  unfold bkB at h
  simp only [List.all_cons, List.all_nil, Bool.and_true, Bool.and_eq_true, decide_eq_true_eq] at h
  obtain ⟨h1, h2, ⟨h3, h4, h5, h6⟩, h7, h8⟩ := h
  exact ⟨h1, h2, matB_iff h3, matB_iff h4, matB_iff h5, matB_iff h6, matB_iff h7, matB_iff h8⟩
/-- a block's numbers, weights' numbers -/
def Bk7.blk (b : Bk7) : Blk8 := ⟨b.x.v, b.q.v, b.k.v, b.v.v, b.o.v, b.y.v, b.u.v, b.d.v⟩
def Wt7.nums (s : Sz) (W : Wt7) : Wn8 := ⟨s, W.e.v, W.bs.map Bk7.blk, W.t.v, W.hd.v⟩
def scells (s : Sz) : Array Value := #[.int .i64 s.l, .int .i64 s.w, .int .i64 s.h, .int .i64 s.i, .int .i64 s.v, .int .i64 s.p]
theorem ModAt.six {w : World} {m : Nat} {s : Sz} {W : Wt7} (h : ModAt w m s W) : ∀ k, k < (scells s).size → w.cell? ⟨m, 0 + k, none⟩ = (scells s)[k]? := by
  have hc := h.box.cell
  have e0 := h.l; have e1 := h.w; have e2 := h.h; have e3 := h.i; have e4 := h.v; have e5 := h.p
  intro k hk
  have hk : k < 6 := hk
  rw [Nat.zero_add, hc]
  match k, hk with
  | 0, _ => simp [Wt7.cells, scells, e0]
  | 1, _ => simp [Wt7.cells, scells, e1]
  | 2, _ => simp [Wt7.cells, scells, e2]
  | 3, _ => simp [Wt7.cells, scells, e3]
  | 4, _ => simp [Wt7.cells, scells, e4]
  | 5, _ => simp [Wt7.cells, scells, e5]
theorem scells_one (s : Sz) : (scells s).all (·.oneCell') = true := by simp [scells, Value.oneCell']
theorem cells_alloc {w : World} {m n : Nat} {cs : Array Value} (h : ∀ k, k < cs.size → w.cell? ⟨m, n + k, none⟩ = cs[k]?) (o : Obj) : ∀ k, k < cs.size → (w.alloc o).cell? ⟨m, n + k, none⟩ = cs[k]? := by
  intro k hk
  have h1 := h k hk
  rw [Array.getElem?_eq_getElem hk] at h1 ⊢
  exact (((Below.refl w.heap.size w).alloc (Nat.le_refl _) o).cell (p := ⟨m, n + k, none⟩) (World.block_lt_of_cell? _ _ h1)).trans h1

theorem shape8 (m : Nat) (s : Sz) (W : Wt7) (w : World) (h : ModAt w m s W) :
    Calls Tryz.prog 20 #[.pointer (some ⟨m, 0, none⟩)] w fun e w' => e = .returned s.val ∧ Below w.heap.size w w' := by
  have h6 := h.six
  go_enter Tryz.func20, Tryz.ntmps20
  go_upto_region 1 with (fail)
  generalize hwa : w.alloc _ = wa
  have X : Box wa w.heap.size 45 #[.int .i64 0, .int .i64 0, .int .i64 0, .int .i64 0, .int .i64 0, .int .i64 0] := by rw [← hwa]; exact box_new _ _ _
  have hB : Below w.heap.size w wa := by rw [← hwa]; exact (Below.refl _ _).alloc (Nat.le_refl _) _
  have h6a : ∀ k, k < (scells s).size → wa.cell? ⟨m, 0 + k, none⟩ = (scells s)[k]? := by rw [← hwa]; exact cells_alloc h6 _
  have X4 := Lib.hid (X.setRow (cs' := scells s))
  have HB := Lib.hid (below_setRow (cs := scells s) hB (Nat.le_refl _) hB.size)
  have H6 := Lib.hid h6a
  clear hwa h h6 h6a hB
  go_wp2_with (first
    | (refine wpList_load_part rfl 45 _ rfl m 0 rfl (scells s) _ H6.out Tryz.underlying45 rfl (by kernel_rfl) ?_)
    | (refine wpList_store_row rfl 45 _ _ rfl w.heap.size (scells s) rfl rfl 45 _ X (by kernel_rfl) rfl (scells_one s) ?_))
  exact bodyPost_ret (v := s.val) (results_row rfl rfl X4.out Tryz.underlying45 rfl (by kernel_rfl)) rfl ⟨rfl, HB.out⟩

end Go.Proofs.YtoeihigdndkjeaaGreatDoor

/-
  Heads of a row: the function over which the loops range.
-/
namespace Go.Proofs.YtoeihigdndkjeaaGreatDoor
open Go.RowKit Go.Shelf
set_option linter.unusedVariables false

theorem heads8 (m : Nat) (s : Sz) (ok : s.Ok) (W : Wt7) (hw : Nat) (hhw : Hid (s.w / s.h = hw)) (w : World) (h : ModAt w m s W) :
    Calls Tryz.prog 87 #[.pointer (some ⟨m, 0, none⟩)] w fun e w' => (∃ b c, e = .returned (.func (.func 110) #[] #[.pointer (some ⟨b, 0, none⟩), .pointer (some ⟨c, 0, none⟩)]) ∧ w.heap.size ≤ b ∧ w.heap.size ≤ c ∧ Box w' b 45 (scells s) ∧ Box w' c 3 #[.int .i64 hw]) ∧ Below w.heap.size w w' := by
  have hs := shape8 m s W w h
  have hb := ok.bd
  have hdiv : (s.w : Int) / (s.h : Int) = (hw : Int) := by rw [← hhw.out]; push_cast; rfl
  have e1 : (s.w : Int).tdiv (s.h : Int) = (hw : Int) := by rw [Int.tdiv_eq_ediv_of_nonneg (by omega)]; exact hdiv
  have hne : ((s.h : Int) == 0) = false := by simp; omega
  have hle : hw ≤ 128 := by rw [← hhw.out]; exact Nat.le_trans (Nat.div_le_self _ _) hb.2.2.1.2
  obtain ⟨l, W0, H, I, V, P⟩ := s
  simp only [scells] at *
  unfold Sz.val at hs
  simp only at hs
  have h0 : 1 ≤ H := hb.2.1.1
  have h1 : W0 ≤ 128 := hb.2.2.1.2
  clear h hhw ok hb
  go_enter Tryz.func87, Tryz.ntmps87
  go_wp2_with fail
  refine hs.mono ?_
  rintro e wa ⟨rfl, hba⟩
  have hsz := hba.size
  clear hs
  go_wp2
  go_ret
  refine ⟨⟨wa.heap.size, wa.heap.size + 1, rfl, hsz, by omega, ?_, ?_⟩, ?_⟩
  · exact ((box_new wa _ _).alloc _)
  · exact box_at (by simp) _ _
  · exact (hba.alloc hsz _).alloc (by simp; omega) _

/-- from where to where a head stands -/
abbrev Hd8 (w hw : Nat) := {p : Nat × Nat // p.2 = p.1 + hw ∧ p.2 ≤ w}
def encH {w hw : Nat} (x : Hd8 w hw) : Array Value := #[.int .i64 (x.1.1 : Nat), .int .i64 (x.1.2 : Nat)]
def allH (H hw : Nat) : List (Nat × Nat) := (List.range H).map fun h => (h * hw, h * hw + hw)
theorem allH_snoc (k hw : Nat) : allH (k + 1) hw = allH k hw ++ [(k * hw, k * hw + hw)] := by unfold allH; rw [List.range_succ, List.map_append]; rfl

set_option maxRecDepth 100000 in
set_option maxHeartbeats 1000000 in
theorem heads1_in (F : Fence) (n : Nat) (hF : F.fn 110) (hro : F.round = none) (hn : 1 ≤ n) (l b c : Nat) (s : Sz) (ok : s.Ok) (hw : Nat) (hhw : Hid (s.h * hw = s.w)) (J Jx : List (Hd8 s.w hw) → World → Prop)
    (hY : ∀ pre x W, J pre W → pre.length < s.h → YieldAt F (n - 1) Tryz.prog l (encH x) W fun e W' =>
      (e = .returned (.bool true) ∧ J (pre ++ [x]) W' ∧ W'.heap[c]? = W.heap[c]?) ∨ (e = .returned (.bool false) ∧ Jx (pre ++ [x]) W'))
    (W : World) (hb : Box W b 45 (scells s)) (hc : Box W c 3 #[.int .i64 hw]) (h0 : J [] W) :
    CallsIn F n Tryz.prog 110 #[.func (.yield l) #[] #[], .pointer (some ⟨b, 0, none⟩), .pointer (some ⟨c, 0, none⟩)] W fun e W' => (∃ v, e = .returned v) ∧
      ((∃ ys : List (Hd8 s.w hw), ys.map (·.1) = allH s.h hw ∧ J ys W') ∨ (∃ pre : List (Hd8 s.w hw), True ∧ Jx pre W')) := by
  have bd := ok.bd
  obtain ⟨H, hH⟩ : ∃ H, s.h = H := ⟨_, rfl⟩
  have hb2 : W.cell? ⟨b, 2, none⟩ = some (.int .i64 H) := by rw [hb.cell, ← hH]; rfl
  have HC := Lib.hid hc
  have HH : Hid (s.h = H) := Lib.hid hH
  have h16 : H ≤ 16 := by omega
  have hw128 : s.w ≤ 128 := bd.2.2.1.2
  have hhw1 : 1 ≤ H := by omega
  have hwle : hw ≤ 128 := by
    have := hhw.out; rw [hH] at this
    have h2 : 1 * hw ≤ H * hw := Nat.mul_le_mul_right _ hhw1
    omega
  have HJ0 : Hid (J [] W) := Lib.hid h0
  have HY := Lib.hid hY
  clear hH hb bd ok h0 hY hc hhw1
  refine callsIn_of_wp Tryz.func110 rfl hF ?_ hro
  simp only [Tryz.ntmps110, List.size_toArray, List.length_cons, List.length_nil, Nat.reduceAdd, Nat.reduceSub, Array.replicate_succ, Array.replicate_zero, List.push_toArray, List.append_toArray, List.nil_append, List.cons_append]
  gi_wp2
  gi_loopw [7] (fun i wr => ∃ (k : Nat) (pre : List (Hd8 s.w hw)), k ≤ H ∧ i = .int .i64 k ∧ Hid (pre.map (·.1) = allH k hw) ∧ Hid (Box wr c 3 #[.int .i64 hw]) ∧ Hid (J pre wr)) (fun i _ => H - (intOf i).toNat)
  case atStart => exact ⟨0, [], by omega, rfl, Lib.hid rfl, HC, HJ0⟩
  case round =>
    obtain ⟨k, pre, hk, rfl, hpre, hbel, hJ⟩ := hrel
    have hcr : wr.cell? ⟨c, 0, none⟩ = some (.int .i64 hw) := hbel.out.cell 0
    by_cases hlt : k < H
    · have hle : k * hw + hw ≤ s.w := by
        have h1 : (k + 1) * hw ≤ H * hw := Nat.mul_le_mul_right _ hlt
        have h2 := hhw.out
        rw [HH.out] at h2
        rw [Nat.succ_mul] at h1; omega
      have hlen : pre.length < s.h := by
        have := congrArg List.length hpre.out
        simp [allH] at this
        rw [HH.out]; omega
      obtain ⟨lo, hlo⟩ : ∃ lo, k * hw = lo := ⟨_, rfl⟩
      obtain ⟨hi, hhi⟩ : ∃ hi, lo + hw = hi := ⟨_, rfl⟩
      rw [hlo, hhi] at hle
      obtain ⟨x, hx⟩ : ∃ x : Hd8 s.w hw, x.1 = (lo, hi) := ⟨⟨(lo, hi), hhi.symm, hle⟩, rfl⟩
      have hsn : Hid ((pre ++ [x]).map (·.1) = allH (k + 1) hw) := Lib.hid (by rw [List.map_append, hpre.out, allH_snoc, hlo, hhi, ← hx]; rfl)
      obtain ⟨fn, tmps, assign, body, hy, hR⟩ := HY.out pre x wr hJ.out hlen
      have ex : encH x = #[.int .i64 (lo : Nat), .int .i64 (hi : Nat)] := by unfold encH; rw [hx]
      rw [ex] at hy
      clear ex
      have e1 : (k : Int) * (hw : Int) = (lo : Int) := by rw [← hlo]; push_cast; rfl
      have e2 : ((k : Int) + 1) * (hw : Int) = (hi : Int) := by rw [Int.add_mul, e1, Int.one_mul, ← hhi]; push_cast; rfl
      have l1 : lo ≤ 128 := by omega
      have l2 : hi ≤ 128 := by omega
      clear hlo hhi hJ hpre hlen hx
      gi_wp2
      refine hR.mono ?_
      rintro e W3 (⟨rfl, hJ3, hk3⟩ | ⟨rfl, hJx3⟩)
      · have HJ3 := Lib.hid hJ3
        have HC3 : Hid (Box W3 c 3 #[.int .i64 hw]) := Lib.hid (hk3.trans hbel.out)
        clear hJ3 hk3
        gi_wp2
        go_roundw
        case rel => exact ⟨k + 1, _, by omega, by go_num, hsn, HC3, HJ3⟩
        case measure => simp [intOf]; omega
      · gi_wp2
        refine bodyPost_ret (results_none rfl _ _ _) rfl ?_
        exact ⟨⟨_, rfl⟩, .inr ⟨_, trivial, hJx3⟩⟩
    · obtain rfl : k = H := by omega
      gi_wp2
      go_end0
      exact ⟨⟨_, rfl⟩, .inl ⟨pre, by rw [hpre.out, HH.out], hJ.out⟩⟩

theorem heads_stops (F : Fence) (n : Nat) (hF : F.fn 110) (hro : F.round = none) (hn : 1 ≤ n) (b c : Nat) (s : Sz) (ok : s.Ok) (hw : Nat) (hhw : Hid (s.h * hw = s.w)) (w : World) (hb : Box w b 45 (scells s)) (hc : Box w c 3 #[.int .i64 hw]) :
    SeqStopsK F n Tryz.prog 110 #[.pointer (some ⟨b, 0, none⟩), .pointer (some ⟨c, 0, none⟩)] (encH (w := s.w) (hw := hw)) (fun W W' => W'.heap[c]? = W.heap[c]?) (fun ys => ys.map (·.1) = allH s.h hw) (fun _ => True) s.h w := fun l J Jx W hW _ _ hY h0 =>
  heads1_in F n hF hro hn l b c s ok hw hhw J Jx hY W (hb.bel hW) (hc.bel hW) h0

end Go.Proofs.YtoeihigdndkjeaaGreatDoor

/-
  All heads of a row, turned.
-/
namespace Go.Proofs.YtoeihigdndkjeaaGreatDoor
open Go.RowKit Go.Shelf
set_option linter.unusedVariables false
attribute [local go_sem] Oper.semAt_some

/-- a stretch that leaves all but one block alone goes on by what leaves alone all that lay there -/
theorem grown_more {w W W' : World} {q : Option Nat} {row : Option Nat} (h : w.grownBy W q) (hg : W.grownBy W' row) (hr : ∀ r, row = some r → w.heap.size ≤ r) : w.grownBy W' q :=
  ⟨hg.os.trans h.os, hg.tape.trans h.tape, hg.output.trans h.output, Nat.le_trans h.size hg.size, fun k hk hne => (hg.block k (Nat.lt_of_lt_of_le hk h.size) (fun e => by have := hr k e.symm; omega)).trans (h.block k hk hne)⟩
theorem grown_bel {w W W' : World} {q : Option Nat} (h : w.grownBy W q) (hb : Below W.heap.size W W') : w.grownBy W' q :=
  ⟨hb.os.trans h.os, hb.tape.trans h.tape, hb.output.trans h.output, Nat.le_trans h.size hb.size, fun k hk hne => (hb.block k (Nat.lt_of_lt_of_le hk h.size)).trans (h.block k hk hne)⟩
theorem grown_set {w W : World} {q o : Nat} (h : w.grownBy W (some q)) (v : Value) : w.grownBy (W.setCell ⟨q, o, none⟩ v) (some q) :=
  ⟨h.os, h.tape, h.output, by have := h.size; simpa using this, fun k hk hne => (Below.heap_setCell W ⟨q, o, none⟩ v k (fun e => hne (by simp at e; rw [e]))).trans (h.block k hk hne)⟩
theorem ownFrom_grown {β : Type} {w : World} {q : Option Nat} : OwnFrom w.heap.size (fun (_ : β) W => w.grownBy W q) := fun _ _ _ _ hs hg hr => grown_more hs hg (fun r e => (hr r e).1)
theorem keeps_bel {W W' : World} (hb : Below W.heap.size W W') : KeepsOthers W W' := ⟨hb.size, fun k o hk _ => (hb.block k (Array.getElem?_eq_some_iff.1 hk).1).trans hk⟩

/-- what a loop over heads keeps that gathers a row in the variable at block B -/
def HoldsI (w3 : World) (B : Nat) (ls : List Int) (W : World) : Prop := (∃ v, Boxed W B 24 v ∧ W.ownsRow w3.heap.size 64 1 v ls.length (ls.map (Value.int .i8))) ∧ w3.grownBy W (some B)
theorem holdsI_own {β : Type} (w3 : World) (B : Nat) (f : β → List Int) : OwnFrom w3.heap.size (fun s W => HoldsI w3 B (f s) W) := by
  rintro s W W' row ⟨⟨v, hv, hr0⟩, hG⟩ hg hr
  obtain ⟨v', h1, h2, _⟩ := (holdsRow_own (β := Unit) w3.heap.size B 24 64 1 (fun _ => (f s).length) (fun _ => (f s).map (Value.int .i8)) (fun _ _ => True)) () W W' row ⟨v, hv, hr0, trivial⟩ hg (fun r e => (hr r e).2)
  exact ⟨⟨v', h1, h2⟩, grown_more hG hg (fun r e => (hr r e).1)⟩
/-- the row goes on -/
theorem HoldsI.next {w3 : World} {B : Nat} {ls ms : List Int} {W W1 W2 : World} {v v' : Value} (hG : w3.grownBy W (some B)) (hv : Boxed W B 24 v) (hB3 : B < w3.heap.size) (hown : W.ownsRow w3.heap.size 64 1 v ls.length (ls.map (Value.int .i8))) (hb : Below W.heap.size W W1)
    (hown' : W2.ownsRow w3.heap.size 64 1 v' (ls.length + ms.length) ((ls ++ ms).map (Value.int .i8))) (hgrow : W1.grownBy W2 v.ownBlock) :
    HoldsI w3 B (ls ++ ms) (W2.setCell ⟨B, 0, none⟩ v') ∧ KeepsOthers W (W2.setCell ⟨B, 0, none⟩ v') ∧ (∀ c, c ≠ B → c < w3.heap.size → (W2.setCell ⟨B, 0, none⟩ v').heap[c]? = W.heap[c]?) := by
  have hlt : ∀ k, v.ownBlock = some k → w3.heap.size ≤ k := fun k hk => (hown.lt k hk).1
  have hne : some B ≠ v.ownBlock := fun e => by have := hlt B e.symm; omega
  have hv2 : Boxed W2 B 24 v := (hgrow.block B (Nat.lt_of_lt_of_le hv.lt hb.size) hne).trans ((hb.block B hv.lt).trans hv)
  refine ⟨⟨⟨v', hv2.set v', ?_⟩, grown_set (grown_more (grown_bel hG hb) hgrow hlt) v'⟩, ?_, fun c hc hc3 => ?_⟩
  · rw [List.length_append]
    exact hown'.kept (grownBy_setCell' W2 B v') (by
      rcases hown'.2 with ⟨rfl, _⟩ | ⟨g, cap, cur, rfl, hg, _⟩
      · exact .inl rfl
      · exact .inr (by simp [Value.ownBlock]; omega))
  · refine ((keeps_bel hb).trans (KeepsOthers.of_grownBy hgrow fun j o ej hj => ?_)).trans (KeepsOthers.setCell _ _ _)
    rcases hown.2 with ⟨rfl, _⟩ | ⟨g, cap, cur, rfl, _, hgb, _⟩
    · simp [Value.ownBlock] at ej
    · obtain rfl : g = j := by simpa [Value.ownBlock] using ej
      have hgW := (Array.getElem?_eq_some_iff.1 hgb).1
      rw [hb.block g hgW, hgb] at hj; cases hj; rfl
  · have hcW : c < W.heap.size := Nat.lt_of_lt_of_le hc3 hG.size
    rw [Below.heap_setCell _ ⟨B, 0, none⟩ _ _ (by simpa using hc), hgrow.block c (Nat.lt_of_lt_of_le hcW hb.size) (fun e => by have := hlt c e.symm; omega), hb.block c hcW]

theorem own_some {w : World} {base : Nat} {e : TypeId} {size : Nat} {v : Value} {n : Nat} {xs : List Value} (h : w.ownsRow base e size v n xs) (h0 : 0 < n) : ∃ g cap, v = .slice (some ⟨g, 0, none⟩) n cap := by
  rcases h.2 with ⟨_, h1⟩ | ⟨g, cap, cur, hv, _⟩
  · omega
  · exact ⟨g, cap, hv⟩
theorem flatL_len {α : Type} (f : α → List Int) (m : Nat) (h : ∀ x, (f x).length = m) : ∀ l : List α, (l.flatMap f).length = l.length * m
  | [] => by simp
  | x :: l => by rw [List.flatMap_cons, List.length_append, h, flatL_len f m h l, List.length_cons, Nat.succ_mul]; omega

/-- the variable behind the append: it holds what it held, and may be written -/
theorem cell_own {w3 wa w1 : World} {B : Nat} {e : TypeId} {v : Value} {n : Nat} {xs : List Value} (hgrow : wa.grownBy w1 v.ownBlock) (hown : wa.ownsRow w3.heap.size e 1 v n xs) (hB : B < w3.heap.size) {T : TypeId} (hv : Boxed wa B T v) : w1.cell? ⟨B, 0, none⟩ = some v ∧ w1.frozen? ⟨B, 0, none⟩ = false := by
  have h : Boxed w1 B T v := (hgrow.block B hv.lt (fun e => by have := (hown.lt B e.symm).1; omega)).trans hv
  exact ⟨h.cell, h.frozen⟩

/-- a head's numbers -/
def headR (hw : Nat) (xs : List Int) (lo : Nat) : List Int := (xs.drop lo).take hw
theorem allH_flat (H hw : Nat) (f : Nat → List Int) (g : Nat × Nat → List Int) (h : ∀ k, g (k * hw, k * hw + hw) = f k) : (allH H hw).flatMap g = (List.range H).flatMap f := by
  unfold allH
  rw [List.flatMap_map]
  congr 1
  funext k
  exact h k
theorem cut_elems {k : IntKind} {w : World} {a : Option Addr} {n : Nat} {xs : List Int} (h : Elems k w a n xs) (lo hw : Nat) (hle : lo + hw ≤ n) : Elems k w (a.map (fun x => x.add lo)) hw ((xs.drop lo).take hw) := (h.cut lo (by omega)).take hw (by omega)

set_option maxRecDepth 100000 in
set_option maxHeartbeats 600000 in
theorem turned8 (m place : Nat) (hpl : place ≤ 100000) (s : Sz) (ok : s.Ok) (W : Wt7) (a : Option Addr) (cap : Nat) (xs : List Int) (w : World) (h : ModAt w m s W) (hx : Elems .i8 w a s.w xs) (hcap : s.w ≤ cap) (hcap2 : cap ≤ 9223372036854775807) (hT : STab w) :
    Calls Tryz.prog 85 #[.pointer (some ⟨m, 0, none⟩), .int .i64 place, .slice a s.w cap] w fun e w' => GivesS .i8 s.w (headsO s.h (s.w / s.h) place xs) e w' ∧ Below w.heap.size w w' := by
  obtain ⟨i0, hi, hz0, hz1, hz2⟩ := info_i8
  obtain ⟨q1, q2, q3, q4⟩ := sz_heads ok
  obtain ⟨hw, hhw⟩ : ∃ hw, s.w / s.h = hw := ⟨_, rfl⟩
  rw [hhw] at q1 q2 q3 q4 ⊢
  have bd := ok.bd
  have w0 : 2 ≤ s.w := bd.2.2.1.1
  have w1 : s.w ≤ 128 := bd.2.2.1.2
  have h16 : s.h ≤ 16 := bd.2.1.2
  have HW := Lib.hid hhw
  have HQ := Lib.hid q1
  obtain ⟨ab, off, rfl, hcell⟩ := hx.2.2.2 (by omega)
  have hablt := World.block_lt_of_cell? _ _ (hcell 0 (by omega))
  have B3 : ∀ o1 o2 o3, Below w.heap.size w (((w.alloc o1).alloc o2).alloc o3) := fun o1 o2 o3 => (((Below.refl _ _).alloc (Nat.le_refl _) o1).alloc (by simp) o2).alloc (by simp; omega) o3
  have hh := fun o1 o2 o3 => heads8 m s ok W hw HW (((w.alloc o1).alloc o2).alloc o3) (h.bel (B3 o1 o2 o3))
  have OK := Lib.hid ok
  have HX := Lib.hid hx
  clear hhw q1 ok bd hcell hx
  refine (callsIn_wide (n := 3)).1 ?_
  refine callsIn_of_wp_marks Tryz.func85 rfl trivial ?_ rfl
  simp only [Tryz.ntmps85, List.size_toArray, List.length_cons, List.length_nil, Nat.reduceAdd, Nat.reduceSub, Array.replicate_succ, Array.replicate_zero, List.push_toArray, List.append_toArray, List.nil_append, List.cons_append]
  gi_wp2_with (refine ⟨trivial, ?_⟩; gi_at_call 87; refine (callsIn_wide.2 (hh _ _ _)).mono ?_; rintro e w3 ⟨⟨b, c, rfl, hbl, hcl, hBb, hBc⟩, hB⟩)
  have hB0 : Below w.heap.size w w3 := (B3 _ _ _).trans (hB.mono (by simp; omega))
  have X4 : Boxed w3 w.heap.size 3 (.int .i64 place) := (((Boxed.new w 3 (.int .i64 place)).alloc (.cells #[.slice (some ⟨ab, off, none⟩) s.w cap] 24)).alloc (.cells #[.slice none 0 0] 24)).kept (row := none) ⟨hB.os, hB.tape, hB.output, hB.size, fun k hk _ => hB.block k hk⟩ (by simp)
  have X5 : Boxed w3 (w.heap.size + 1) 24 (.slice (some ⟨ab, off, none⟩) s.w cap) := by
    have := ((Boxed.new (w.alloc (.cells #[.int .i64 place] 3)) 24 (.slice (some ⟨ab, off, none⟩) s.w cap)).alloc (.cells #[.slice none 0 0] 24))
    rw [World.size_alloc] at this
    exact (hB.block _ (by simp)).trans this
  have X7 : Boxed w3 (w.heap.size + 1 + 1) 24 (.slice none 0 0) := by
    have := Boxed.new ((w.alloc (.cells #[.int .i64 place] 3)).alloc (.cells #[.slice (some ⟨ab, off, none⟩) s.w cap] 24)) 24 (.slice none 0 0)
    rw [World.size_alloc, World.size_alloc] at this
    exact (hB.block _ (by simp)).trans this
  have hsz : w.heap.size + 3 ≤ w3.heap.size := by have := hB.size; simp at this; omega
  simp at hbl hcl
  have hclt := hBc.lt
  clear hB B3 hh
  refine wpIn_rangeFunc_ownG rfl (by omega) (gf := 110) (lb := #[.pointer (some ⟨b, 0, none⟩), .pointer (some ⟨c, 0, none⟩)]) rfl trivial (enters_of Tryz.func110 (by kernel_rfl) rfl)
    (heads_stops Fence.wide _ trivial rfl (by omega) b c s OK.out hw HQ w3 hBb hBc) (fun {A B C} h k => k.trans h) (fun W l o o' hl hlo ho _ => World.putObj_heap_other (by omega)) (Below.refl _ _) (fun _ => rfl)
    (fun (pre : List (Hd8 s.w hw)) W => HoldsI w3 (w.heap.size + 1 + 1) (pre.flatMap fun x => turnL place (headR hw xs x.1.1) hw) W)
    (fun _ _ _ => False)
    ?own
    (fun _ _ _ _ _ hs _ _ => hs)
    ⟨⟨_, X7, World.ownsRow_nil _ _ _ _⟩, grownBy_refl _ _⟩
    (fun (x : Hd8 s.w hw) => { tmps := #[.pointer (some ⟨m, 0, none⟩), .int .i64 place, .slice (some ⟨ab, off, none⟩) s.w cap, undef, .pointer (some ⟨w.heap.size, 0, none⟩), .pointer (some ⟨w.heap.size + 1, 0, none⟩), .slice none 0 0, .pointer (some ⟨w.heap.size + 1 + 1, 0, none⟩), .int .i64 (x.1.1 : Nat), .int .i64 (x.1.2 : Nat), undef, undef, .pointer (some ⟨m, 0, none⟩), .func (.func 110) #[] #[.pointer (some ⟨b, 0, none⟩), .pointer (some ⟨c, 0, none⟩)], .int .i64 (x.1.1 : Nat), .int .i64 (x.1.2 : Nat), undef, undef, undef, undef, undef, undef, undef, undef, undef, undef, undef, undef, undef], defers := [] }) ?assign ?body ?done ?stop
  case own =>
    have hO := holdsI_own w3 (w.heap.size + 1 + 1) (fun (pre : List (Hd8 s.w hw)) => pre.flatMap fun x => turnL place (headR hw xs x.1.1) hw)
    exact hO
  case assign =>
    intro l x W' K hK
    simp only [encH]
    gi_wp2
    exact hK
  case body =>
    rintro l pre x W' ⟨⟨v, hv, hrow⟩, hG⟩ hlt
    obtain ⟨hlh, hhi⟩ := x.2
    have HXX : Hid (turnL place (headR hw xs x.1.1) hw = turnL place (headR hw xs x.1.1) hw) := Lib.hid rfl
    obtain ⟨lo, hlo⟩ : ∃ lo, x.1.1 = lo := ⟨_, rfl⟩
    obtain ⟨hi', hhi'⟩ : ∃ q, x.1.2 = q := ⟨_, rfl⟩
    rw [hlo, hhi'] at hlh
    rw [hhi'] at hhi
    simp only [hlo, hhi']
    have HLO := Lib.hid hlo
    clear hlo hhi' HXX
    have Y4 : W'.cell? ⟨w.heap.size, 0, none⟩ = some (.int .i64 place) := by have : Boxed W' w.heap.size 3 (.int .i64 place) := (hG.block _ (by omega) (by simp; omega)).trans X4; exact this.cell
    have Y5 : W'.cell? ⟨w.heap.size + 1, 0, none⟩ = some (.slice (some ⟨ab, off, none⟩) s.w cap) := by have : Boxed W' (w.heap.size + 1) 24 (.slice (some ⟨ab, off, none⟩) s.w cap) := (hG.block _ (by omega) (by simp)).trans X5; exact this.cell
    have hBW : Below w.heap.size w W' := hB0.grown hG hB0.size (fun k e => by cases e; omega)
    have hE0 := cut_elems (HX.out.below hBW) lo hw (by omega)
    simp only [Option.map_some, add_plain'] at hE0
    have hTW := hT.below hBW
    have hlen : hi' - lo = hw := by omega
    rw [← hlen] at hE0
    have ht := turn_yes place (some ⟨ab, off + lo, none⟩) (hi' - lo) (cap - lo) ((xs.drop lo).take (hi' - lo)) W'.drew hE0 (by omega) (by omega) (by omega) (by omega) hTW
    have l1 : (lo : Int) ≤ (hi' : Int) := by omega
    have l2 : (hi' : Int) ≤ (cap : Int) := by omega
    have l0 : (0 : Int) ≤ (lo : Int) := by omega
    have hne : ¬ cap = lo := by omega
    have HLEN := Lib.hid hlen
    clear hE0 hTW hlen hlh
    gi_upto_region 5 with (fail)
    refine wpIn_region_round (S := (fun w' => w'.cell? ⟨w.heap.size, 0, none⟩ = some (.int .i64 place) ∧ w'.cell? ⟨w.heap.size + 1, 0, none⟩ = some (.slice (some ⟨ab, off, none⟩) s.w cap))) (by kernel_rfl) (by kernel_rfl) (fun a w h => h) ?_ (fun hHeld => ?_)
    · (first | exact ⟨Y4, Y5⟩ | exact ⟨Z4, Z5⟩)
    refine wpAnyH_take (i := 0) (oi := ⟨some 17, _, _, _, _, _⟩) (v := ?_) rfl (by kernel_rfl) (by kernel_rfl) (by kernel_rfl) (fun _ _ _ h => h) (Or.inl ⟨by rfl, ?hy1⟩) hHeld ?rest1
    case hy1 => (intro W hSw; (try dsimp only at hSw); go_simp; (try with_reducible rfl))
    simp only [Act.put, List.setIfInBounds_toArray, List.set_cons_zero, List.set_cons_succ]
    refine wpAnyH_take (i := 1) (oi := ⟨some 18, _, _, _, _, _⟩) (v := ?_) rfl (by kernel_rfl) (by kernel_rfl) (by kernel_rfl) (fun _ _ _ h => h) (Or.inl ⟨by rfl, ?hy2⟩) hHeld ?rest2
    case hy2 => (intro W hSw; (try dsimp only at hSw); go_simp; (try with_reducible rfl))
    simp only [Act.put, List.setIfInBounds_toArray, List.set_cons_zero, List.set_cons_succ]
    refine wpAnyH_take (i := 2) (oi := ⟨some 19, _, _, _, _, _⟩) (v := ?_) rfl (by kernel_rfl) (by kernel_rfl) (by kernel_rfl) (fun _ _ _ h => h) (Or.inl ⟨by rfl, ?hy3⟩) hHeld ?rest3
    case hy3 => (intro W hSw; (try dsimp only at hSw); go_simp; (try with_reducible rfl))
    simp only [Act.put, List.setIfInBounds_toArray, List.set_cons_zero, List.set_cons_succ]
    refine wpAnyH_take (i := 3) (oi := ⟨some 20, _, _, _, _, _⟩) (v := ?_) rfl (by kernel_rfl) (by kernel_rfl) (by kernel_rfl) (fun _ _ _ h => h) (Or.inl ⟨by rfl, ?hy4⟩) hHeld ?rest4
    case hy4 => (intro W hSw; (try dsimp only at hSw); go_simp; (try with_reducible rfl))
    simp only [Act.put, List.setIfInBounds_toArray, List.set_cons_zero, List.set_cons_succ]
    refine wpAnyH_take (i := 4) (oi := ⟨some 21, _, _, _, _, _⟩) (v := ?_) rfl (by kernel_rfl) (by kernel_rfl) (by kernel_rfl) (fun _ _ _ h => h) (Or.inl ⟨by rfl, ?hy5⟩) hHeld ?rest5
    case hy5 => (intro W hSw; (try dsimp only at hSw); go_simp; (try with_reducible rfl))
    simp only [Act.put, List.setIfInBounds_toArray, List.set_cons_zero, List.set_cons_succ]
    refine wpAnyH_ready (rs := [5]) (by kernel_rfl) (by simp) ?_
    refine AllReadyH.cons (o := ⟨some 22, _, _, _, _, _⟩) rfl (fun K hK => ?_) AllReadyH.nil
    go_simp
    (go_at_call 109; (with_reducible refine ht.mono ?_); rintro e wa ⟨⟨g, rfl, hEa⟩, hBa⟩)
    have Z4 := cell_kept6 hBa Y4
    have Z5 := cell_kept6 hBa Y5
    (try go_wp2_with fail)
    refine hK.out _ _ ?_ (fun hNew => ?_)
    · ((try dsimp only); (first | exact ⟨Y4, Y5⟩ | exact ⟨Z4, Z5⟩))
    clear hK K hHeld
    have hHeld := hNew
    clear hNew
    try simp only [Act.put, List.setIfInBounds_toArray, List.set_cons_zero, List.set_cons_succ]
    refine wpAnyH_take (i := 6) (oi := ⟨some 16, _, _, _, _, _⟩) (v := ?_) rfl (by kernel_rfl) (by kernel_rfl) (by kernel_rfl) (fun _ _ _ h => h) (Or.inl ⟨by rfl, ?hy7⟩) hHeld ?rest7
    case hy7 => (intro W hSw; (try dsimp only at hSw); go_simp; (try with_reducible rfl))
    simp only [Act.put, List.setIfInBounds_toArray, List.set_cons_zero, List.set_cons_succ]
    refine wpAnyH_take (i := 7) (oi := ⟨some 23, _, _, _, _, _⟩) (v := ?_) rfl (by kernel_rfl) (by kernel_rfl) (by kernel_rfl) (fun _ _ _ h => h) (Or.inl ⟨by rfl, ?hy8⟩) hHeld ?rest8
    case hy8 => (intro W hSw; (try dsimp only at hSw); go_simp; (try with_reducible rfl))
    simp only [Act.put, List.setIfInBounds_toArray, List.set_cons_zero, List.set_cons_succ]
    refine wpAnyH_take (i := 8) (oi := ⟨some 24, _, _, _, _, _⟩) (v := ?_) rfl (by kernel_rfl) (by kernel_rfl) (by kernel_rfl) (fun _ _ _ h => h) (Or.inl ⟨by rfl, ?hy9⟩) hHeld ?rest9
    case hy9 => (intro W hSw; (try dsimp only at hSw); go_simp; (try with_reducible rfl))
    simp only [Act.put, List.setIfInBounds_toArray, List.set_cons_zero, List.set_cons_succ]
    refine wpAnyH_take (i := 9) (oi := ⟨some 10, _, _, _, _, _⟩) (v := ?_) rfl (by kernel_rfl) (by kernel_rfl) (by kernel_rfl) (fun _ _ _ h => h) (Or.inl ⟨by rfl, ?hy10⟩) hHeld ?rest10
    case hy10 => (intro W hSw; (try dsimp only at hSw); go_simp; (try with_reducible rfl))
    simp only [Act.put, List.setIfInBounds_toArray, List.set_cons_zero, List.set_cons_succ]
    refine wpAnyH_take (i := 10) (oi := ⟨some 11, _, _, _, _, _⟩) (v := ?_) rfl (by kernel_rfl) (by kernel_rfl) (by kernel_rfl) (fun _ _ _ h => h) (Or.inl ⟨by rfl, ?hy11⟩) hHeld ?rest11
    case hy11 => (intro W hSw; (try dsimp only at hSw); go_simp; (try with_reducible rfl))
    simp only [Act.put, List.setIfInBounds_toArray, List.set_cons_zero, List.set_cons_succ]
    refine wpAnyH_done (by kernel_rfl) ?_ _
    have hBa' : Below W'.heap.size W' wa := ((Below.refl _ W').drew).trans hBa
    obtain ⟨ls, hls⟩ : ∃ ls, (pre.flatMap fun x => turnL place (headR hw xs x.1.1) hw) = ls := ⟨_, rfl⟩
    have hll : ls.length ≤ 16 * 128 := by
      rw [← hls, flatL_len _ hw (fun _ => turnL_length _ _ _)]
      exact Nat.mul_le_mul (by omega) (by omega)
    rw [hls] at hrow
    obtain ⟨ms, hms⟩ : ∃ ms, turnL place ((xs.drop lo).take (hi' - lo)) (hi' - lo) = ms := ⟨_, rfl⟩
    rw [hms] at hEa
    have hend : Hid ((pre ++ [x]).flatMap (fun x => turnL place (headR hw xs x.1.1) hw) = ls ++ ms) := Lib.hid (by
      rw [List.flatMap_append, hls, ← hms]
      simp only [List.flatMap_cons, List.flatMap_nil, List.append_nil]
      rw [HLO.out, HLEN.out]; rfl)
    have hrowA := own_below hrow hBa'
    have hvB : Boxed wa (w.heap.size + 1 + 1) 24 v := (hBa'.block _ hv.lt).trans hv
    have hvA := hvB.cell
    have hml := hEa.1
    have hpos : 0 < hi' - lo := by rw [HLEN.out]; omega
    have hle8 : hi' - lo ≤ 128 := by rw [HLEN.out]; omega
    have hb3 : w3.heap.size ≤ wa.heap.size := Nat.le_trans hG.size hBa'.size
    have hkp : ∀ w1 v1 v2, wa.grownBy w1 v.ownBlock → w1.ownsRow w3.heap.size 64 1 v1 (ls.length + ms.length) ((ls ++ ms).map (Value.int .i8)) → v2 = v1 → HoldsI w3 (w.heap.size + 1 + 1) (ls ++ ms) (w1.setCell ⟨w.heap.size + 1 + 1, 0, none⟩ v2) ∧ KeepsOthers W' (w1.setCell ⟨w.heap.size + 1 + 1, 0, none⟩ v2) ∧ (∀ c, c ≠ w.heap.size + 1 + 1 → c < w3.heap.size → (w1.setCell ⟨w.heap.size + 1 + 1, 0, none⟩ v2).heap[c]? = W'.heap[c]?) := fun w1 v1 v2 hg ho e => by subst e; exact HoldsI.next hG hv (by omega) hrow hBa' ho hg
    have HKP := Lib.hid hkp
    have HMS := Lib.hid hms
    have HLS := Lib.hid hls
    clear hkp hms hls hBa hBa' Y4 Y5 Z4 Z5 hrow ht hBW hB0 hhi HLO
    gi_wp2_with (gi_at_builtin; refine wpListIn_append_own _ rfl _ _ 24 rfl w3.heap.size 64 i0 (.int .i8 0) 1 1 Tryz.underlying24 hi hz0 hz1 hz2 rfl (by decide) _ _ _ rfl hrowA ⟨g, 0, none⟩ (hi' - lo) (hi' - lo) (ms.map (.int .i8)) rfl (by simp; exact hml) hEa.news (ints_one ms) (by unfold maxLen; omega) (by omega) hb3 ?_; intro v' w1 hown' hgrow _; obtain ⟨g', cap', rfl⟩ := own_some hown' (by omega); obtain ⟨hc1, hf1⟩ := cell_own hgrow hrowA (by omega) hvB)
    have K := HKP.out w1 _ _ hgrow (by rw [hml, List.map_append]; exact hown') rfl
    exact ⟨K.2.1.from _, K.2.2 c (by omega) hclt, by show HoldsI _ _ _ _; rw [hend.out]; exact K.1⟩
  case done =>
    rintro D ys W' hD hys ⟨⟨v, hv, hrow⟩, hG⟩ hK
    have hls : (ys.flatMap fun x => turnL place (headR hw xs x.1.1) hw) = headsO s.h hw place xs := by
      have e : (ys.flatMap fun x => turnL place (headR hw xs x.1.1) hw) = (ys.map (·.1)).flatMap fun p => turnL place (headR hw xs p.1) hw := by rw [List.flatMap_map]
      rw [e, hys]
      exact allH_flat s.h hw (fun k => turnL place (rowOf xs hw k) hw) _ (fun k => rfl)
    rw [hls] at hrow
    have hl := headsO_length s.h hw place xs
    rw [HQ.out] at hl
    rw [hl] at hrow
    obtain ⟨g, cap', rfl⟩ := own_some hrow (by omega)
    have hc := hv.cell
    have hB1 : Below w.heap.size w W' := hB0.grown hG hB0.size (fun k e => by cases e; omega)
    have HR := Lib.hid hrow
    clear hrow hys hls hl
    gi_wp2
    refine ⟨by simp, .inl ⟨_, _, rfl, run_takeDeferred hK, ?_⟩⟩
    have hro2 := ownsRow_putObj HR.out (.deferred none) hK rfl
    obtain ⟨a', c', hv', hE⟩ := own_form hro2 (by omega) (headsO_wf _ _ _ _)
    simp only [Value.slice.injEq, true_and] at hv'
    obtain ⟨e1, e2⟩ := hv'
    subst e1 e2
    have hcap' : s.w ≤ cap' ∧ cap' ≤ 9223372036854775807 := by
      rcases HR.out.2 with ⟨h1, _⟩ | ⟨g2, c2, cur, h1, _, _, h3, h4, _⟩
      · cases h1
      · simp only [Value.slice.injEq] at h1
        unfold maxLen at h4
        omega
    exact ⟨_, results_tmp rfl _ _ _, ⟨g, cap', rfl, hE, hcap'.1, hcap'.2⟩, hB1.trans (belowK_b (w := w3) hB0.size W' D _ _ hD hK rfl rfl)⟩
  case stop =>
    rintro D c' pre W' _ _ hf _
    exact hf.elim

end Go.Proofs.YtoeihigdndkjeaaGreatDoor

/-
  What is kept of places, as a slice; a head's answer.
-/
namespace Go.Proofs.YtoeihigdndkjeaaGreatDoor
open Go.RowKit
set_option linter.unusedVariables false

theorem info_sl8 : (Tryz.prog.info? 24).map (fun i => (i.zero, i.size, i.bytes)) = some (some (.slice none 0 0), 1, 24) := by kernel_rfl

/-- n places at a: of each its keys and its values -/
def KvsAt (w : World) (a : Option Addr) (n : Nat) (ks : List (Rw × Rw)) : Prop :=
  ks.length = n ∧ n ≤ 9223372036854775807 ∧ (∀ k ∈ ks, k.1.In .i8 w ∧ k.2.In .i8 w) ∧
    (0 < n → ∃ b off, a = some ⟨b, off, none⟩ ∧ ∀ i, i < n → w.cell? ⟨b, off + i * 2, none⟩ = some (.slice (ks.getD i default).1.a (ks.getD i default).1.n (ks.getD i default).1.cap) ∧ w.cell? ⟨b, off + i * 2 + 1, none⟩ = some (.slice (ks.getD i default).2.a (ks.getD i default).2.n (ks.getD i default).2.cap))
theorem KvsAt.below {w w' : World} {a : Option Addr} {n : Nat} {ks : List (Rw × Rw)} (h : KvsAt w a n ks) (hb : Below w.heap.size w w') : KvsAt w' a n ks := by
  refine ⟨h.1, h.2.1, fun k hk => ⟨(h.2.2.1 k hk).1.below hb, (h.2.2.1 k hk).2.below hb⟩, fun hn => ?_⟩
  obtain ⟨b, off, rfl, hc⟩ := h.2.2.2 hn
  exact ⟨b, off, rfl, fun i hi => ⟨(hb.cell (p := ⟨b, _, none⟩) (World.block_lt_of_cell? _ _ (hc i hi).1)).trans (hc i hi).1, (hb.cell (p := ⟨b, _, none⟩) (World.block_lt_of_cell? _ _ (hc i hi).2)).trans (hc i hi).2⟩⟩
theorem KvsAt.at_ {w : World} {a : Option Addr} {n : Nat} {ks : List (Rw × Rw)} (h : KvsAt w a n ks) {i : Nat} (hi : i < n) :
    ∃ b off k, a = some ⟨b, off, none⟩ ∧ b < w.heap.size ∧ w.cell? ⟨b, off + i * 2, none⟩ = some (.slice k.1.a k.1.n k.1.cap) ∧ w.cell? ⟨b, off + i * 2 + 1, none⟩ = some (.slice k.2.a k.2.n k.2.cap) ∧ Hid (ks.getD i default = k) ∧ k.1.In .i8 w ∧ k.2.In .i8 w ∧ k ∈ ks := by
  obtain ⟨b, off, rfl, hc⟩ := h.2.2.2 (by omega)
  have hm : ks.getD i default ∈ ks := by
    rw [List.getD_eq_getElem?_getD, List.getElem?_eq_getElem (by rw [h.1]; exact hi)]
    exact List.getElem_mem _
  exact ⟨b, off, _, rfl, World.block_lt_of_cell? _ _ (hc i hi).1, (hc i hi).1, (hc i hi).2, Lib.hid rfl, (h.2.2.1 _ hm).1, (h.2.2.1 _ hm).2, hm⟩

/-- a head's part of a row -/
def Rw.sub (q : Rw) (lo n : Nat) : Rw := ⟨q.a.map (fun x => x.add lo), n, q.cap - lo, (q.v.drop lo).take n⟩
theorem Rw.In.sub {k : IntKind} {w : World} {q : Rw} (h : q.In k w) (lo n : Nat) (hle : lo + n ≤ q.n) (h0 : 0 < n) : (q.sub lo n).In k w := by
  obtain ⟨b, off, ha, _⟩ := h.1.2.2.2 (by omega)
  refine ⟨cut_elems h.1 lo n hle, by have := h.2.1; show n ≤ q.cap - lo; omega, by have := h.2.2.1; show q.cap - lo ≤ _; omega, ?_⟩
  show Sl (q.a.map _) _
  rw [ha]
  simp only [Option.map_some, add_plain']
  exact ⟨fun e => (by cases e), fun x e _ => (by cases e; rfl)⟩

/-- of cut rows: scores, an answer -/
def scoresR (hw lo : Nat) (q : List Int) (ps : List KV8) : List Int := ps.map fun kv => wsum (prods q (headR hw kv.1 lo))
noncomputable def ansR (hw lo : Nat) (q : List Int) (ps : List KV8) : List Int :=
  mixV (soft 64 0 (topO (scoresR hw lo q ps)) (scoresR hw lo q ps)) (ps.map fun kv => headR hw kv.2 lo) ps.length hw
theorem ansO_R (hw h : Nat) (q : List Int) (ps : List KV8) : ansO hw h q ps = ansR hw (h * hw) (rowOf q hw h) ps := rfl
theorem scoresR_wf (hw lo : Nat) (q : List Int) (ps : List KV8) : ∀ x ∈ scoresR hw lo q ps, (Lit.int .i32 x).wf = true := by
  intro x hx
  obtain ⟨kv, _, rfl⟩ := List.mem_map.1 hx
  exact wsum_wf _
def kvs (ks : List (Rw × Rw)) : List KV8 := ks.map fun k => (k.1.v, k.2.v)

/-- k of the cells of a block of slices are laid -/
def Slid (f : Nat → Rw) (n k : Nat) (cs : Array Value) : Prop := cs.size = n ∧ ∀ i, i < k → cs[i]? = some (.slice (f i).a (f i).n (f i).cap)
theorem Slid.step {f : Nat → Rw} {n k : Nat} {cs : Array Value} (h : Slid f n k cs) (hk : k < n) : Slid f n (k + 1) (cs.setIfInBounds k (.slice (f k).a (f k).n (f k).cap)) := by
  refine ⟨by simpa using h.1, fun i hi => ?_⟩
  rw [Array.getElem?_setIfInBounds]
  by_cases e : k = i
  · subst e; rw [if_pos rfl, if_pos (by rw [h.1]; exact hk)]
  · rw [if_neg e]; exact h.2 i (by omega)
theorem Slid.rws {f : Nat → Rw} {n : Nat} {cs : Array Value} {w : World} {g : Nat} {T : TypeId} (h : Slid f n n cs) (hb : Box w g T cs) (hn : n ≤ 1000) (hf : ∀ i, i < n → (f i).In .i8 w) : Rws .i8 w (some ⟨g, 0, none⟩) n ((List.range n).map f) := by
  refine ⟨by simp, by omega, ?_, fun _ => ⟨g, 0, rfl, fun i hi => ?_⟩⟩
  · intro q hq
    obtain ⟨i, hi, rfl⟩ := List.mem_map.1 hq
    exact hf i (List.mem_range.1 hi)
  · have e : ((List.range n).map f).getD i default = f i := by simp [List.getD, hi]
    rw [e, Nat.zero_add, hb.cell]
    exact h.2 i hi

theorem range_getD {α β : Type} [Inhabited α] (l : List α) (n : Nat) (h : l.length = n) (f : α → β) : (List.range n).map (fun i => f (l.getD i default)) = l.map f := by
  apply List.ext_getElem (by simp [h])
  intro i h1 h2
  simp at h1 h2
  simp [List.getD, List.getElem?_eq_getElem h2]

set_option maxHeartbeats 2000000 in
set_option maxRecDepth 100000 in
theorem answer8 (q : Rw) (lo hi hw : Nat) (hlen : Hid (hi - lo = hw)) (h0 : 2 ≤ hw) (h128 : hw ≤ 128) (hlh : lo < hi) (hh : hi ≤ 128) (pa : Option Addr) (n pcap : Nat) (ks : List (Rw × Rw)) (w : World) (hq : q.In .i8 w) (hk : KvsAt w pa n ks) (hn : 0 < n) (hn2 : n ≤ 200) (hrow : Hid (∀ k ∈ ks, hi ≤ k.1.n ∧ hi ≤ k.2.n)) (hT : Tab w) :
    Calls Tryz.prog 88 #[.slice q.a q.n q.cap, .slice pa n pcap, .int .i64 lo, .int .i64 hi] w fun e w' => GivesS .i8 hw (ansR hw lo q.v (kvs ks)) e w' ∧ Below w.heap.size w w' := by
  have hmk := run_make_row' (P := Tryz.prog) 36 21 (.int .i32 0) 4 Tryz.underlying36 info_int32 rfl .i64 .i64 n (by omega) (by omega)
  have hmk2 := run_make_row' (P := Tryz.prog) 54 24 (.slice none 0 0) 24 Tryz.underlying54 info_sl8 rfl .i64 .i64 n (by omega) (by omega)
  have HKS := Lib.hid hk
  have HT := Lib.hid hT
  have HQ := Lib.hid hq
  have l0 : (0 : Int) ≤ (lo : Int) := by omega
  have l1 : (lo : Int) ≤ (hi : Int) := by omega
  clear hk hT hq
  go_enter Tryz.func88, Tryz.ntmps88
  go_wp2
  go_loopw [23] (fun i wr => ∃ (k : Nat) (cs : List Int) (cur : Array Value), k ≤ n ∧ i = .int .i64 k ∧ MineK .i32 wr w.heap.size 21 cs ∧ Box wr (w.heap.size + 1) 24 cur ∧ Below w.heap.size w wr ∧ w.heap.size + 2 ≤ wr.heap.size ∧ Hid (FilledBy (fun i => wsum (prods q.v (headR hw (ks.getD i default).1.v lo))) n k cs) ∧ Hid (Slid (fun i => (ks.getD i default).2.sub lo hw) n k cur)) (fun i _ => n - (intOf i).toNat)
  case atStart =>
    refine ⟨0, List.replicate n 0, madeCells #[Value.slice none 0 0] n, by omega, rfl, (mine_made .i32 w 21 n rfl).alloc _, box_at (by simp) _ _, ((Below.refl _ _).alloc (Nat.le_refl _) _).alloc (by simp) _, by simp, Lib.hid (filledBy_start _ n), Lib.hid ⟨by simp [size_madeCells], fun i h => by omega⟩⟩
  case round =>
    obtain ⟨k, cs, cur, hk, rfl, hmine, hbox, hbel, hsz, hfil, hsl⟩ := hrel
    by_cases hlt : k < n
    · obtain ⟨pb, po, kv, rfl, hpb, hc1, hc2, hkv, hin1, hin2, hmem⟩ := (HKS.out.below hbel).at_ hlt
      obtain ⟨r1, r2⟩ := hrow.out kv hmem
      obtain ⟨⟨a1, n1, cap1, v1⟩, ⟨a2, n2, cap2, v2⟩⟩ := kv
      simp only at hc1 hc2 r1 r2
      obtain ⟨b1, o1, e1, _⟩ := hin1.1.2.2.2 (show 0 < n1 by omega)
      obtain ⟨b2, o2, e2, _⟩ := hin2.1.2.2.2 (show 0 < n2 by omega)
      simp only at e1 e2
      subst e1 e2
      have g1 := hin1.2.1
      have g2 := hin2.2.1
      have g1' := hin1.2.2.1
      have g2' := hin2.2.2.1
      simp only at g1 g2 g1' g2'
      have hd : hi - lo = hw := hlen.out
      have hs1 : Elems .i8 wr (some ⟨b1, o1 + lo, none⟩) (hi - lo) (headR hw v1 lo) := by
        have := cut_elems hin1.1 lo hw (by show lo + hw ≤ n1; omega)
        simp only [Option.map_some, add_plain'] at this
        rw [hd]; exact this
      have hst1 := Lib.hid (filledBy_step hfil.out hlt)
      have hsub : (ks.getD k default).2.sub lo hw = ⟨some ⟨b2, o2 + lo, none⟩, hw, cap2 - lo, (v2.drop lo).take hw⟩ := by rw [hkv.out]; simp [Rw.sub, add_plain']
      have hst2 : Hid (Slid (fun i => (ks.getD i default).2.sub lo hw) n (k + 1) (cur.setIfInBounds k (.slice (some ⟨b2, o2 + lo, none⟩) (hi - lo) (cap2 - lo)))) := Lib.hid (by
        have := hsl.out.step hlt
        simp only [hsub] at this
        rw [hd]; exact this)
      rw [hkv.out] at hst1
      have hl := hfil.out.1
      have hcz := hsl.out.1
      have ne1 : ¬ cap1 = lo := by omega
      have ne2 : ¬ cap2 = lo := by omega
      have m1 : (hi : Int) ≤ (cap1 : Int) := by omega
      have m2 : (hi : Int) ≤ (cap2 : Int) := by omega
      have hqr := HQ.out.below hbel
      obtain ⟨z, hz⟩ : ∃ z, wsum (prods q.v (headR hw v1 lo)) = z := ⟨_, rfl⟩
      have hdot : ∀ o, Calls Tryz.prog 111 #[.slice q.a q.n q.cap, .slice (some ⟨b1, o1 + lo, none⟩) (hi - lo) (cap1 - lo)] (wr.alloc o) fun e w' => e = .returned (.int .i32 z) ∧ ∃ d, w' = (wr.alloc o).drewN d := fun o => by
        rw [← hz]
        exact dot q.a q.n q.cap q.v _ _ _ _ _ (hqr.1.below ((Below.refl _ _).alloc (Nat.le_refl _) o)) (hs1.below ((Below.refl _ _).alloc (Nat.le_refl _) o))
      rw [hz] at hst1
      have HZ := Lib.hid hz
      clear hz hin1 hin2 hs1 hkv hmem hsub hfil hsl hqr hd
      go_upto_region 6 with (fail)
      generalize hwA : wr.alloc _ = wA
      have XK : Box wA wr.heap.size 98 #[.slice (some ⟨b1, o1, none⟩) n1 cap1, .slice (some ⟨b2, o2, none⟩) n2 cap2] := by rw [← hwA]; exact box_new _ _ _
      have hbA : Below wr.heap.size wr wA := by rw [← hwA]; exact (Below.refl _ _).alloc (Nat.le_refl _) _
      have hdA : Calls Tryz.prog 111 #[.slice q.a q.n q.cap, .slice (some ⟨b1, o1 + lo, none⟩) (hi - lo) (cap1 - lo)] wA fun e w' => e = .returned (.int .i32 z) ∧ ∃ d, w' = wA.drewN d := by rw [← hwA]; exact hdot _
      have x0 : wA.cell? ⟨wr.heap.size, 0, none⟩ = some (.slice (some ⟨b1, o1, none⟩) n1 cap1) := XK.cell 0
      clear hwA hdot
      go_wp2_with fail
      refine hdA.mono ?_
      rintro e wd ⟨rfl, d, hwd⟩
      have hbD : Below wr.heap.size wr wd := by rw [hwd]; exact below_drewN hbA d
      have XD : Box wd wr.heap.size 98 #[.slice (some ⟨b1, o1, none⟩) n1 cap1, .slice (some ⟨b2, o2, none⟩) n2 cap2] := by rw [hwd]; exact XK.drewN d
      have hzD := hbD.size
      have hmD := hmine.below hbD hmine.lt
      have hxD := hbox.bel hbD
      have hblD := below_two hbel hbD
      have hold := hmD.cell (k := k) (by omega)
      have hf := hmD.frozen k
      have hm2 := hmD.set k z
      have hx2 := hxD.other (.int .i32 z) (g' := w.heap.size) (o := k) (by omega)
      have y1 : (wd.setCell ⟨w.heap.size, k, none⟩ (.int .i32 z)).cell? ⟨wr.heap.size, 1, none⟩ = some (.slice (some ⟨b2, o2, none⟩) n2 cap2) := (XD.other (.int .i32 z) (g' := w.heap.size) (o := k) (by omega)).cell 1
      have hold2 : (wd.setCell ⟨w.heap.size, k, none⟩ (.int .i32 z)).cell? ⟨w.heap.size + 1, k, none⟩ = some (cur.getD k undef) := by
        rw [hx2.cell]
        simp [Array.getD_eq_getD_getElem?, Array.getElem?_eq_getElem (show k < cur.size by omega)]
      have hf2 := hx2.frozen k
      have hm3 : MineK .i32 ((wd.setCell ⟨w.heap.size, k, none⟩ (.int .i32 z)).setCell ⟨w.heap.size + 1, k, none⟩ (.slice (some ⟨b2, o2 + lo, none⟩) (hi - lo) (cap2 - lo))) w.heap.size 21 (cs.set k z) := hm2.kept (grownBy_setCell _ (w.heap.size + 1) k _) (by simp)
      have hx3 := hx2.set k (.slice (some ⟨b2, o2 + lo, none⟩) (hi - lo) (cap2 - lo))
      have hb3 := (hblD.setCell (p := ⟨w.heap.size, k, none⟩) (Nat.le_refl _) (.int .i32 z)).setCell (p := ⟨w.heap.size + 1, k, none⟩) (Nat.le_succ _) (.slice (some ⟨b2, o2 + lo, none⟩) (hi - lo) (cap2 - lo))
      generalize cs.getD k 0 = c0 at hold
      generalize cur.getD k undef = c1 at hold2
      have HST1 := hst1
      have HST2 := hst2
      clear hwd XK XD hbA hdA x0 hmD hxD hblD hmine hbox hbel hm2 hx2 hmk hmk2 hst1 hst2 hc1 hc2 g1 g2 g1' g2' hcz
      go_wp2
      go_roundw
      case rel => exact ⟨k + 1, _, _, by omega, by go_num, hm3, hx3, hb3, by simp; omega, HST1, HST2⟩
      case measure => simp [intOf]; omega
    · obtain rfl : k = n := by omega
      have hkl := HKS.out.1
      have hcs : cs = scoresR hw lo q.v (kvs ks) := by
        rw [filledBy_range hfil.out]
        unfold scoresR kvs
        rw [List.map_map]
        exact range_getD ks k hkl (fun kv => wsum (prods q.v (headR hw kv.1.v lo)))
      have hE := hmine.elems (n := k) hfil.out.1 (by omega) (by rw [hcs]; exact scoresR_wf _ _ _ _)
      have hin : ∀ i, i < k → ((ks.getD i default).2.sub lo hw).In .i8 wr := fun i hi' => by
        obtain ⟨_, _, kv, _, _, _, _, hkv, _, hin2, hmem⟩ := (HKS.out.below hbel).at_ hi'
        rw [hkv.out]
        have hd : hi - lo = hw := hlen.out
        exact hin2.sub lo hw (by have := (hrow.out kv hmem).2; omega) (by omega)
      have hR := hsl.out.rws hbox (by omega) hin
      have hsw : sameW ((List.range k).map fun i => (ks.getD i default).2.sub lo hw) = true := by
        unfold sameW
        rw [List.all_map, List.all_eq_true]
        intro i hi'
        obtain ⟨k', rfl⟩ : ∃ k', k = k' + 1 := ⟨k - 1, by omega⟩
        simp [Rw.sub, List.range_succ_eq_map]
      have hw0 : (((List.range k).map fun i => (ks.getD i default).2.sub lo hw).getD 0 default).n = hw := by
        obtain ⟨k', rfl⟩ : ∃ k', k = k' + 1 := ⟨k - 1, by omega⟩
        simp [Rw.sub, List.range_succ_eq_map]
      have hvs : ((List.range k).map fun i => (ks.getD i default).2.sub lo hw).map (·.v) = (kvs ks).map fun kv => headR hw kv.2 lo := by
        unfold kvs
        rw [List.map_map, List.map_map]
        exact range_getD ks k hkl (fun kv => headR hw kv.2.v lo)
      rw [hcs] at hE
      have hps : (kvs ks).length = k := by simp [kvs, hkl]
      have cS := softmax_some 64 0 (topO (scoresR hw lo q.v (kvs ks))) (some ⟨w.heap.size, 0, none⟩) k k _ wr hE hn (by omega) (by decide) (by decide) (topO_is hE.1 hn) (HT.out.below hbel)
      have HR := Lib.hid hR
      have HSW := Lib.hid hsw
      have HW0 := Lib.hid hw0
      have HA : Hid (mixL (soft 64 0 (topO (scoresR hw lo q.v (kvs ks))) (scoresR hw lo q.v (kvs ks))) ((List.range k).map fun i => (ks.getD i default).2.sub lo hw) k hw = ansR hw lo q.v (kvs ks)) := Lib.hid (by
        rw [mixL_V, hvs]
        unfold ansR
        rw [hps])
      generalize ((List.range k).map fun i => (ks.getD i default).2.sub lo hw) = qs at HR HSW HW0 HA
      clear hcs hE hin hR hsw hw0 hvs hps hmine hbox hfil hsl HKS hrow HQ hmk hmk2 hkl
      go_wp2_with fail
      refine cS.mono ?_
      rintro e wb ⟨⟨g, rfl, hE2⟩, hb1⟩
      have cM := mix_some (some ⟨g, 0, none⟩) (some ⟨w.heap.size + 1, 0, none⟩) k k k hw _ qs wb hE2 (HR.out.below hb1) hn hn2 HSW.out HW0.out (by omega)
      have hb2 := below_two hbel hb1
      clear cS hE2 hb1 hbel
      go_wp2_with fail
      refine cM.mono ?_
      rintro e wc ⟨⟨g2, rfl, hE3⟩, hb3⟩
      have hb4 := below_two hb2 hb3
      have HE3 := Lib.hid hE3
      clear cM hb2 hb3 hE3
      go_wp2
      go_ret
      exact ⟨⟨g2, hw, rfl, by rw [← HA.out]; exact HE3.out, Nat.le_refl _, by omega⟩, hb4⟩

end Go.Proofs.YtoeihigdndkjeaaGreatDoor

/-
  What a run keeps: a map by layers and places, of rows that lie each in a block.
-/
namespace Go.Proofs.YtoeihigdndkjeaaGreatDoor
open Go.RowKit Go.Maps Go.WideMaps
set_option linter.unusedVariables false

theorem spot_law : Keyed Tryz.prog 101 := Keyed.of_law (deep_law (m := 2) (by decide) (by kernel_rfl) (by kernel_rfl) (by kernel_rfl))
/-- the key of a layer and a place -/
def keyS (l p : Int) : Lit := .string (keyBytes [.int .i64 l, .int .i64 p])
theorem keyS_isKey (l p : Int) : WideAt.IsKeyLit (keyS l p) := trivial
theorem types_some8 : ∃ m, Tryz.prog.types.size = m + 1 := ⟨Tryz.prog.types.size - 1, by have : 0 < Tryz.prog.types.size := of_decide_eq_true (by kernel_rfl); omega⟩
theorem keyS_mk {l p : Int} (hl : (Lit.int .i64 l).wf = true) (hp : (Lit.int .i64 p).wf = true) : keyOf Tryz.prog 101 (.agg #[.int .i64 l, .int .i64 p]) = some (keyS l p) := by
  have hkt : Tryz.prog.keyType 101 = true := by kernel_rfl
  obtain ⟨m, hm⟩ := types_some8
  have hf : (Value.agg #[.int .i64 l, .int .i64 p]).formed Tryz.prog 101 = true := by kernel_rfl
  unfold keyOf
  simp only [Tryz.underlying101]
  rw [if_pos (by rw [hkt, hf]; rfl), hm]
  unfold Program.keyLits
  simp only [Tryz.underlying101]
  have hc : Tryz.prog.cellsOf 3 = 1 := by kernel_rfl
  have hk : ∀ x : Int, (Lit.int .i64 x).wf = true → Tryz.prog.keyLits (m + 1) 3 [.int .i64 x] = some [.int .i64 x] := by
    intro x hx
    unfold Program.keyLits
    simp [Tryz.underlying3, hx]
  rw [if_pos ⟨by kernel_rfl, by kernel_rfl⟩]
  simp [List.mapM_cons, Value.cells, hc, hk l hl, hk p hp, keyS]
theorem keyS_inj {l p l' p' : Int} (hl : (Lit.int .i64 l).wf = true) (hp : (Lit.int .i64 p).wf = true) (hl' : (Lit.int .i64 l').wf = true) (hp' : (Lit.int .i64 p').wf = true) (h : keyS l p = keyS l' p') : l = l' ∧ p = p' := by
  have h1 := keyS_mk hl hp
  have h2 := keyS_mk hl' hp'
  rw [h] at h1
  have := spot_law.inj h1 h2
  simpa using this
theorem wf_n {n : Nat} (h : n ≤ 65536) : (Lit.int .i64 (n : Int)).wf = true := WalkArith.wf_i64 ⟨by omega, by omega⟩

/-- where two rows of n numbers lie, as a datum; the element -/
def kvD (g1 c1 g2 c2 n : Nat) : DataW Unit := .agg [.lit (.int .i64 g1), .lit (.int .i64 c1), .lit (.int .i64 g2), .lit (.int .i64 c2), .lit (.int .i64 n)]
def kvV (g1 c1 g2 c2 n : Nat) : Value := .agg #[.slice (some ⟨g1, 0, none⟩) n c1, .slice (some ⟨g2, 0, none⟩) n c2]
def kvElem : Value → Option (DataW Unit × List MemPlace)
  | .agg ⟨[.slice (some ⟨g1, 0, none⟩) n1 c1, .slice (some ⟨g2, 0, none⟩) n2 c2]⟩ => if n1 = n2 then some (kvD g1 c1 g2 c2 n1, []) else none
  | .agg ⟨[.slice none 0 0, .slice none 0 0]⟩ => some (.nil, [])
  | _ => none
theorem kvElem_mk (g1 c1 g2 c2 n : Nat) : kvElem (kvV g1 c1 g2 c2 n) = some (kvD g1 c1 g2 c2 n, []) := by simp [kvElem, kvV]
theorem kvElem_zero : kvElem (.agg #[.slice none 0 0, .slice none 0 0]) = some (.nil, []) := rfl
theorem kvElem_inv {v : Value} {g1 c1 g2 c2 n : Nat} {ps : List MemPlace} (h : kvElem v = some (kvD g1 c1 g2 c2 n, ps)) : v = kvV g1 c1 g2 c2 n := by
  unfold kvElem at h
  split at h
  · split at h
    · rename_i e
      subst e
      simp only [Option.some.injEq, Prod.mk.injEq, kvD, DataW.agg.injEq, List.cons.injEq, DataW.lit.injEq, Lit.int.injEq, true_and, and_true, Int.natCast_inj] at h
      obtain ⟨⟨rfl, rfl, rfl, rfl, rfl⟩, _⟩ := h
      rfl
    · cases h
  · simp [kvD] at h
  · cases h
theorem kvElem_nil {v : Value} {ps : List MemPlace} (h : kvElem v = some (.nil, ps)) : v = .agg #[.slice none 0 0, .slice none 0 0] := by
  unfold kvElem at h
  split at h
  · split at h
    · simp [kvD] at h
    · cases h
  · rfl
  · cases h

/-- block b of w is a map of at most n entries that reads as D -/
def OwnK (w : World) (b n : Nat) (D : DataW Unit) : Prop := w.ownsMap Tryz.prog 101 kvElem b n D
theorem OwnK.lt {w : World} {b n : Nat} {D : DataW Unit} (h : OwnK w b n D) : b < w.heap.size := World.ownsMap.lt h
theorem OwnK.kept {w w' : World} {b n : Nat} {D : DataW Unit} (h : OwnK w b n D) {row : Option Nat} (hg : w.grownBy w' row) (hne : some b ≠ row) : OwnK w' b n D := World.ownsMap.kept h hg hne
theorem OwnK.bel {w w' : World} {b n : Nat} {D : DataW Unit} (h : OwnK w b n D) (hb : Below w.heap.size w w') : OwnK w' b n D := by
  obtain ⟨es, clock, hh, F, hs, hD⟩ := h
  exact ⟨es, clock, (hb.block b (Array.getElem?_eq_some_iff.1 hh).1).trans hh, F, hs, hD⟩
theorem ownK_made (w : World) {b : Nat} (hb : b = w.heap.size) : OwnK (w.alloc (.map #[] 0)) b 0 (.map []) := by subst hb; exact World.ownsMap_made w _ _ _
theorem zero_kept (w : World) : (zeroValue 98).run Tryz.prog w = .ok (.agg #[.slice none 0 0, .slice none 0 0]) w := by kernel_rfl
/-- a map's block holds no cells -/
theorem OwnK.cell {w : World} {b n : Nat} {D : DataW Unit} (h : OwnK w b n D) (o : Nat) : w.cell? ⟨b, o, none⟩ = none := by
  obtain ⟨es, clock, hh, _⟩ := h
  simp [World.cell?, hh]

/-- D holds all layers of the places below p, and of place p the layers below n: of each the rows of K, of wd numbers -/
def KeptD (w : World) (L wd p n : Nat) (K : KF8) (D : DataW Unit) : Prop :=
  Tidy D ∧ (∀ l q : Int, (Lit.int .i64 l).wf = true → (Lit.int .i64 q).wf = true → Maps.has D (keyS l q) = decide (0 ≤ l ∧ 0 ≤ q ∧ (q < p ∧ l < L ∨ q = p ∧ l < n))) ∧
    ∀ l q : Nat, q < p ∧ l < L ∨ q = p ∧ l < n → ∃ g1 c1 g2 c2, (∀ z, D.atKey (keyS l q) z = kvD g1 c1 g2 c2 wd) ∧ Rw.In .i8 w ⟨some ⟨g1, 0, none⟩, wd, c1, (K l q).1⟩ ∧ Rw.In .i8 w ⟨some ⟨g2, 0, none⟩, wd, c2, (K l q).2⟩
theorem keptD_start (w : World) (L wd : Nat) (K : KF8) : KeptD w L wd 0 0 K (.map []) := by
  refine ⟨tidy_empty, fun l q _ _ => ?_, fun l q h => by omega⟩
  rw [decide_eq_false (by omega)]; rfl
theorem KeptD.bel {w w' : World} {L wd p n : Nat} {K : KF8} {D : DataW Unit} (h : KeptD w L wd p n K D) (hb : Below w.heap.size w w') : KeptD w' L wd p n K D :=
  ⟨h.1, h.2.1, fun l q hl => let ⟨g1, c1, g2, c2, h1, h2, h3⟩ := h.2.2 l q hl; ⟨g1, c1, g2, c2, h1, h2.below hb, h3.below hb⟩⟩
theorem KeptD.kept {w w' : World} {L wd p n : Nat} {K : KF8} {D : DataW Unit} (h : KeptD w L wd p n K D) (hr : ∀ q : Rw, q.In .i8 w → q.In .i8 w') : KeptD w' L wd p n K D :=
  ⟨h.1, h.2.1, fun l q hl => let ⟨g1, c1, g2, c2, h1, h2, h3⟩ := h.2.2 l q hl; ⟨g1, c1, g2, c2, h1, hr _ h2, hr _ h3⟩⟩
theorem KeptD.step {w : World} {L wd p n : Nat} {K K' : KF8} {D : DataW Unit} (h : KeptD w L wd p n K D) (hn : n < L) (hL : L ≤ 16) (hp : p ≤ 65536) (hK : ∀ l q, (q < p ∧ l < L ∨ q = p ∧ l < n) → K' l q = K l q) {g1 c1 g2 c2 : Nat}
    (h1 : Rw.In .i8 w ⟨some ⟨g1, 0, none⟩, wd, c1, (K' n p).1⟩) (h2 : Rw.In .i8 w ⟨some ⟨g2, 0, none⟩, wd, c2, (K' n p).2⟩) : KeptD w L wd p (n + 1) K' (D.put (keyS n p) (kvD g1 c1 g2 c2 wd)) := by
  obtain ⟨t, hh, ha⟩ := h
  refine ⟨t.put (keyS_isKey _ _) _, fun l q hl hq => ?_, fun l q hlq => ?_⟩
  · by_cases e : l = n ∧ q = p
    · obtain ⟨rfl, rfl⟩ := e
      rw [has_put_same t.isMap (keyS_isKey _ _), decide_eq_true (by omega)]
    · rw [has_put_other (fun e2 => e (keyS_inj hl hq (wf_n (by omega)) (wf_n hp) e2)), hh l q hl hq]
      congr 1
      apply propext
      omega
  · by_cases e : l = n ∧ q = p
    · obtain ⟨rfl, rfl⟩ := e
      exact ⟨g1, c1, g2, c2, fun z => atKey_put_same t.isMap (keyS_isKey _ _) _ _, h1, h2⟩
    · have hlq' : q < p ∧ l < L ∨ q = p ∧ l < n := by omega
      obtain ⟨a, b, c, d, x1, x2, x3⟩ := ha l q hlq'
      refine ⟨a, b, c, d, fun z => ?_, ?_, ?_⟩
      · rw [atKey_put_other (fun e2 => e (by have := keyS_inj (wf_n (by omega)) (wf_n (by omega)) (wf_n (by omega)) (wf_n hp) e2; omega)), x1]
      · rw [hK l q hlq']; exact x2
      · rw [hK l q hlq']; exact x3
theorem KeptD.next {w : World} {L wd p : Nat} {K : KF8} {D : DataW Unit} (h : KeptD w L wd p L K D) : KeptD w L wd (p + 1) 0 K D := by
  obtain ⟨t, hh, ha⟩ := h
  refine ⟨t, fun l q hl hq => ?_, fun l q hlq => ha l q (by omega)⟩
  rw [hh l q hl hq]
  congr 1
  apply propext
  omega

/-- what is kept of a layer, place by place -/
def kcol (K : KF8) (l n : Nat) : List KV8 := (List.range n).map (K l)

end Go.Proofs.YtoeihigdndkjeaaGreatDoor

/-
  A run as it stands in memory; what a layer keeps, place by place.
-/
namespace Go.Proofs.YtoeihigdndkjeaaGreatDoor
open Go.RowKit Go.Maps Go.WideMaps
set_option linter.unusedVariables false

theorem info_kept : (Tryz.prog.info? 98).map (fun i => (i.zero, i.size, i.bytes)) = some (some (.agg #[.slice none 0 0, .slice none 0 0]), 2, 48) := by kernel_rfl
theorem run_make_kept (n : Nat) (hn : n ≤ 16777216) (w : World) : (Instr.makeSlice 159 (.int .i64 (n : Int)) (.int .i64 (n : Int))).run Tryz.prog w = .ok (.slice (some ⟨w.heap.size, 0, none⟩) n n) (w.alloc (.cells (madeCells (Value.agg #[.slice none 0 0, .slice none 0 0]).cells (n * 2)) 98)) := by
  obtain ⟨i, hi, hzz⟩ := Option.map_eq_some_iff.1 info_kept
  simp only [Prod.mk.injEq] at hzz
  obtain ⟨hz, hs, hb⟩ := hzz
  have hr := run_make (P := Tryz.prog) w 159 98 i _ Tryz.underlying159 hi hz .i64 .i64 n n (by omega) (Int.le_refl _) (by rw [hb]; omega) (by omega)
  simp only [Int.toNat_natCast, hs] at hr
  exact hr

/-- what a look-up finds -/
theorem look_kept {w : World} {b N : Nat} {D : DataW Unit} (h : OwnK w b N D) {l p : Int} (hl : (Lit.int .i64 l).wf = true) (hp : (Lit.int .i64 p).wf = true) {g1 c1 g2 c2 n : Nat} (hat : ∀ z, D.atKey (keyS l p) z = kvD g1 c1 g2 c2 n) :
    (Instr.lookup 89 (.map (some b)) (.agg #[.int .i64 l, .int .i64 p]) false).run Tryz.prog w = .ok (.agg #[.slice (some ⟨g1, 0, none⟩) n c1, .slice (some ⟨g2, 0, none⟩) n c2]) w := by
  obtain ⟨v, ps, hr, hv⟩ := World.ownsMap.lookup h spot_law Tryz.underlying89 (zero_kept w) kvElem_zero (keyS_mk hl hp)
  rw [hat] at hv
  rw [kvElem_inv hv] at hr
  exact hr

/-- k of n places are laid -/
def Placed (w : World) (wd : Nat) (f : Nat → KV8) (n k : Nat) (cur : Array Value) (ks : List (Rw × Rw)) : Prop :=
  ks.length = k ∧ cur.size = n * 2 ∧ ∀ i, i < k → cur[i * 2]? = some (.slice (ks.getD i default).1.a (ks.getD i default).1.n (ks.getD i default).1.cap) ∧ cur[i * 2 + 1]? = some (.slice (ks.getD i default).2.a (ks.getD i default).2.n (ks.getD i default).2.cap) ∧
    (ks.getD i default).1.In .i8 w ∧ (ks.getD i default).2.In .i8 w ∧ (ks.getD i default).1.n = wd ∧ (ks.getD i default).2.n = wd ∧ ((ks.getD i default).1.v, (ks.getD i default).2.v) = f i
theorem Placed.step {w : World} {wd : Nat} {f : Nat → KV8} {n k : Nat} {cur : Array Value} {ks : List (Rw × Rw)} (h : Placed w wd f n k cur ks) (hk : k < n) {g1 c1 g2 c2 : Nat} (h1 : Rw.In .i8 w ⟨some ⟨g1, 0, none⟩, wd, c1, (f k).1⟩) (h2 : Rw.In .i8 w ⟨some ⟨g2, 0, none⟩, wd, c2, (f k).2⟩) :
    Placed w wd f n (k + 1) ((cur.setIfInBounds (k * 2) (.slice (some ⟨g1, 0, none⟩) wd c1)).setIfInBounds (k * 2 + 1) (.slice (some ⟨g2, 0, none⟩) wd c2)) (ks ++ [(⟨some ⟨g1, 0, none⟩, wd, c1, (f k).1⟩, ⟨some ⟨g2, 0, none⟩, wd, c2, (f k).2⟩)]) := by
  obtain ⟨hl, hs, ha⟩ := h
  refine ⟨by simp [hl], by simp [hs], fun i hi => ?_⟩
  by_cases e : i = k
  · subst e
    have hg : (ks ++ [((⟨some ⟨g1, 0, none⟩, wd, c1, (f i).1⟩, ⟨some ⟨g2, 0, none⟩, wd, c2, (f i).2⟩) : Rw × Rw)]).getD i default = (⟨some ⟨g1, 0, none⟩, wd, c1, (f i).1⟩, ⟨some ⟨g2, 0, none⟩, wd, c2, (f i).2⟩) := by
      rw [List.getD_eq_getElem?_getD, List.getElem?_append_right (by omega), hl]; simp
    rw [hg]
    refine ⟨?_, ?_, h1, h2, rfl, rfl, rfl⟩
    · rw [Array.getElem?_setIfInBounds, if_neg (by omega), Array.getElem?_setIfInBounds, if_pos rfl, if_pos (by omega)]
    · rw [Array.getElem?_setIfInBounds, if_pos rfl, if_pos (by simp; omega)]
  · have hg : (ks ++ [((⟨some ⟨g1, 0, none⟩, wd, c1, (f k).1⟩, ⟨some ⟨g2, 0, none⟩, wd, c2, (f k).2⟩) : Rw × Rw)]).getD i default = ks.getD i default := by
      rw [List.getD_eq_getElem?_getD, List.getElem?_append_left (by omega), ← List.getD_eq_getElem?_getD]
    rw [hg]
    obtain ⟨a, b, r⟩ := ha i (by omega)
    refine ⟨?_, ?_, r⟩
    · rw [Array.getElem?_setIfInBounds, if_neg (by omega), Array.getElem?_setIfInBounds, if_neg (by omega)]; exact a
    · rw [Array.getElem?_setIfInBounds, if_neg (by omega), Array.getElem?_setIfInBounds, if_neg (by omega)]; exact b
theorem Placed.kvs {w : World} {wd : Nat} {f : Nat → KV8} {n : Nat} {cur : Array Value} {ks : List (Rw × Rw)} (h : Placed w wd f n n cur ks) : kvs ks = (List.range n).map f := by
  obtain ⟨hl, hs, ha⟩ := h
  unfold Go.Proofs.YtoeihigdndkjeaaGreatDoor.kvs
  rw [← range_getD ks n hl]
  apply List.map_congr_left
  intro i hi
  exact (ha i (List.mem_range.1 hi)).2.2.2.2.2.2
theorem Placed.at_mem {w : World} {wd : Nat} {f : Nat → KV8} {n : Nat} {cur : Array Value} {ks : List (Rw × Rw)} (h : Placed w wd f n n cur ks) : ∀ k ∈ ks, (k.1.In .i8 w ∧ k.2.In .i8 w) ∧ k.1.n = wd ∧ k.2.n = wd := by
  intro k hk
  obtain ⟨i, hi, rfl⟩ := List.getElem_of_mem hk
  obtain ⟨_, _, h1, h2, h3, h4, _⟩ := h.2.2 i (by rw [← h.1]; exact hi)
  rw [List.getD_eq_getElem?_getD, List.getElem?_eq_getElem hi] at h1 h2 h3 h4
  exact ⟨⟨h1, h2⟩, h3, h4⟩
theorem Placed.kvsAt {w w' : World} {wd : Nat} {f : Nat → KV8} {n : Nat} {cur : Array Value} {ks : List (Rw × Rw)} (h : Placed w wd f n n cur ks) (hb : Below w.heap.size w w') (hn : n ≤ 1000) {g : Nat} {T : TypeId} (hx : Box w' g T cur) : KvsAt w' (some ⟨g, 0, none⟩) n ks := by
  refine ⟨h.1, by omega, fun k hk => ⟨(h.at_mem k hk).1.1.below hb, (h.at_mem k hk).1.2.below hb⟩, fun _ => ⟨g, 0, rfl, fun i hi => ?_⟩⟩
  obtain ⟨h1, h2, _⟩ := h.2.2 i hi
  rw [Nat.zero_add, hx.cell, hx.cell]
  exact ⟨h1, h2⟩

set_option maxHeartbeats 2000000 in
set_option maxRecDepth 100000 in
theorem places8 (r m mb l p L wd N : Nat) (K : KF8) (D : DataW Unit) (w : World) (hr : Box w r 91 #[.pointer (some ⟨m, 0, none⟩), .int .i64 p, .map (some mb)]) (ho : OwnK w mb N D) (hD : KeptD w L wd p (l + 1) K D) (hl : l < L) (hL : L ≤ 16) (hp : p ≤ 200) :
    Calls Tryz.prog 86 #[.pointer (some ⟨r, 0, none⟩), .int .i64 l] w fun e w' => (∃ g ks, e = .returned (.slice (some ⟨g, 0, none⟩) (p + 1) (p + 1)) ∧ KvsAt w' (some ⟨g, 0, none⟩) (p + 1) ks ∧ kvs ks = kcol K l (p + 1) ∧ ∀ k ∈ ks, k.1.n = wd ∧ k.2.n = wd) ∧ Below w.heap.size w w' := by
  obtain ⟨n, hn⟩ : ∃ n, p + 1 = n := ⟨_, rfl⟩
  have hmk := run_make_kept n (by omega)
  have e1 : (p : Int) + 1 = (n : Int) := by omega
  have c1 : w.cell? ⟨r, 1, none⟩ = some (.int .i64 p) := hr.cell 1
  have HR := Lib.hid hr
  have HO := Lib.hid ho
  have HD := Lib.hid hD
  have HN := Lib.hid hn
  rw [hn]
  have n200 : n ≤ 201 := by omega
  clear hr ho hD hn
  go_enter Tryz.func86, Tryz.ntmps86
  go_wp2
  go_loopw [15] (fun i wr => ∃ (k : Nat) (cur : Array Value) (ks : List (Rw × Rw)), k ≤ n ∧ i = .int .i64 k ∧ Hid (Box wr w.heap.size 98 cur) ∧ Below w.heap.size w wr ∧ Hid (Placed w wd (K l) n k cur ks)) (fun i _ => n - (intOf i).toNat)
  case atStart => exact ⟨0, _, [], by omega, rfl, Lib.hid (box_new _ _ _), (Below.refl _ _).alloc (Nat.le_refl _) _, Lib.hid ⟨rfl, by simp [size_madeCells], fun i h => by omega⟩⟩
  case round =>
    obtain ⟨k, cur, ks, hk, rfl, hbox, hbel, hpl⟩ := hrel
    by_cases hlt : k < n
    · have hnn := HN.out
      obtain ⟨g1, d1, g2, d2, hat, q1, q2⟩ := HD.out.2.2 l k (by omega)
      have hrun := look_kept (HO.out.bel hbel) (wf_n (by omega)) (wf_n (by omega)) hat
      have c2 : wr.cell? ⟨r, 2, none⟩ = some (.map (some mb)) := (HR.out.bel hbel).cell 2
      have hcz := hpl.out.2.1
      have o0 : wr.cell? ⟨w.heap.size, k * 2, none⟩ = some (cur.getD (k * 2) undef) := by
        rw [hbox.out.cell]; simp [Array.getD_eq_getD_getElem?, Array.getElem?_eq_getElem (show k * 2 < cur.size by omega)]
      have hx1 := hbox.out.set (k * 2) (.slice (some ⟨g1, 0, none⟩) wd d1)
      have o1 : (wr.setCell ⟨w.heap.size, k * 2, none⟩ (.slice (some ⟨g1, 0, none⟩) wd d1)).cell? ⟨w.heap.size, k * 2 + 1, none⟩ = some (cur.getD (k * 2 + 1) undef) := by
        rw [hx1.cell, Array.getElem?_setIfInBounds, if_neg (by omega)]
        simp [Array.getD_eq_getD_getElem?, Array.getElem?_eq_getElem (show k * 2 + 1 < cur.size by omega)]
      have f0 := hbox.out.frozen (k * 2)
      have f1 := hx1.frozen (k * 2 + 1)
      have hx2 := Lib.hid (hx1.set (k * 2 + 1) (.slice (some ⟨g2, 0, none⟩) wd d2))
      have hst := Lib.hid (hpl.out.step hlt q1 q2)
      have hb2 := (hbel.setCell (p := ⟨w.heap.size, k * 2, none⟩) (Nat.le_refl _) (.slice (some ⟨g1, 0, none⟩) wd d1)).setCell (p := ⟨w.heap.size, k * 2 + 1, none⟩) (Nat.le_refl _) (.slice (some ⟨g2, 0, none⟩) wd d2)
      generalize cur.getD (k * 2) undef = v0 at o0
      generalize cur.getD (k * 2 + 1) undef = v1 at o1
      clear hx1 hbox hbel hpl hcz hat q1 q2 hmk hnn
      go_wp2
      go_roundw
      case rel => exact ⟨k + 1, _, _, by omega, by go_num, hx2, hb2, hst⟩
      case measure => simp [intOf]; omega
    · obtain rfl : k = n := by omega
      have hK := Lib.hid (hpl.out.kvsAt hbel (by omega) hbox.out)
      have hV := Lib.hid hpl.out.kvs
      have hM := Lib.hid hpl.out.at_mem
      clear hpl hbox hmk
      go_wp2
      go_ret
      exact ⟨⟨w.heap.size, ks, rfl, hK.out, by unfold kcol; exact hV.out, fun k hk => (hM.out k hk).2⟩, hbel⟩

end Go.Proofs.YtoeihigdndkjeaaGreatDoor

/-
  A token's row, at first; the second half of a layer; the first error of tokens.
-/
namespace Go.Proofs.YtoeihigdndkjeaaGreatDoor
open Go.RowKit
set_option linter.unusedVariables false

theorem emb_len (W : Wn8) (t : Nat) (h : W.e.length = W.s.v * W.s.w) (ht : t < W.s.v) : (embO W t).length = W.s.w := by
  unfold embO
  rw [List.length_map]
  exact rowOf_length h ht

set_option maxHeartbeats 1000000 in
set_option maxRecDepth 100000 in
theorem embedded8 (m t : Nat) (s : Sz) (ok : s.Ok) (ht : t < s.v) (W : Wt7) (w : World) (h : ModAt w m s W) :
    Calls Tryz.prog 61 #[.pointer (some ⟨m, 0, none⟩), .int .i64 t] w fun e w' => GivesS .i32 s.w (embO (W.nums s) t) e w' ∧ Below w.heap.size w w' := by
  have bd := ok.bd
  have hs := shape8 m s W w h
  obtain ⟨⟨e1, e2, e3⟩, _⟩ := wtB_yes h.whole
  obtain ⟨hE, hcap, hcap2, _⟩ := h.inn.1
  have c8 := h.box.cell 8
  have HB := Lib.hid h.box
  obtain ⟨ab, off, ha, hcell⟩ := hE.2.2.2 (by rw [e3]; exact Nat.mul_pos (by omega) (by omega))
  have hablt := World.block_lt_of_cell? _ _ (hcell 0 (by rw [e3]; exact Nat.mul_pos (by omega) (by omega)))
  have HE := Lib.hid hE
  obtain ⟨lo, hlo⟩ : ∃ lo, t * s.w = lo := ⟨_, rfl⟩
  have hle : lo + s.w ≤ W.e.n := by rw [e3, ← hlo]; exact row_le ht
  have hmk := run_make_row' (P := Tryz.prog) 36 21 (.int .i32 0) 4 Tryz.underlying36 info_int32 rfl .i64 .i64 s.w (by omega) (by omega)
  have hn64 : W.e.n ≤ 65536 := by rw [e3]; exact Nat.le_trans (Nat.mul_le_mul bd.2.2.2.2.1.2 bd.2.2.1.2) (by decide)
  have c8' : w.cell? ⟨m, 8, none⟩ = some (.slice W.e.a W.e.n W.e.cap) := c8
  have hx : Elems .i8 w (some ⟨ab, off + lo, none⟩) s.w (rowOf W.e.v s.w t) := by
    have h1 := (hE.cut lo (by omega)).take s.w (by omega)
    rw [ha] at h1
    simp only [Option.map_some, add_plain'] at h1
    unfold rowOf
    rw [hlo]
    exact h1
  rw [ha] at c8'
  have hmul : (t : Int) * (s.w : Int) = (lo : Int) := by rw [← hlo]; push_cast; rfl
  have hne : ¬ W.e.cap = lo := by omega
  have l1 : (lo : Int) ≤ (W.e.n : Int) := by omega
  have l2 : (s.w : Int) ≤ (W.e.cap : Int) - (lo : Int) := by omega
  have l3 : s.w ≤ W.e.cap - lo := by omega
  have w1 : s.w ≤ 128 := bd.2.2.1.2
  have hv512 : s.v ≤ 512 := bd.2.2.2.2.1.2
  have HX := Lib.hid hx
  have HOUT : Hid (embO (W.nums s) t = (rowOf W.e.v s.w t).map (· * 16)) := Lib.hid rfl
  obtain ⟨xs, hxs⟩ : ∃ xs, rowOf W.e.v s.w t = xs := ⟨_, rfl⟩
  rw [hxs] at HX HOUT
  obtain ⟨en, hen⟩ : ∃ en, W.e.n = en := ⟨_, rfl⟩
  obtain ⟨ec, hec⟩ : ∃ ec, W.e.cap = ec := ⟨_, rfl⟩
  rw [hen] at c8' hle l1 hn64
  rw [hec] at c8' hne l2 l3 hcap2
  have hcap' : en ≤ ec := by rw [← hen, ← hec]; exact hcap
  obtain ⟨l, W0, H, I, V, P⟩ := s
  unfold Sz.val shv at hs
  simp only at hs hle hmk hmul l2 l3 w1 HX HOUT hv512 ht ⊢
  clear hx hxs hlo ha hcell hE c8 bd e1 e2 e3 hen hec ok h hcap
  have hfl : ∀ W', (Instr.field 45 (.agg #[.int .i64 l, .int .i64 W0, .int .i64 H, .int .i64 I, .int .i64 V, .int .i64 P]) 1).run Tryz.prog W' = .ok (.int .i64 W0) W' := fun _ => by kernel_rfl
  go_enter Tryz.func61, Tryz.ntmps61
  go_wp2_with fail
  refine hs.mono ?_
  rintro e wa ⟨rfl, hba⟩
  have c8a := cell_kept6 hba c8'
  have hxa := HX.out.below hba
  have hsz := hba.size
  have c8b := fun o => cell_alloc c8a o
  clear hs c8' c8a
  go_wp2
  go_loopw [27] (fun i wr => ∃ (k : Nat) (cs : List Int), k ≤ W0 ∧ i = .int .i64 k ∧ MineK .i32 wr wa.heap.size 21 cs ∧ Below wa.heap.size wa wr ∧ Hid (FilledBy (fun i => xs.getD i 0 * 16) W0 k cs)) (fun i _ => W0 - (intOf i).toNat)
  case atStart => exact ⟨0, List.replicate W0 0, by omega, rfl, mine_made .i32 wa 21 W0 rfl, (Below.refl _ _).alloc (Nat.le_refl _) _, Lib.hid (filledBy_start _ W0)⟩
  case round =>
    obtain ⟨k, cs, hk, rfl, hmine, hbel, hfil⟩ := hrel
    by_cases hlt : k < W0
    · obtain ⟨b, o2, v, he, hc, hv, wv⟩ := (hxa.below hbel).at_ hlt
      cases he
      obtain ⟨v1, v2⟩ := wf8 wv
      have hl := hfil.out.1
      have hold := hmine.cell (k := k) (by omega)
      have hf := hmine.frozen k
      have hst := Lib.hid (filledBy_step hfil.out hlt)
      simp only [hv.out] at hst
      have hnew := hmine.set k (v * 16)
      have hbS := hbel.setCell (p := ⟨wa.heap.size, k, none⟩) (Nat.le_refl _) (.int .i32 (v * 16))
      generalize cs.getD k 0 = c at hold
      clear hv hl hfil hmine hbel hmk hxa c8b
      go_wp2
      go_roundw
      case rel => exact ⟨k + 1, cs.set k (v * 16), by omega, by go_num, hnew, hbS, hst⟩
      case measure => simp [intOf]; omega
    · obtain rfl : k = W0 := by omega
      have hxl := hxa.1
      have he := filledBy_end (g := (· * 16)) hfil.out hxl (fun i _ => rfl)
      have hE := hmine.elems (n := k) hfil.out.1 (by omega) (by
        rw [he]
        intro c hc
        obtain ⟨x, hx, rfl⟩ := List.mem_map.1 hc
        have := wf8 (hxa.2.2.1 x hx)
        exact WalkArith.wf_i32 ⟨by omega, by omega⟩)
      rw [he] at hE
      have HE2 := Lib.hid hE
      have hB := below_two hba hbel
      clear hxa he hE hmine hfil c8b hxl
      go_wp2
      go_ret
      exact ⟨⟨_, k, rfl, by rw [HOUT.out]; exact HE2.out, Nat.le_refl _, by omega⟩, hB⟩

end Go.Proofs.YtoeihigdndkjeaaGreatDoor

/-
  The second half of a layer.
-/
namespace Go.Proofs.YtoeihigdndkjeaaGreatDoor
open Go.RowKit
set_option linter.unusedVariables false

set_option maxHeartbeats 2000000 in
set_option maxRecDepth 100000 in
theorem gated8 (s : Sz) (ok : s.Ok) (b : Bk7) (hbk : bkB s b = true) (xa : Option Addr) (xcap : Nat) (xs : List Int) (w : World) (hin : b.In w) (hx : Elems .i32 w xa s.w xs) :
    Calls Tryz.prog 62 #[.agg b.cells, .slice xa s.w xcap] w fun e w' => GivesS .i32 s.w (gateO s b.blk xs) e w' ∧ Below w.heap.size w w' := by
  have bd := ok.bd
  obtain ⟨n1, n2, _, _, _, _, m7, m8⟩ := bkB_yes hbk
  obtain ⟨i1, i2, _, _, _, _, i7, i8⟩ := hin
  have HO : Hid (gateO s b.blk xs = joinL 1 4 xs (mv b.d.v ((smallO b.u.v (normO b.y.v xs s.w) s.i s.w).map gate1) s.w s.i) s.w) := Lib.hid rfl
  have w1 : 2 ≤ s.w := bd.2.2.1.1
  have w2 : s.w ≤ 128 := bd.2.2.1.2
  have v2 : s.i ≤ 256 := bd.2.2.2.1.2
  have iy := i2.1
  rw [n2] at iy
  have HN := Lib.hid n2
  have HM7 := Lib.hid m7
  have HM8 := Lib.hid m8
  clear ok bd hbk n1 n2 m7 m8 i1 i2
  go_enter Tryz.func62, Tryz.ntmps62
  go_upto_region 1 with (fail)
  generalize hwa : w.alloc _ = wa
  have X : Box wa w.heap.size 66 b.cells := by rw [← hwa]; exact box_new _ _ _
  have hB : Below w.heap.size w wa := by rw [← hwa]; exact (Below.refl _ _).alloc (Nat.le_refl _) _
  obtain ⟨_, z1, _, _, _, _, _, _, _, _, _, _, _, _, z14, z15, z16, z17, z18, z19⟩ := box_bk X
  rw [HN.out] at z1
  have cN := normed8 b.y.a xa s.w b.y.cap xcap b.y.v xs wa.drew (iy.below hB.drew) (hx.below hB.drew) (by omega) (by omega)
  have I7 := i7.below hB
  have I8 := i8.below hB
  have HX := Lib.hid (hx.below hB)
  have HBa := Lib.hid hB
  clear hwa X hB iy hx i7 i8
  go_region_held3 (fun w' => w'.cell? ⟨w.heap.size, 1, none⟩ = some (.slice b.y.a s.w b.y.cap) ∧ w'.cell? ⟨w.heap.size, 14, none⟩ = some (.int .i64 b.u.r) ∧ w'.cell? ⟨w.heap.size, 15, none⟩ = some (.int .i64 b.u.c) ∧ w'.cell? ⟨w.heap.size, 16, none⟩ = some (.slice b.u.a b.u.n b.u.cap))
    (first | go_keep | (go_split_ands; refine ⟨?_, ?_, ?_, ?_⟩ <;> assumption))
    (first
      | (go_at_call 37; (with_reducible refine cN.mono ?_); rintro e wb ⟨⟨g, c, rfl, hE, hc1, hc2⟩, hb1⟩
         have hb1' : Below wa.heap.size wa wb := ((Below.refl _ wa).drew).trans hb1
         have k1 := cell_kept6 hb1' z1
         have k14 := cell_kept6 hb1' z14
         have k15 := cell_kept6 hb1' z15
         have k16 := cell_kept6 hb1' z16
         have k17 := cell_kept6 hb1' z17
         have k18 := cell_kept6 hb1' z18
         have k19 := cell_kept6 hb1' z19
         have cS := small8 b.u ⟨some ⟨g, 0, none⟩, s.w, c, _⟩ s.i s.w HM7.out rfl (by omega) (by omega) wb (I7.below hb1') (rw_at hE hc1 hc2))
      | (go_at_call 83; (with_reducible refine cS.mono ?_); rintro e wc ⟨⟨g2, c2, rfl, hE2, hd1, hd2⟩, hb2⟩
         have j1 := cell_kept6 hb2 k1
         have j14 := cell_kept6 hb2 k14
         have j15 := cell_kept6 hb2 k15
         have j16 := cell_kept6 hb2 k16
         have j17 := cell_kept6 hb2 k17
         have j18 := cell_kept6 hb2 k18
         have j19 := cell_kept6 hb2 k19
         have cG := gates (some ⟨g2, 0, none⟩) s.i c2 _ wc hE2 (by omega))
      | (go_at_call 82; (with_reducible refine cG.mono ?_); rintro e wd ⟨rfl, hE3, hb3⟩
         have l1 := cell_kept6 hb3 j1
         have l14 := cell_kept6 hb3 j14
         have l15 := cell_kept6 hb3 j15
         have l16 := cell_kept6 hb3 j16
         have l17 := cell_kept6 hb3 j17
         have l18 := cell_kept6 hb3 j18
         have l19 := cell_kept6 hb3 j19))
  have hB4 : Below wa.heap.size wa wd := below_two (below_two hb1' hb2) hb3
  have hB5 := below_two HBa.out hB4
  have cP := product8 b.d ⟨some ⟨wc.heap.size, 0, none⟩, s.i, s.i, _⟩ s.w s.i HM8.out rfl (by omega) (by omega) wd (I8.below hB4) (rw_at hE3 (Nat.le_refl _) (by omega))
  have HXd := Lib.hid (HX.out.below hB4)
  clear cN cS cG hE hE2 hE3 hb1 hb1' hb2 hb3 hB4 I7 I8 HX HBa k1 k14 k15 k16 k17 k18 k19 j1 j14 j15 j16 j17 j18 j19 l1 l14 l15 l16 z1 z14 z15 z16 z17 z18 z19 hc1 hc2 hd1 hd2
  go_wp2_with fail
  refine cP.mono ?_
  rintro e we ⟨⟨g4, c4, rfl, hE4, _, _⟩, hb4⟩
  have hB6 := below_two hB5 hb4
  have cJ := joined8 xa (some ⟨g4, 0, none⟩) s.w xcap c4 xs _ we (HXd.out.below hb4) hE4 (by omega)
  clear cP hE4 hb4 hB5 HXd
  go_wp2_with fail
  refine cJ.mono ?_
  rintro e wf ⟨⟨g5, c5, rfl, hE5, q1, q2⟩, hb5⟩
  have hB7 := below_two hB6 hb5
  have HE5 := Lib.hid hE5
  clear cJ hB6 hb5 hE5
  go_wp2
  go_ret
  exact ⟨⟨g5, c5, rfl, by rw [HO.out]; exact HE5.out, q1, q2⟩, hB7⟩

end Go.Proofs.YtoeihigdndkjeaaGreatDoor
