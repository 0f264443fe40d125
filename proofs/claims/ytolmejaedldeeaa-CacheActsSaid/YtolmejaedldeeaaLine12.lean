/-
  The code's store: Get, Line.
-/
import Derived.Test.YtolmejaedldeeaaPut12
import Derived.Test.YtolmejaedldeeaaValRows
namespace Go.Proofs.Ytolmejaedldeeaa
open Go.RowKit Go.Maps
set_option linter.unusedVariables false

def keysE (L : List Ent) (r l p : Int) : List Int := match findE L r l p with | some x => x.k | none => []
def valsE (L : List Ent) (r l p : Int) : List Int := match findE L r l p with | some x => x.v | none => []
theorem FitE.get' {w : World} {L : List Ent} {F : Lit → Option Value} (h : FitE w L F) (hg : GoodE L) {r l p : Int} (hr : w64 r) (hl : w64 l) (hp : w64 p) :
    ∃ k v : Rw, (F (keyT r l p)).getD kv0 = kvR k v ∧ (F (keyT r l p)).isSome = hasE L r l p ∧ k.In .i8 w ∧ v.In .i8 w ∧ k.v = keysE L r l p ∧ v.v = valsE L r l p ∧ k.n ≤ 65536 ∧ v.n ≤ 65536 := by
  have hnil : Rw.In .i8 w ⟨none, 0, 0, []⟩ := ⟨Elems.nil_ _ _ _, Nat.le_refl _, by simp, ⟨(fun _ => rfl), (fun x hx => by cases hx)⟩⟩
  obtain ⟨k, v, h1, h2, h3⟩ := h.get hr hl hp
  refine ⟨k, v, h1, h2, ?_⟩
  rcases h3 with ⟨x, hx, rfl, rfl, rfl, hR⟩ | ⟨hn, rfl, rfl⟩
  · have hf := hg.find hx
    refine ⟨hR.1, hR.2.1, ?_, ?_, hR.2.2.2.2⟩
    · rw [hR.2.2.1]; unfold keysE; rw [hf]
    · rw [hR.2.2.2.1]; unfold valsE; rw [hf]
  · have hf : findE L r l p = none := by
      cases hf : findE L r l p with
      | none => rfl
      | some y => obtain ⟨h1, h2⟩ := findE_some hf; exact absurd h2 (hasE_no.1 hn y h1)
    refine ⟨hnil, hnil, ?_, ?_, by simp, by simp⟩
    · unfold keysE; rw [hf]
    · unfold valsE; rw [hf]

/-- what Get answers: copies -/
def GetR (L : List Ent) (r l p : Int) (w : World) (e : Ending) (w' : World) : Prop :=
  (∃ g h : Rw, e = .returned (.tuple #[.slice g.a g.n g.cap, .slice h.a h.n h.cap, .bool (hasE L r l p)]) ∧ g.In .i8 w' ∧ h.In .i8 w' ∧ g.v = keysE L r l p ∧ h.v = valsE L r l p ∧ (∀ x, g.a = some x → w.heap.size ≤ x.block) ∧ (∀ x, h.a = some x → w.heap.size ≤ x.block) ∧ (∀ x y, g.a = some x → h.a = some y → 0 < g.n → x.block ≠ y.block) ∧ ThA w' g.a ∧ ThA w' h.a) ∧ Below w.heap.size w w'

set_option maxHeartbeats 800000 in
set_option maxRecDepth 100000 in
theorem get12 {w : World} {sb mb room : Nat} {L : List Ent} (hS : StoreAt w sb mb room L) {r l p : Int} (hr : w64 r) (hl : w64 l) (hp : w64 p) :
    Calls Try.prog 14 #[.pointer (some ⟨sb, 0, none⟩), spotV r l p] w fun e w' => GetR L r l p w e w' := by
  obtain ⟨F, hM, hF⟩ := hS.map
  obtain ⟨k0, v0, hg, hhas, i1, i2, e1, e2, n1, n2⟩ := hF.get' hS.good hr hl hp
  have HK := Lib.hid (keyT_mk hr hl hp)
  have HG := Lib.hid hg
  have HH := Lib.hid hhas
  have HM := Lib.hid hM
  have HX := Lib.hid hS.box
  have HI := Lib.hid (And.intro i1 (And.intro i2 (And.intro e1 e2)))
  have HN := Lib.hid (And.intro n1 n2)
  have hlt := hS.lt.1
  have hal : ∀ o, Below w.heap.size w (w.alloc o) := fun o => (Below.refl _ _).alloc (Nat.le_refl _) o
  have c1' : ∀ o, (w.alloc o).cell? ⟨sb, 1, none⟩ = some (.map (some mb)) := fun o => (HX.out.alloc o).cell 1
  have c2' : ∀ o o', ((w.alloc o).alloc o').cell? ⟨sb, 1, none⟩ = some (.map (some mb)) := fun o o' => ((HX.out.alloc o).alloc o').cell 1
  have hlk : ∀ W, MapAt W 33 mb L.length F → (Instr.lookup 58 (.map (some mb)) (.agg #[.int .i64 r, .int .i64 l, .int .i64 p]) true).run Try.prog W = .ok (.tuple #[.agg #[.slice k0.a k0.n k0.cap, .slice v0.a v0.n v0.cap], .bool (hasE L r l p)]) W := fun W hW =>
    hW.look spot12_law Try.underlying58 (zero_kept12 _) HK.out HG.out HH.out
  have hlk1 := fun o => hlk _ (HM.out.alloc o).drew
  have hlk2 := fun o o' => hlk _ ((HM.out.alloc o).alloc o').drew
  clear hlk hS hM hF hg hhas i1 i2 e1 e2 n1 n2 hr hl hp
  unfold spotV
  go_enter Try.func14, Try.ntmps14
  go_upto_region 1 with (fail)
  go_region
  generalize hwa : World.drew _ = wa
  have Y : Box wa (w.heap.size + 1) 63 #[.slice k0.a k0.n k0.cap, .slice v0.a v0.n v0.cap] := by rw [← hwa]; exact (box_at (by simp) _ _).drew
  have hB : Below w.heap.size w wa := by rw [← hwa]; exact ((hal _).alloc (by simp) _).drew
  have HY := Lib.hid Y
  have HB := Lib.hid hB
  have hD0 : Below wa.heap.size wa wa.drew := (Below.refl _ _).drew
  have HD := Lib.hid hD0
  have y0 : wa.cell? ⟨w.heap.size + 1, 0, none⟩ = some (.slice k0.a k0.n k0.cap) := Y.cell 0
  have y1 : wa.cell? ⟨w.heap.size + 1, 1, none⟩ = some (.slice v0.a v0.n v0.cap) := Y.cell 1
  have cA := clone8T k0 wa.drew (HI.out.1.below (below_two hB hD0)) HN.out.1
  have cB := fun W (hW : Below w.heap.size w W) => clone8T v0 W (HI.out.2.1.below hW) HN.out.2
  clear hwa Y hB hlk1 hlk2 c1' c2' hal hD0
  go_wp2_with fail
  go_region_held3 (fun w' => w'.cell? ⟨w.heap.size + 1, 0, none⟩ = some (.slice k0.a k0.n k0.cap) ∧ w'.cell? ⟨w.heap.size + 1, 1, none⟩ = some (.slice v0.a v0.n v0.cap))
    (first | go_keep | (go_split_ands; refine ⟨?_, ?_⟩ <;> assumption))
    (first
      | (go_at_call 24; (with_reducible refine cA.mono ?_); rintro e w1 ⟨⟨⟨g, rfl, hgi, hgv, hgn, hga⟩, hb1⟩, htg⟩
         have HTG := Lib.hid (htg g rfl)
         have HB0 := Lib.hid (below_two HD.out hb1)
         have HG1 := Lib.hid (And.intro hgi (And.intro hgv (And.intro hgn hga)))
         have HB1 := Lib.hid (below_two HB.out HB0.out)
         have HX1 := Lib.hid (Box.bel HY.out HB0.out)
         have t0 : w1.cell? ⟨w.heap.size + 1, 0, none⟩ = some (.slice k0.a k0.n k0.cap) := HX1.out.cell 0
         have t1 : w1.cell? ⟨w.heap.size + 1, 1, none⟩ = some (.slice v0.a v0.n v0.cap) := HX1.out.cell 1
         clear hgi hgv hgn hga hb1 htg)
      | (go_at_call 24; (with_reducible refine (cB _ ?h9).mono ?_); (case h9 => exact HB1.out); rintro e w2 ⟨⟨⟨h, rfl, hhi, hhv, hhn, hha⟩, hb2⟩, hth⟩
         have HTH := Lib.hid (And.intro (HTG.out.bel hb2) (hth h rfl))
         have HH1 := Lib.hid (And.intro hhi (And.intro hhv (And.intro hhn hha)))
         have HG2 := Lib.hid (HG1.out.1.below hb2)
         have HNE : Hid (∀ x y, g.a = some x → h.a = some y → 0 < g.n → x.block ≠ y.block) := Lib.hid (fun x y hx hy h0 e => by
           obtain ⟨b, off, ha, hc⟩ := HG1.out.1.1.2.2.2 h0
           rw [ha] at hx
           cases hx
           have h1 := World.block_lt_of_cell? _ _ (hc 0 h0)
           have h2 := hha y hy
           simp only at e h1
           omega)
         have HB2 := Lib.hid (below_two HB1.out hb2)
         have HX2 := Lib.hid (Box.bel HX1.out hb2)
         have u0 : w2.cell? ⟨w.heap.size + 1, 0, none⟩ = some (.slice k0.a k0.n k0.cap) := HX2.out.cell 0
         have u1 : w2.cell? ⟨w.heap.size + 1, 1, none⟩ = some (.slice v0.a v0.n v0.cap) := HX2.out.cell 1
         clear hhi hhv hhn hha hb2 hth))
  go_wp2_with fail
  exact bodyPost_ret (v := .tuple #[.slice g.a g.n g.cap, .slice h.a h.n h.cap, .bool (hasE L r l p)]) (by simp [results, Try.results14, go_sem]) rfl
    ⟨⟨g, h, rfl, HG2.out, HH1.out.1, HG1.out.2.1.trans HI.out.2.2.1, HH1.out.2.1.trans HI.out.2.2.2, fun x hx => Nat.le_trans HB.out.size (HG1.out.2.2.2 x hx), fun x hx => Nat.le_trans HB1.out.size (HH1.out.2.2.2 x hx), HNE.out, HTH.out.1, HTH.out.2⟩, HB2.out⟩

/-- what Line answers: copies of the line's rows -/
def LineR (L : List Ent) (r l : Int) (w : World) (e : Ending) (w' : World) : Prop :=
  (∃ (n : Nat) (a b : Option Addr) (c d : Nat) (ks vs : List Rw), e = .returned (.tuple #[.slice a n c, .slice b n d]) ∧ LineN L r l n ∧ n ≤ L.length ∧ Rws .i8 w' a n ks ∧ Rws .i8 w' b n vs ∧
    (∀ p : Nat, p < n → (ks.getD p default).v = keysE L r l p ∧ (vs.getD p default).v = valsE L r l p) ∧ (∀ q ∈ ks, ∀ x, q.a = some x → w.heap.size ≤ x.block) ∧ (∀ q ∈ vs, ∀ x, q.a = some x → w.heap.size ≤ x.block) ∧ ∀ q ∈ ks, 0 < q.n → ThA w' q.a) ∧ Below w.heap.size w w'
/-- a row in a block of its own, apart from two others' -/
def FarR (base : Nat) (va vb : Value) (wr : World) (q : Rw) : Prop :=
  q.In .i8 wr ∧ (∀ x, q.a = some x → base ≤ x.block) ∧ (∀ x, q.a = some x → 0 < q.n → va.ownBlock ≠ some x.block ∧ vb.ownBlock ≠ some x.block) ∧ (0 < q.n → ThA wr q.a)
theorem FarR.symm {base : Nat} {va vb : Value} {wr : World} {q : Rw} (h : FarR base va vb wr q) : FarR base vb va wr q := ⟨h.1, h.2.1, fun x hx h0 => (h.2.2.1 x hx h0).symm, h.2.2.2⟩
theorem Rw.In.lt {w : World} {q : Rw} {kd : IntKind} (h : q.In kd w) {x : Addr} (hx : q.a = some x) (h0 : 0 < q.n) : x.block < w.heap.size := by
  obtain ⟨b, off, ha, hc⟩ := h.1.2.2.2 h0
  rw [ha] at hx
  cases hx
  exact World.block_lt_of_cell? _ _ (hc 0 h0)
theorem FarR.next {base g n cap : Nat} {va vb : Value} {wr w' : World} {q : Rw} (h : FarR base va vb wr q) (hg : wr.grownBy w' va.ownBlock) (hv : va.ownBlock = some g ∨ g = wr.heap.size + 1) : FarR base (.slice (some ⟨g, 0, none⟩) n cap) vb w' q := by
  refine ⟨rw_grown (b := 0) h.1 hg (fun x hx h0 e => (h.2.2.1 x hx h0).1 e.symm), h.2.1, fun x hx h0 => ⟨fun e => ?_, (h.2.2.1 x hx h0).2⟩, fun h0 x hx => let ⟨c, hc⟩ := h.2.2.2 h0 x hx; ⟨c, hc.kept hg (fun e => (h.2.2.1 x hx h0).1 e.symm)⟩⟩
  have e1 : g = x.block := by simpa [Value.ownBlock] using e
  rcases hv with hv | hv
  · exact (h.2.2.1 x hx h0).1 (by rw [hv, e1])
  · have := h.1.lt hx h0
    omega
theorem FarR.bel {base : Nat} {va vb : Value} {wr w' : World} {q : Rw} (h : FarR base va vb wr q) (hb : Below wr.heap.size wr w') : FarR base va vb w' q := ⟨h.1.below hb, h.2.1, h.2.2.1, fun h0 => (h.2.2.2 h0).bel hb⟩
theorem FarR.kept {base B : Nat} {va vb : Value} {wr w' : World} {q : Rw} (h : FarR base va vb wr q) (hg : wr.grownBy w' (some B)) (hB : B < base) : FarR base va vb w' q :=
  ⟨rw_grown (b := 0) h.1 hg (fun x hx h0 e => by have := h.2.1 x hx; cases e; omega), h.2.1, h.2.2.1, fun h0 x hx => let ⟨c, hc⟩ := h.2.2.2 h0 x hx; ⟨c, hc.kept hg (fun e => by have := h.2.1 x hx; cases e; omega)⟩⟩
/-- the loop of Line, n places through -/
structure LineI (w0 : World) (L : List Ent) (r l : Int) (n : Nat) (va vb : Value) (g h : Rw) (ks vs : List Rw) (wr : World) : Prop where
  bel : Below w0.heap.size w0 wr
  box : Box wr w0.heap.size 33 #[.int .i64 r, .int .i64 l, .int .i64 n]
  two : TwoV (w0.heap.size + 1) 34 34 va vb n n (rvals ks) (rvals vs) wr
  there : ∀ p : Nat, p < n → hasE L r l p = true
  gk : g.v = keysE L r l n
  hk : h.v = valsE L r l n
  far : ∀ q, q = g ∨ q = h ∨ q ∈ ks ∨ q ∈ vs → FarR (w0.heap.size + 1) va vb wr q
  val : ∀ p : Nat, p < n → (ks.getD p default).v = keysE L r l p ∧ (vs.getD p default).v = valsE L r l p
theorem getD_snoc {α : Type} [Inhabited α] (xs : List α) (x : α) (p : Nat) : (xs ++ [x]).getD p default = if p < xs.length then xs.getD p default else if p = xs.length then x else default := by
  simp only [List.getD_eq_getElem?_getD]
  split
  · rw [List.getElem?_append_left ‹_›]
  · split
    · subst p; simp
    · rw [List.getElem?_eq_none (by simp; omega)]; rfl
theorem LineI.lens {w0 : World} {L : List Ent} {r l : Int} {n : Nat} {va vb : Value} {g h : Rw} {ks vs : List Rw} {wr : World} (hI : LineI w0 L r l n va vb g h ks vs wr) : ks.length = n ∧ vs.length = n :=
  ⟨by have := hI.two.a.1; simpa [rvals] using this, by have := hI.two.b.1; simpa [rvals] using this⟩
theorem LineI.out {w0 : World} {L : List Ent} {r l : Int} {n : Nat} {a b : Option Addr} {c d : Nat} {g h : Rw} {ks vs : List Rw} {wr : World} (hI : LineI w0 L r l n (.slice a n c) (.slice b n d) g h ks vs wr) (hh : hasE L r l n = false) (hL : L.length ≤ 1048576) :
    LineR L r l w0 (.returned (.tuple #[.slice a n c, .slice b n d])) wr := by
  have hn := line_le hI.there
  exact ⟨⟨n, a, b, c, d, ks, vs, rfl, ⟨hI.there, hh⟩, hn, rws_of hI.two.a (by omega) (fun q hq => (hI.far q (.inr (.inr (.inl hq)))).1), rws_of hI.two.b (by omega) (fun q hq => (hI.far q (.inr (.inr (.inr hq)))).1), hI.val,
    fun q hq x hx => Nat.le_trans (Nat.le_succ _) ((hI.far q (.inr (.inr (.inl hq)))).2.1 x hx), fun q hq x hx => Nat.le_trans (Nat.le_succ _) ((hI.far q (.inr (.inr (.inr hq)))).2.1 x hx), fun q hq => (hI.far q (.inr (.inr (.inl hq)))).2.2.2⟩, hI.bel⟩
/-- a place further: both rows appended, the place stepped, the next one asked for -/
theorem LineI.step {w0 : World} {L : List Ent} {r l : Int} {n g1 c1 g2 c2 : Nat} {va vb : Value} {g h g' h' : Rw} {ks vs : List Rw} {wr w1 w2 w3 w4 : World} (hI : LineI w0 L r l n va vb g h ks vs wr) (hh : hasE L r l n = true)
    (ht : TwoV (w0.heap.size + 1) 34 34 (.slice (some ⟨g1, 0, none⟩) (n + 1) c1) (.slice (some ⟨g2, 0, none⟩) (n + 1) c2) (n + 1) (n + 1) (rvals ks ++ [.slice g.a g.n g.cap]) (rvals vs ++ [.slice h.a h.n h.cap]) w2)
    (h1 : wr.grownBy w1 va.ownBlock) (e1 : va.ownBlock = some g1 ∨ g1 = wr.heap.size + 1) (h2 : w1.grownBy w2 vb.ownBlock) (e2 : vb.ownBlock = some g2 ∨ g2 = w1.heap.size + 1)
    (h3 : w3 = w2.setCell ⟨w0.heap.size, 2, none⟩ (.int .i64 ((n + 1 : Nat) : Int))) (hb : Below w3.heap.size w3 w4) (hg' : g'.In .i8 w4 ∧ g'.v = keysE L r l (n + 1 : Nat) ∧ (∀ x, g'.a = some x → w3.heap.size ≤ x.block) ∧ ThA w4 g'.a) (hh' : h'.In .i8 w4 ∧ h'.v = valsE L r l (n + 1 : Nat) ∧ (∀ x, h'.a = some x → w3.heap.size ≤ x.block) ∧ ThA w4 h'.a) :
    LineI w0 L r l (n + 1) (.slice (some ⟨g1, 0, none⟩) (n + 1) c1) (.slice (some ⟨g2, 0, none⟩) (n + 1) c2) g' h' (ks ++ [g]) (vs ++ [h]) w4 := by
  have hl := hI.lens
  have hx2 : Box w2 w0.heap.size 33 #[.int .i64 r, .int .i64 l, .int .i64 n] := by
    refine (hI.box.kept h1 (fun e => ?_)).kept h2 (fun e => ?_)
    · have := (hI.two.a.lt _ e.symm).1; omega
    · have := (hI.two.b.lt _ e.symm).1; omega
  have hx3 : Box w3 w0.heap.size 33 #[.int .i64 r, .int .i64 l, .int .i64 (n + 1 : Nat)] := by rw [h3]; exact hx2.set 2 _
  have hg3 : w2.grownBy w3 (some w0.heap.size) := by rw [h3]; exact ⟨rfl, rfl, rfl, by simp, fun i hi hne => by rw [heap_setCell_other w2 ⟨w0.heap.size, 2, none⟩ i _ (fun e => hne (by rw [e]))]⟩
  have hsz : wr.heap.size ≤ w3.heap.size := Nat.le_trans h1.size (Nat.le_trans h2.size hg3.size)
  have hB : Below w0.heap.size w0 w2 := (hI.bel.grown h1 (by have := hI.bel.size; omega) (fun k hk => by have := (hI.two.a.lt k hk).1; omega)).grown h2 (by have := hI.bel.size; have := h1.size; omega) (fun k hk => by have := (hI.two.b.lt k hk).1; omega)
  have hB3 : Below w0.heap.size w0 w3 := hB.grown hg3 hB.size (fun k hk => by cases hk; exact Nat.le_refl _)
  have hlt3 : w0.heap.size + 1 ≤ w3.heap.size := hx3.lt
  have hown : ∀ (g cap m : Nat) (v : Value), (Value.slice (some ⟨g, 0, none⟩) m cap).ownBlock = some g := fun _ _ _ _ => rfl
  have la := ht.a.lt g1 rfl
  have lb := ht.b.lt g2 rfl
  have hs23 := hg3.size
  have newF : ∀ q : Rw, q.In .i8 w4 → (∀ x, q.a = some x → w3.heap.size ≤ x.block) ∧ ThA w4 q.a → FarR (w0.heap.size + 1) (.slice (some ⟨g1, 0, none⟩) (n + 1) c1) (.slice (some ⟨g2, 0, none⟩) (n + 1) c2) w4 q := fun q hq hx => by
    refine ⟨hq, fun x e => Nat.le_trans hlt3 (hx.1 x e), fun x e _ => ⟨fun e2 => ?_, fun e2 => ?_⟩, fun _ => hx.2⟩
    · have e3 : g1 = x.block := by simpa [Value.ownBlock] using e2
      have := hx.1 x e; omega
    · have e3 : g2 = x.block := by simpa [Value.ownBlock] using e2
      have := hx.1 x e; omega
  refine ⟨hB3.trans (hb.mono hB3.size), hx3.bel hb, ?_, fun p hp => ?_, hg'.2.1, hh'.2.1, fun q hq => ?_, fun p hp => ?_⟩
  · have := (ht.kept hg3 (Nat.lt_succ_self _)).bel hb
    simpa [rvals] using this
  · rcases Nat.lt_succ_iff_lt_or_eq.1 hp with h1 | h1
    · exact hI.there p h1
    · rw [h1]; exact hh
  · have old : (q = g ∨ q = h ∨ q ∈ ks ∨ q ∈ vs) → FarR (w0.heap.size + 1) (.slice (some ⟨g1, 0, none⟩) (n + 1) c1) (.slice (some ⟨g2, 0, none⟩) (n + 1) c2) w4 q := fun ho =>
      (((((hI.far q ho).next (n := n + 1) (cap := c1) h1 e1).symm.next (n := n + 1) (cap := c2) h2 e2).symm).kept hg3 (Nat.lt_succ_self _)).bel hb
    rcases hq with rfl | rfl | hq | hq
    · exact newF _ hg'.1 hg'.2.2
    · exact newF _ hh'.1 hh'.2.2
    · rcases List.mem_append.1 hq with hq | hq
      · exact old (.inr (.inr (.inl hq)))
      · rw [List.mem_singleton] at hq; exact old (.inl hq)
    · rcases List.mem_append.1 hq with hq | hq
      · exact old (.inr (.inr (.inr hq)))
      · rw [List.mem_singleton] at hq; exact old (.inr (.inl hq))
  · rw [getD_snoc, getD_snoc, hl.1, hl.2]
    by_cases hpn : p < n
    · rw [if_pos hpn, if_pos hpn]; exact hI.val p hpn
    · obtain rfl : p = n := by omega
      rw [if_neg hpn, if_pos rfl, if_neg hpn, if_pos rfl]; exact ⟨hI.gk, hI.hk⟩

set_option maxHeartbeats 1600000 in
set_option maxRecDepth 100000 in
theorem line12 {w : World} {sb mb room : Nat} {L : List Ent} (hS : StoreAt w sb mb room L) {r l : Int} (hr : w64 r) (hl : w64 l) :
    Calls Try.prog 21 #[.pointer (some ⟨sb, 0, none⟩), .int .i64 r, .int .i64 l] w fun e w' => LineR L r l w e w' := by
  have hrm := hS.room
  have h00 : w64 ((0 : Nat) : Int) := w64_bd.2 (by omega)
  have cG := fun W (hW : StoreAt W sb mb room L) (p : Int) (hp : w64 p) => get12 hW hr hl hp
  have HS := Lib.hid hS
  have HW := Lib.hid (And.intro hr hl)
  have HRM := Lib.hid hrm
  have cG0 := fun o => cG (w.alloc o) (hS.bel ((Below.refl _ _).alloc (Nat.le_refl _) _)) 0 h00
  unfold spotV at cG cG0
  clear hS hr hl hrm h00
  go_enter Try.func21, Try.ntmps21
  go_wp2_with (refine (cG0 _).mono ?_)
  rintro e wa ⟨⟨g, h, rfl, hgi, hhi, hgv, hhv, hga, hha, -, htg, hth⟩, hb⟩
  have hI : LineI w L r l 0 (.slice none 0 0) (.slice none 0 0) g h [] [] wa := by
    have hB : Below w.heap.size w wa := ((Below.refl _ _).alloc (Nat.le_refl _) _).trans (hb.mono (by simp))
    have hX : Box wa w.heap.size 33 #[.int .i64 r, .int .i64 l, .int .i64 0] := (box_new w _ _).bel hb
    refine ⟨hB, hX, ⟨hX.lt, own_nil _ _ _, own_nil _ _ _, fun x hx => by simp [Value.ownBlock] at hx⟩, fun p hp => by omega, hgv, hhv, fun q hq => ?_, fun p hp => by omega⟩
    rcases hq with rfl | rfl | hq | hq
    · exact ⟨hgi, fun x hx => by have := hga x hx; simp at this; omega, fun x hx _ => by simp [Value.ownBlock], fun _ => htg⟩
    · exact ⟨hhi, fun x hx => by have := hha x hx; simp at this; omega, fun x hx _ => by simp [Value.ownBlock], fun _ => hth⟩
    · cases hq
    · cases hq
  have HI := Lib.hid hI
  clear hgi hhi hgv hhv hga hha htg hth hb hI cG0
  go_wp2_with fail
  go_loopw [6, 7, 9, 10, 11] (fun va vb gv hv okv wr => ∃ (n : Nat) (a b : Option Addr) (c d : Nat) (ga ha : Option Addr) (gn hn gc hc : Nat) (gl hl : List Int) (ks vs : List Rw), va = .slice a n c ∧ vb = .slice b n d ∧ gv = .slice ga gn gc ∧ hv = .slice ha hn hc ∧ okv = .bool (hasE L r l n) ∧
      Hid (LineI w L r l n (.slice a n c) (.slice b n d) ⟨ga, gn, gc, gl⟩ ⟨ha, hn, hc, hl⟩ ks vs wr)) (fun va _ _ _ _ _ => L.length + 1 - (match va with | .slice _ n _ => n | _ => 0))
  case atStart => exact ⟨0, none, none, 0, 0, g.a, h.a, g.n, h.n, g.cap, h.cap, g.v, h.v, [], [], rfl, rfl, rfl, rfl, rfl, HI⟩
  case round =>
    obtain ⟨n, a, b, c, d, ga, ha, gn, hn, gc, hc, gl, hl, ks, vs, rfl, rfl, rfl, rfl, rfl, HL⟩ := hrel
    clear HI
    cases hh : hasE L r l n with
    | false =>
      have hfin : Hid (LineR L r l w (.returned (.tuple #[.slice a n c, .slice b n d])) wr) := Lib.hid (HL.out.out hh (Nat.le_trans HRM.out.1 HRM.out.2))
      clear hh
      go_wp2
      exact bodyPost_ret (v := .tuple #[.slice a n c, .slice b n d]) (by simp [results, Try.results21, go_sem]) rfl hfin.out
    | true =>
      have HH := Lib.hid hh
      have hle : n + 1 ≤ L.length := line_le (fun p hp => by
        rcases Nat.lt_succ_iff_lt_or_eq.1 hp with h1 | h1
        · exact HL.out.there p h1
        · rw [h1]; exact hh)
      have HLE : Hid (n + 1 ≤ L.length ∧ L.length ≤ 1048576) := Lib.hid ⟨hle, Nat.le_trans HRM.out.1 HRM.out.2⟩
      clear hh hle
      obtain ⟨g1, c1, w1, hr1, ht1, hg1, he1⟩ := HL.out.two.next2 54 _ 24 Try.underlying54 info_slice8 rfl (by omega) (by have := HLE.out; omega) (.slice ga gn gc) rfl
      obtain ⟨g2, c2, w2, hr2, ht2, hg2, he2⟩ := ht1.symm.next2 54 _ 24 Try.underlying54 info_slice8 rfl (by omega) (by have := HLE.out; omega) (.slice ha hn hc) rfl
      have HT := Lib.hid (And.intro ht2.symm (And.intro hg1 (And.intro he1 (And.intro hg2 he2))))
      have hX2 : Box w2 w.heap.size 33 #[.int .i64 r, .int .i64 l, .int .i64 n] := by
        refine (HL.out.box.kept hg1 (fun e => ?_)).kept hg2 (fun e => ?_)
        · have := (HL.out.two.a.lt _ e.symm).1; omega
        · have := (HL.out.two.b.lt _ e.symm).1; omega
      have hB : Below w.heap.size w w2 := (HL.out.bel.grown hg1 (by have := HL.out.bel.size; omega) (fun k hk => by have := (HL.out.two.a.lt k hk).1; omega)).grown hg2 (by have := HL.out.bel.size; have := hg1.size; omega) (fun k hk => by have := (HL.out.two.b.lt k hk).1; omega)
      have x0 : w2.cell? ⟨w.heap.size, 2, none⟩ = some (.int .i64 n) := hX2.cell 2
      have xf : w2.frozen? ⟨w.heap.size, 2, none⟩ = false := hX2.frozen 2
      have hwr : IntKind.i64.wrap ((n : Int) + 1) = ((n + 1 : Nat) : Int) := by rw [IntWalk.i64_in _ (by have := HLE.out; omega)]; rfl
      have HX2 := Lib.hid hX2
      have HB := Lib.hid hB
      clear ht1 ht2 hg1 he1 hg2 he2 hX2 hB
      go_upto_region 6 with (first | (at_builtin; (with_reducible refine wpList_append_run ?_ (.tmp 30) (.tmp 32) 54 ?_ _ _ ?_ ?_ hr1 ?_); rfl; rfl; rfl; rfl) | (at_builtin; (with_reducible refine wpList_append_run ?_ (.tmp 34) (.tmp 36) 54 ?_ _ _ ?_ ?_ hr2 ?_); rfl; rfl; rfl; rfl))
      go_upto_region 4 with (fail)
      generalize hw3 : World.setCell w2 _ _ = w3
      have hg3 : w2.grownBy w3 (some w.heap.size) := by rw [← hw3]; exact ⟨rfl, rfl, rfl, by simp, fun i hi hne => by rw [heap_setCell_other w2 ⟨w.heap.size, 2, none⟩ i _ (fun e => hne (by rw [e]))]⟩
      have hX3 : Box w3 w.heap.size 33 #[.int .i64 r, .int .i64 l, .int .i64 ((n : Int) + 1)] := by rw [← hw3]; exact HX2.out.set 2 _
      have hB3 : Below w.heap.size w w3 := HB.out.grown hg3 HB.out.size (fun k hk => by cases hk; exact Nat.le_refl _)
      have z0 : w3.cell? ⟨w.heap.size, 0, none⟩ = some (.int .i64 r) := hX3.cell 0
      have z1 : w3.cell? ⟨w.heap.size, 1, none⟩ = some (.int .i64 l) := hX3.cell 1
      have z2 : w3.cell? ⟨w.heap.size, 2, none⟩ = some (.int .i64 ((n : Int) + 1)) := hX3.cell 2
      have cN := cG w3 (HS.out.bel hB3) ((n : Int) + 1) (w64_bd.2 (by have := HLE.out; omega))
      have HW3 := Lib.hid hw3
      clear hg3 hX3 hB3 hw3 x0 xf hwr
      go_wp2_with (refine cN.mono ?_)
      rintro e w4 ⟨⟨g', h', rfl, hgi, hhi, hgv, hhv, hga, hha, -, htg, hth⟩, hb⟩
      have HN : Hid (LineI w L r l (n + 1) (.slice (some ⟨g1, 0, none⟩) (n + 1) c1) (.slice (some ⟨g2, 0, none⟩) (n + 1) c2) g' h' (ks ++ [⟨ga, gn, gc, gl⟩]) (vs ++ [⟨ha, hn, hc, hl⟩]) w4) :=
        Lib.hid (HL.out.step HH.out HT.out.1 HT.out.2.1 HT.out.2.2.1 HT.out.2.2.2.1 HT.out.2.2.2.2 HW3.out.symm hb ⟨hgi, hgv, hga, htg⟩ ⟨hhi, hhv, hha, hth⟩)
      clear hgi hhi hgv hhv hga hha htg hth hb z0 z1 z2 cN
      go_wp2
      go_roundw
      case rel => exact ⟨n + 1, some ⟨g1, 0, none⟩, some ⟨g2, 0, none⟩, c1, c2, g'.a, h'.a, g'.n, h'.n, g'.cap, h'.cap, g'.v, h'.v, _, _, rfl, rfl, rfl, rfl, rfl, HN⟩
      case measure => have := HLE.out; simp; omega

end Go.Proofs.Ytolmejaedldeeaa
