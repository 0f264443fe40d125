import Derived.Test.YtoeihigdndkjeaaGreatDoorJ11
import Derived.Test.YtoeihigdndkjeaaGreatDoorP20
import Derived.Test.YtoeihigdndkjeaaGreatDoorJ16
/-
  The document's run as it stands: what it keeps of each place; an append of a place, of a layer's row.
-/
namespace Go.Proofs.YtoeihigdndkjeaaGreatDoor
open Go.RowKit Go.Shelf
set_option linter.unusedVariables false

/-- the value of a row -/
abbrev rwv (q : Rw) : Value := .slice q.a q.n q.cap
section
variable {w w' : World} {g n base : Nat} {X T : TypeId} {q : Rw} {v : Value}
theorem elems_blk {k : IntKind} {a : Option Addr} {xs : List Int} (h : Elems k w a n xs) (hk : ∀ x, a = some x → w'.heap[x.block]? = w.heap[x.block]?) : Elems k w' a n xs :=
  ⟨h.1, h.2.1, h.2.2.1, fun hn => let ⟨b, off, ha, hc⟩ := h.2.2.2 hn; ⟨b, off, ha, fun i hi => (World.cell?_of_block (w := w) (a := ⟨b, off + i, none⟩) (show w'.heap[b]? = w.heap[b]? from hk ⟨b, off, none⟩ ha)).trans (hc i hi)⟩⟩
theorem IsT.blk (h : IsT w g X) (hk : w'.heap[g]? = w.heap[g]?) : IsT w' g X := let ⟨c, f, e⟩ := h; ⟨c, f, hk.trans e⟩
theorem IsT.bel (h : IsT w g X) (hb : Below w.heap.size w w') : IsT w' g X := h.blk (hb.block _ h.lt)
theorem RowT.blk (h : RowT w q) (hk : ∀ x, q.a = some x → w'.heap[x.block]? = w.heap[x.block]?) : RowT w' q :=
  ⟨⟨elems_blk h.1.1 hk, h.1.2⟩, fun x hx => (h.2 x hx).blk (hk x hx)⟩
theorem RowT.bel (h : RowT w q) (hb : Below w.heap.size w w') : RowT w' q := h.blk fun x hx => hb.block _ (h.2 x hx).lt
theorem RowT.but (h : RowT w q) (hk : But g w w') (hX : IsT w g X) (hne : 64 ≠ X) : RowT w' q := h.blk fun x hx => hk _ (h.2 x hx).lt ((h.2 x hx).ne hX hne)
theorem own_blk {sz : Nat} {xs : List Value} (h : w.ownsRow base T sz v n xs) (hk : ∀ k, v.ownBlock = some k → w'.heap[k]? = w.heap[k]?) : w'.ownsRow base T sz v n xs := by
  refine ⟨h.1, ?_⟩
  rcases h.2 with hn | ⟨g, cap, cur, rfl, hb, hg, rest⟩
  · exact .inl hn
  · exact .inr ⟨g, cap, cur, rfl, hb, (hk g rfl).trans hg, rest⟩
theorem own_base {sz : Nat} {xs : List Value} (h : w.ownsRow base T sz v n xs) : w.ownsRow 0 T sz v n xs := by
  refine ⟨h.1, ?_⟩
  rcases h.2 with hn | ⟨g, cap, cur, rfl, hb, hg, rest⟩
  · exact .inl hn
  · exact .inr ⟨g, cap, cur, rfl, Nat.zero_le _, hg, rest⟩
end

/-- a block of a type, every cell of it is a slice -/
def AllSl (w : World) (X : TypeId) (g : Nat) : Prop := ∃ cs, Box w g X cs ∧ ∀ u ∈ cs.toList, ∃ a n c, u = Value.slice a n c
theorem AllSl.isT {w : World} {X : TypeId} {g : Nat} (h : AllSl w X g) : IsT w g X := let ⟨cs, h1, _⟩ := h; ⟨cs, (0, 0), h1⟩
theorem AllSl.blk {w w' : World} {X : TypeId} {g : Nat} (h : AllSl w X g) (hk : w'.heap[g]? = w.heap[g]?) : AllSl w' X g := let ⟨cs, h1, h2⟩ := h; ⟨cs, hk.trans h1, h2⟩
theorem AllSl.set {w : World} {X : TypeId} {g : Nat} (h : AllSl w X g) (o : Nat) (a : Option Addr) (n c : Nat) : AllSl (w.setCell ⟨g, o, none⟩ (.slice a n c)) X g := by
  obtain ⟨cs, h1, h2⟩ := h
  refine ⟨_, h1.set o _, fun u hu => ?_⟩
  rw [Array.toList_setIfInBounds] at hu
  rcases List.mem_or_eq_of_mem_set hu with h3 | h3
  · exact h2 u h3
  · exact ⟨a, n, c, h3⟩
/-- what is no slice doesn't lie there -/
theorem AllSl.ne {w : World} {X : TypeId} {g : Nat} (h : AllSl w X g) {p : Addr} {v : Value} (hc : w.cell? p = some v) (hs : p.spot = none) (hv : ∀ a n c, v ≠ .slice a n c) : p.block ≠ g := by
  obtain ⟨cs, h1, h2⟩ := h
  rintro rfl
  obtain ⟨b, o, s⟩ := p
  simp only at hs
  subst hs
  rw [Box.cell (g := b) h1, ← Array.getElem?_toList] at hc
  obtain ⟨a, n, c, e⟩ := h2 v (List.mem_of_getElem? hc)
  exact hv a n c e

/-- a row of rows, each of wd numbers -/
structure HdT (w : World) (base : Nat) (v : Value) (n wd : Nat) (rows : List Rw) : Prop where
  own : w.ownsRow base 24 1 v n (rows.map rwv)
  rows : ∀ q ∈ rows, RowT w q ∧ q.n = wd
  sl : ∀ g, v.ownBlock = some g → AllSl w 24 g
section
variable {w w' : World} {g n base wd : Nat} {X : TypeId} {v : Value} {rows : List Rw}
theorem HdT.bel (h : HdT w base v n wd rows) (hb : Below w.heap.size w w') : HdT w' base v n wd rows :=
  ⟨own_blk h.own (fun k hk => hb.block k (h.own.lt k hk).2), fun q hq => ⟨(h.rows q hq).1.bel hb, (h.rows q hq).2⟩, fun k hk => (h.sl k hk).blk (hb.block k (h.own.lt k hk).2)⟩
theorem HdT.far (h : HdT w base v n wd rows) (hk : But g w w') (hX : IsT w g X) (hne : 64 ≠ X) (hv : v.ownBlock ≠ some g) : HdT w' base v n wd rows :=
  ⟨own_blk h.own (fun k hk' => hk k (h.own.lt k hk').2 (fun e => hv (by rw [hk', e]))), fun q hq => ⟨(h.rows q hq).1.but hk hX hne, (h.rows q hq).2⟩, fun k hk' => (h.sl k hk').blk (hk k (h.own.lt k hk').2 (fun e => hv (by rw [hk', e])))⟩
theorem HdT.but (h : HdT w base v n wd rows) (hk : But g w w') (hX : IsT w g X) (hne : 64 ≠ X) (hne2 : 24 ≠ X) : HdT w' base v n wd rows :=
  h.far hk hX hne (fun e => (own_isT h.own e).ne hX hne2 rfl)
theorem HdT.base0 (h : HdT w base v n wd rows) : HdT w 0 v n wd rows := ⟨own_base h.own, h.rows, h.sl⟩
theorem HdT.len (h : HdT w base v n wd rows) : rows.length = n := by have := h.own.1; simpa using this
end

/-- what is kept of a place -/
structure Pl8 where
  kv : Value
  kr : List Rw
  vv : Value
  vr : List Rw
instance : Inhabited Pl8 := ⟨⟨.slice none 0 0, [], .slice none 0 0, []⟩⟩
def lvals (ps : List Pl8) : List Value := ps.flatMap fun x => [x.kv, x.vv]
theorem lvals_app (a b : List Pl8) : lvals (a ++ b) = lvals a ++ lvals b := by unfold lvals; rw [List.flatMap_append]
theorem lvals_len (ps : List Pl8) : (lvals ps).length = ps.length * 2 := by
  induction ps with
  | nil => rfl
  | cons x ps ih => rw [show lvals (x :: ps) = [x.kv, x.vv] ++ lvals ps from rfl, List.length_append, ih]; simp; omega
theorem lvals_at (ps : List Pl8) : ∀ i, i < ps.length → (lvals ps)[i * 2]? = some (ps.getD i default).kv ∧ (lvals ps)[i * 2 + 1]? = some (ps.getD i default).vv := by
  induction ps with
  | nil => intro i hi; exact absurd hi (by simp)
  | cons x ps ih =>
    intro i hi
    rw [show lvals (x :: ps) = [x.kv, x.vv] ++ lvals ps from rfl]
    cases i with
    | zero => exact ⟨rfl, rfl⟩
    | succ i =>
      have h := ih i (by simpa using hi)
      rw [show (i + 1) * 2 = i * 2 + 1 + 1 by omega]
      exact h
theorem set_last {α : Type} (xs : List α) (a b c : α) : (xs ++ [a, b]).set xs.length c = xs ++ [c, b] ∧ (xs ++ [a, b]).set (xs.length + 1) c = xs ++ [a, c] := by
  constructor
  · rw [List.set_append_right _ _ (Nat.le_refl _), Nat.sub_self]; rfl
  · rw [List.set_append_right _ _ (by omega), Nat.add_sub_cancel_left]; rfl
theorem lvals_set (ps : List Pl8) (x : Pl8) (v : Value) (r : List Rw) :
    (lvals (ps ++ [x])).set (ps.length * 2) v = lvals (ps ++ [⟨v, r, x.vv, x.vr⟩]) ∧ (lvals (ps ++ [x])).set (ps.length * 2 + 1) v = lvals (ps ++ [⟨x.kv, x.kr, v, r⟩]) := by
  simp only [lvals_app]
  rw [← lvals_len]
  exact set_last _ _ _ _

/-- a run's list of places: p of them, of s.l layers each -/
structure LAt (w : World) (lv : Value) (s : Sz) (p : Nat) (K : KF8) (ps : List Pl8) : Prop where
  own : w.ownsRow 0 56 2 lv p (lvals ps)
  sl : ∀ g, lv.ownBlock = some g → AllSl w 56 g
  pl : ∀ x ∈ ps, HdT w 0 x.kv s.l s.w x.kr ∧ HdT w 0 x.vv s.l s.w x.vr
  num : ∀ q, q < p → ∀ l, l < s.l → ((ps.getD q default).kr.getD l default).v = (K l q).1 ∧ ((ps.getD q default).vr.getD l default).v = (K l q).2
theorem LAt.len {w : World} {lv : Value} {s : Sz} {p : Nat} {K : KF8} {ps : List Pl8} (h : LAt w lv s p K ps) : ps.length = p := by
  have := h.own.1
  rw [lvals_len] at this
  omega
/-- a run's cells -/
def dcells (W : Wt7) (lv : Value) : Array Value := #[.int .i64 W.l, .int .i64 W.w, .int .i64 W.h, .int .i64 W.i, .int .i64 W.v, .int .i64 W.p, .int .i64 W.e.r, .int .i64 W.e.c, .slice W.e.a W.e.n W.e.cap, .slice W.ba W.bn W.bcap, .slice W.t.a W.t.n W.t.cap, .int .i64 W.hd.r, .int .i64 W.hd.c, .slice W.hd.a W.hd.n W.hd.cap, lv]
/-- the document's run as it stands -/
structure DocS (w : World) (r : Nat) (lv : Value) (s : Sz) (W : Wt7) (p : Nat) (K : KF8) : Prop where
  box : Box w r 53 (dcells W lv)
  l : ∃ ps, LAt w lv s p K ps
  inn : W.In w
section
variable {w w' : World} {r p : Nat} {lv : Value} {s : Sz} {W : Wt7} {K : KF8} {ps : List Pl8}
theorem LAt.bel (h : LAt w lv s p K ps) (hb : Below w.heap.size w w') : LAt w' lv s p K ps :=
  ⟨own_blk h.own (fun k hk => hb.block k (h.own.lt k hk).2), fun g hg => (h.sl g hg).blk (hb.block _ (h.own.lt g hg).2), fun x hx => ⟨(h.pl x hx).1.bel hb, (h.pl x hx).2.bel hb⟩, h.num⟩
theorem DocS.bel (h : DocS w r lv s W p K) (hb : Below w.heap.size w w') : DocS w' r lv s W p K :=
  ⟨h.box.bel hb, let ⟨ps, hl⟩ := h.l; ⟨ps, hl.bel hb⟩, h.inn.bel hb⟩
end

theorem infoKept : ∃ i, Tryz.prog.info? 56 = some i ∧ i.zero = some (.agg #[.slice none 0 0, .slice none 0 0]) ∧ i.size = 2 ∧ i.bytes = 48 := by
  have h : (Tryz.prog.info? 56).map (fun i => (i.zero, i.size, i.bytes)) = some (some (.agg #[.slice none 0 0, .slice none 0 0]), 2, 48) := by kernel_rfl
  cases hh : Tryz.prog.info? 56 with
  | none => rw [hh] at h; cases h
  | some i => rw [hh] at h; simp only [Option.map_some, Option.some.injEq, Prod.mk.injEq] at h; exact ⟨i, rfl, h.1, h.2.1, h.2.2⟩
theorem infoRow8 : ∃ i, Tryz.prog.info? 24 = some i ∧ i.zero = some (.slice none 0 0) ∧ i.size = 1 ∧ i.bytes = 24 := by
  have h : (Tryz.prog.info? 24).map (fun i => (i.zero, i.size, i.bytes)) = some (some (.slice none 0 0), 1, 24) := by kernel_rfl
  cases hh : Tryz.prog.info? 24 with
  | none => rw [hh] at h; cases h
  | some i => rw [hh] at h; simp only [Option.map_some, Option.some.injEq, Prod.mk.injEq] at h; exact ⟨i, rfl, h.1, h.2.1, h.2.2⟩

theorem sl_zeroN (z : Array Value) (hz : ∀ u ∈ z.toList, ∃ a m c, u = Value.slice a m c) (h0 : 0 < z.size) (n : Nat) : ∀ u ∈ (Builtin.zeroCells z n).toList, ∃ a m c, u = Value.slice a m c := by
  intro u hu
  unfold Builtin.zeroCells at hu
  simp at hu
  obtain ⟨q, _, e⟩ := hu
  have hm := Nat.mod_lt q h0
  rw [getElem!_pos z _ hm] at e
  rw [← e]
  exact hz _ (by simp)
/-- an element of slices more, behind a row of the call's own of such -/
theorem append_sl {P : Program} (w : World) (base : Nat) (t e : TypeId) (i : TypeInfo) (z : Value) (size bytes : Nat) (ht : P.underlying t = some (.slice e)) (hi : P.info? e = some i) (hz : i.zero = some z) (hsize : i.size = size) (hby : i.bytes = bytes) (hzs : z.cells.size = size) (hsz : 0 < size) (hs10 : size ≤ 10) (hb100 : bytes ≤ 100)
    (hzc : ∀ u ∈ z.cells.toList, ∃ a m c, u = Value.slice a m c) (lv : Value) (p : Nat) (xs news : List Value) (h : w.ownsRow base e size lv p xs) (hsl : ∀ g, lv.ownBlock = some g → AllSl w e g) (hp : p ≤ 1000) (hl : news.length = size) (hsn : ∀ u ∈ news, ∃ a m c, u = Value.slice a m c) (hbase : base ≤ w.heap.size) :
    ∃ g cap w', Sem.run P (Builtin.append_ #[t, t] t #[lv, .slice (some ⟨w.heap.size, 0, none⟩) 1 1]) (w.alloc (.cells news.toArray e)) = .ok (.slice (some ⟨g, 0, none⟩) (p + 1) cap) w' ∧
      w'.ownsRow base e size (.slice (some ⟨g, 0, none⟩) (p + 1) cap) (p + 1) (xs ++ news) ∧ AllSl w' e g ∧ w.grownBy w' lv.ownBlock ∧ (lv.ownBlock = some g ∨ g = w.heap.size + 1) ∧ p + 1 ≤ cap ∧ cap ≤ 9223372036854775807 := by
  have hnews := World.news_of_block (cs := news.toArray) (t := e) (fr := (0, 0)) (heap_alloc_new w (.cells news.toArray e))
  have hone : ∀ u ∈ news, u.oneCell' = true := by intro u hu; obtain ⟨a, m, c, rfl⟩ := hsn u hu; rfl
  have hpb : (p + 1) * bytes ≤ 1001 * 100 := Nat.mul_le_mul (by omega) hb100
  obtain ⟨v', w', hr, h2, h3, _, h4⟩ := run_append_own_at (P := P) (w.alloc (.cells news.toArray e)) base t t e i z size bytes ht hi hz hsize hby hzs hsz lv p _ (h.alloc _)
    ⟨w.heap.size, 0, none⟩ 1 1 news (by omega) (by simpa using hnews) hone (by unfold maxLen; omega) (by omega) (by simp; omega)
  rw [World.size_alloc] at h4
  have hg := (World.grownBy_alloc w (.cells news.toArray e) lv.ownBlock).trans h3
  have hv : ∃ g cap, v' = .slice (some ⟨g, 0, none⟩) (p + 1) cap ∧ p + 1 ≤ cap ∧ cap ≤ 9223372036854775807 := by
    rcases h2.2 with ⟨_, e⟩ | ⟨g, cap, cur, e, _, _, h5, h6, _⟩
    · omega
    · unfold maxLen at h6
      exact ⟨g, cap, e, h5, by omega⟩
  obtain ⟨g, cap, rfl, hc1, hc2⟩ := hv
  simp only [Value.ownBlock, Option.some.injEq] at h4
  refine ⟨g, cap, w', hr, h2, ?_, hg, h4.imp (fun e => e.symm) id, hc1, hc2⟩
  clear h4 hg h3 hc1 hc2
  obtain ⟨wl, hwl⟩ : ∃ wl, w.alloc (.cells news.toArray e) = wl := ⟨_, rfl⟩
  have hbw : Below w.heap.size w wl := by rw [← hwl]; exact (Below.refl _ _).alloc (Nat.le_refl _) _
  rw [hwl] at hr
  have hnews' : ∀ j u, news[j]? = some u → wl.cell? ((⟨w.heap.size, 0, none⟩ : Addr).add j) = some u := by rw [← hwl]; simpa using hnews
  have hzero := sl_zeroN z.cells hzc (by omega)
  subst hsize hby
  rcases h.2 with ⟨rfl, rfl⟩ | ⟨g0, cap0, cur, rfl, hb0, hg0, hnc, hcm, hcs, htk⟩
  · have e := run_append_nil (P := P) (w := wl) t t e i _ ht hi hz ⟨w.heap.size, 0, none⟩ 1 1 news (by omega) hnews' (by omega) (by omega) (by omega)
    rw [hr] at e
    simp only [Result.ok.injEq, Value.slice.injEq, Option.some.injEq, Addr.mk.injEq] at e
    obtain ⟨⟨⟨rfl, _⟩, _⟩, rfl⟩ := e
    refine ⟨_, box_new wl.drew _ _, fun u hu => ?_⟩
    rw [Array.toList_append] at hu
    rcases List.mem_append.1 hu with h5 | h5
    · exact hsn u h5
    · exact hzero _ u h5
  · obtain ⟨cs2, hB, h64⟩ := hsl g0 rfl
    have hcur : cs2 = cur := by
      have := hB.symm.trans hg0
      simpa using this
    subst hcur
    have hBl : Box wl g0 e cs2 := hB.bel hbw
    by_cases hroom : p + 1 ≤ cap0
    · have hfit : p * i.size + news.length ≤ cs2.size := by rw [hl, hcs]; have := Nat.mul_le_mul_right i.size hroom; rw [Nat.add_mul, Nat.one_mul] at this; exact this
      have e := run_append_room (P := P) (w := wl) t t e i ht hi g0 p cap0 cs2 hBl ⟨w.heap.size, 0, none⟩ 1 1 news (by omega) hnews' hone hroom hfit
      rw [hr] at e
      simp only [Result.ok.injEq, Value.slice.injEq, Option.some.injEq, Addr.mk.injEq] at e
      obtain ⟨⟨⟨rfl, _⟩, _⟩, rfl⟩ := e
      refine ⟨_, hBl.setRow, fun u hu => ?_⟩
      rcases List.mem_append.1 hu with h5 | h5
      · rcases List.mem_append.1 h5 with h6 | h6
        · exact h64 u (List.mem_of_mem_take h6)
        · exact hsn u h6
      · exact h64 u (List.mem_of_mem_drop h5)
    · have holds : ∀ j u, (cs2.toList.take (p * i.size))[j]? = some u → wl.cell? ((⟨g0, 0, none⟩ : Addr).add j) = some u := by
        intro j u hu
        rw [List.getElem?_take] at hu
        split at hu
        · have := hBl.cell j
          simp only [Addr.add_lit, Nat.zero_add]
          rw [this, ← Array.getElem?_toList]; exact hu
        · cases hu
      have hpc : p * i.size ≤ cs2.size := by rw [hcs]; exact Nat.mul_le_mul_right _ hnc
      have e := run_append_grow (P := P) (w := wl) t t e i _ ht hi hz ⟨g0, 0, none⟩ p cap0 (cs2.toList.take (p * i.size)) (by simp; omega) holds ⟨w.heap.size, 0, none⟩ 1 1 news (by omega) hnews' (by omega) (by omega)
        (by have h9 := nextslicecap_le (need := p + 1) (old := cap0) (by omega); have := Nat.mul_le_mul h9 hb100; omega)
      rw [hr] at e
      simp only [Result.ok.injEq, Value.slice.injEq, Option.some.injEq, Addr.mk.injEq] at e
      obtain ⟨⟨⟨rfl, _⟩, _⟩, rfl⟩ := e
      refine ⟨_, box_new wl.drew _ _, fun u hu => ?_⟩
      rw [Array.toList_append, Array.toList_append] at hu
      rcases List.mem_append.1 hu with h5 | h5
      · rcases List.mem_append.1 h5 with h6 | h6
        · exact h64 u (List.mem_of_mem_take h6)
        · exact hsn u h6
      · exact hzero _ u h5

/-- a row more, behind rows of the call's own -/
theorem head_next (w : World) (base : Nat) (v : Value) (n wd : Nat) (rows : List Rw) (q : Rw) (h : HdT w base v n wd rows) (hq : RowT w q) (hqn : q.n = wd) (hn : n ≤ 1000) (hbase : base ≤ w.heap.size) :
    ∃ g cap w', Sem.run Tryz.prog (Builtin.append_ #[54, 54] 54 #[v, .slice (some ⟨w.heap.size, 0, none⟩) 1 1]) (w.alloc (.cells #[.slice q.a q.n q.cap] 24)) = .ok (.slice (some ⟨g, 0, none⟩) (n + 1) cap) w' ∧
      HdT w' base (.slice (some ⟨g, 0, none⟩) (n + 1) cap) (n + 1) wd (rows ++ [q]) ∧ w.grownBy w' v.ownBlock ∧ (v.ownBlock = some g ∨ g = w.heap.size + 1) ∧ n + 1 ≤ cap ∧ cap ≤ 9223372036854775807 := by
  obtain ⟨i0, hi, hz0, hz1, hz2⟩ := infoRow8
  obtain ⟨g, cap, w', hr, h2, h3, h4, h5, h6⟩ := append_sl (P := Tryz.prog) w base 54 24 i0 _ 1 24 Tryz.underlying54 hi hz0 hz1 hz2 rfl (by omega) (by omega) (by omega) (by intro u hu; simp [Value.cells] at hu; exact ⟨_, _, _, hu⟩)
    v n _ [rwv q] h.own h.sl hn rfl (by intro u hu; simp at hu; exact ⟨_, _, _, hu⟩) hbase
  refine ⟨g, cap, w', hr, ⟨by rw [show (rows ++ [q]).map rwv = rows.map rwv ++ [rwv q] by simp]; exact h2, ?_, ?_⟩, h4, h5, h6⟩
  · have keep : ∀ x, RowT w x → RowT w' x := fun x hx => hx.blk fun y hy => h4.block _ (hx.2 y hy).lt (fun e => (hx.2 y hy).ne (own_isT h.own e.symm) (by decide) rfl)
    intro x hx
    rcases List.mem_append.1 hx with h9 | h9
    · exact ⟨keep x (h.rows x h9).1, (h.rows x h9).2⟩
    · obtain rfl := List.mem_singleton.1 h9
      exact ⟨keep x hq, hqn⟩
  · intro k hk
    cases hk
    exact h3
/-- a place more -/
theorem place_next (w : World) (lv : Value) (p : Nat) (xs : List Value) (h : w.ownsRow 0 56 2 lv p xs) (hsl : ∀ g, lv.ownBlock = some g → AllSl w 56 g) (hp : p ≤ 1000) :
    ∃ g cap w', Sem.run Tryz.prog (Builtin.append_ #[51, 51] 51 #[lv, .slice (some ⟨w.heap.size, 0, none⟩) 1 1]) (w.alloc (.cells #[.slice none 0 0, .slice none 0 0] 56)) = .ok (.slice (some ⟨g, 0, none⟩) (p + 1) cap) w' ∧
      w'.ownsRow 0 56 2 (.slice (some ⟨g, 0, none⟩) (p + 1) cap) (p + 1) (xs ++ [.slice none 0 0, .slice none 0 0]) ∧ AllSl w' 56 g ∧ w.grownBy w' lv.ownBlock ∧ (lv.ownBlock = some g ∨ g = w.heap.size + 1) := by
  obtain ⟨i0, hi, hz0, hz1, hz2⟩ := infoKept
  obtain ⟨g, cap, w', hr, h2, h3, h4, h5, _⟩ := append_sl (P := Tryz.prog) w 0 51 56 i0 _ 2 48 Tryz.underlying51 hi hz0 hz1 hz2 rfl (by omega) (by omega) (by omega) (by intro u hu; simp [Value.cells] at hu; exact ⟨_, _, _, hu⟩)
    lv p xs [.slice none 0 0, .slice none 0 0] h hsl hp rfl (by intro u hu; simp at hu; exact ⟨_, _, _, hu⟩) (Nat.zero_le _)
  exact ⟨g, cap, w', hr, h2, h3, h4, h5⟩

/-- what a layer of all places looks like: the keys and values, place by place -/
structure View8 (w : World) (lb : Nat) (n p wd : Nat) (f : Nat → KV8) : Prop where
  at_ : ∀ i, i < p → ∃ kb kn kc vb vn vc, ∃ g h : Rw, w.cell? ⟨lb, i * 2, none⟩ = some (.slice (some ⟨kb, 0, none⟩) kn kc) ∧ w.cell? ⟨lb, i * 2 + 1, none⟩ = some (.slice (some ⟨vb, 0, none⟩) vn vc) ∧ n < kn ∧ n < vn ∧
    w.cell? ⟨kb, n, none⟩ = some (.slice g.a g.n g.cap) ∧ w.cell? ⟨vb, n, none⟩ = some (.slice h.a h.n h.cap) ∧ g.In .i8 w ∧ h.In .i8 w ∧ g.n = wd ∧ h.n = wd ∧ g.v = (f i).1 ∧ h.v = (f i).2
theorem View8.bel {w w' : World} {lb n p wd : Nat} {f : Nat → KV8} (h : View8 w lb n p wd f) (hb : Below w.heap.size w w') : View8 w' lb n p wd f := by
  refine ⟨fun i hi => ?_⟩
  obtain ⟨kb, kn, kc, vb, vn, vc, g, h1, c1, c2, c3, c4, c5, c6, c7, c8, c9⟩ := h.at_ i hi
  exact ⟨kb, kn, kc, vb, vn, vc, g, h1, cell_kept6 hb c1, cell_kept6 hb c2, c3, c4, cell_kept6 hb c5, cell_kept6 hb c6, c7.below hb, c8.below hb, c9⟩
/-- a row of rows as a cell of it -/
theorem HdT.at_ {w : World} {base : Nat} {v : Value} {n wd : Nat} {rows : List Rw} (h : HdT w base v n wd rows) {l : Nat} (hl : l < n) : ∃ kb kc, ∃ g : Rw, v = .slice (some ⟨kb, 0, none⟩) n kc ∧ w.cell? ⟨kb, l, none⟩ = some (.slice g.a g.n g.cap) ∧ g.In .i8 w ∧ g.n = wd ∧ rows.getD l default = g := by
  have hlen := h.len
  have hm : rows.getD l default ∈ rows := by
    rw [List.getD_eq_getElem?_getD, List.getElem?_eq_getElem (by omega)]
    exact List.getElem_mem _
  rcases h.own.2 with ⟨_, e⟩ | ⟨g, cap, cur, rfl, _, hg, _⟩
  · omega
  · refine ⟨g, cap, _, rfl, ?_, (h.rows _ hm).1.1, (h.rows _ hm).2, rfl⟩
    have h1 := h.own.cells (g := g) rfl l (rwv (rows.getD l default)) (by
      rw [List.getElem?_map, List.getD_eq_getElem?_getD, List.getElem?_eq_getElem (by omega)]; rfl)
    rwa [Addr.add_lit, Nat.zero_add] at h1

/-- all but two blocks stands -/
structure AwayO (w w' : World) (r : Nat) (q : Option Nat) : Prop where
  os : w'.os = w.os
  tape : w'.tape = w.tape
  output : w'.output = w.output
  size : w.heap.size ≤ w'.heap.size
  block : ∀ k, k < w.heap.size → k ≠ r → some k ≠ q → w'.heap[k]? = w.heap[k]?
/-- what is no slice reads as it did -/
def StaysO (w w' : World) : Prop := ∀ (a : Addr) (v : Value), a.spot = none → (∀ x n c, v ≠ .slice x n c) → w.cell? a = some v → w'.cell? a = some v
/-- all reads as it did but for rows of rows, and lists of places -/
structure Keep8 (w w' : World) : Prop where
  st : StaysO w w'
  bx : ∀ k X, IsT w k X → X ≠ 56 → X ≠ 24 → w'.heap[k]? = w.heap[k]?
  sz : w.heap.size ≤ w'.heap.size
section
variable {w w' w2 : World} {r p p' : Nat} {lv lv' : Value} {s : Sz} {W : Wt7} {K K' : KF8} {ps : List Pl8}
theorem StaysO.trans (h : StaysO w w') (k : StaysO w' w2) : StaysO w w2 := fun a v h1 h2 h3 => k a v h1 h2 (h a v h1 h2 h3)
theorem StaysO.of_below (hb : Below w.heap.size w w') : StaysO w w' := fun a v _ _ h => (hb.cell (p := a) (World.block_lt_of_cell? _ _ h)).trans h
theorem Keep8.trans (h : Keep8 w w') (k : Keep8 w' w2) : Keep8 w w2 := ⟨h.st.trans k.st, fun g X hg h1 h2 => (k.bx g X (hg.blk (h.bx g X hg h1 h2)) h1 h2).trans (h.bx g X hg h1 h2), Nat.le_trans h.sz k.sz⟩
theorem Keep8.of_below (hb : Below w.heap.size w w') : Keep8 w w' := ⟨StaysO.of_below hb, fun k X hk _ _ => hb.block k hk.lt, hb.size⟩
theorem Keep8.box (h : Keep8 w w') {g : Nat} {T : TypeId} {cs : Array Value} (hB : Box w g T cs) (h1 : T ≠ 56) (h2 : T ≠ 24) : Box w' g T cs := (h.bx g T ⟨cs, (0, 0), hB⟩ h1 h2).trans hB
theorem StaysO.elems (h : StaysO w w') {k : IntKind} {a : Option Addr} {n : Nat} {xs : List Int} (hE : Elems k w a n xs) : Elems k w' a n xs :=
  ⟨hE.1, hE.2.1, hE.2.2.1, fun hn => let ⟨b, off, ha, hc⟩ := hE.2.2.2 hn; ⟨b, off, ha, fun i hi => h _ _ rfl (by simp) (hc i hi)⟩⟩
theorem StaysO.rw_ (h : StaysO w w') {k : IntKind} {q : Rw} (hq : q.In k w) : q.In k w' := ⟨h.elems hq.1, hq.2⟩
theorem StaysO.gr (h : StaysO w w') {g : Gr} (hq : g.In8 w) : g.In8 w' := ⟨h.elems hq.1, hq.2⟩
theorem StaysO.bk (h : StaysO w w') {b : Bk7} (hb : b.In w) : b.In w' := by
  obtain ⟨h1, h2, h3, h4, h5, h6, h7, h8⟩ := hb
  exact ⟨h.rw_ h1, h.rw_ h2, h.gr h3, h.gr h4, h.gr h5, h.gr h6, h.gr h7, h.gr h8⟩
theorem StaysO.tab (h : StaysO w w') (ht : Tab w) : Tab w' := fun i hi => h _ _ rfl (by simp) (ht i hi)
theorem StaysO.stab (h : StaysO w w') (ht : STab w) : STab w' := fun i hi => h _ _ rfl (by simp) (ht i hi)
/-- weights, where neither their blocks' array changes -/
theorem StaysO.wt (h : StaysO w w') (hW : W.In w) (hsz : w.heap.size ≤ w'.heap.size) (hb : ∀ g off, W.ba = some ⟨g, off, none⟩ → 0 < W.bn → w'.heap[g]? = w.heap[g]?) : W.In w' := by
  obtain ⟨h1, h2, h3, ⟨k1, k2, k3, k4⟩, h5⟩ := hW
  refine ⟨h.gr h1, h.gr h2, h.rw_ h3, ⟨k1, k2, fun x hx => h.bk (k3 x hx), fun hn => ?_⟩, h5⟩
  obtain ⟨g, off, ha, hlt, hx⟩ := k4 hn
  exact ⟨g, off, ha, Nat.lt_of_lt_of_le hlt hsz, fun i hi k hk => (World.cell?_of_block (w := w) (a := ⟨g, off + i * 20 + k, none⟩) (hb g off ha hn)).trans (hx i hi k hk)⟩
/-- the blocks' array is neither a list of places nor a run -/
theorem wt_ne (hW : W.In w) {g off : Nat} (ha : W.ba = some ⟨g, off, none⟩) (hn : 0 < W.bn) : (∀ X k, AllSl w X k → g ≠ k) ∧ ∀ k T cs, Box w k T cs → cs.size ≤ 19 → g ≠ k := by
  obtain ⟨_, _, _, ⟨_, _, _, k4⟩, _⟩ := hW
  obtain ⟨g', off', ha', hlt, hx⟩ := k4 hn
  rw [ha] at ha'
  cases ha'
  refine ⟨fun X k hk => ?_, fun k T cs hB h19 => ?_⟩
  · have h2 := hx 0 hn 2 (by omega)
    exact hk.ne (p := ⟨g, off + 0 * 20 + 2, none⟩) (v := .int .i64 (W.bs.getD 0 default).q.r) (by rw [h2]; rfl) rfl (by simp)
  · rintro rfl
    have h9 := hx 0 hn 19 (by omega)
    rw [hB.cell, Array.getElem?_eq_none (by omega)] at h9
    have h8 : (19 : Nat) < (W.bs.getD 0 default).cells.size := (by decide : 19 < 20)
    rw [Array.getElem?_eq_getElem h8] at h9
    cases h9
theorem LAt.form (h : LAt w lv s p K ps) : ∃ a c, lv = .slice a p c := by
  rcases h.own.2 with ⟨h1, h2⟩ | ⟨g, cap, cur, h1, _⟩
  · exact ⟨none, 0, by rw [h1, h2]⟩
  · exact ⟨_, cap, h1⟩
theorem HdT.away {q : Option Nat} {v : Value} {n base wd : Nat} {rows : List Rw} {X Y : TypeId} (h : HdT w base v n wd rows) (ha : AwayO w w' r q) (hr : IsT w r X) (hq : ∀ k, q = some k → IsT w k Y) (n1 : 64 ≠ X) (n2 : 24 ≠ X) (n3 : 64 ≠ Y) (n4 : 24 ≠ Y) : HdT w' base v n wd rows :=
  ⟨own_blk h.own (fun k hk => ha.block k (h.own.lt k hk).2 ((own_isT h.own hk).ne hr n2) (fun e => (own_isT h.own hk).ne (hq k e.symm) n4 rfl)),
   fun x hx => ⟨(h.rows x hx).1.blk fun y hy => ha.block _ ((h.rows x hx).1.2 y hy).lt (((h.rows x hx).1.2 y hy).ne hr n1) (fun e => ((h.rows x hx).1.2 y hy).ne (hq _ e.symm) n3 rfl), (h.rows x hx).2⟩,
   fun k hk => (h.sl k hk).blk (ha.block k (h.own.lt k hk).2 ((own_isT h.own hk).ne hr n2) (fun e => (own_isT h.own hk).ne (hq k e.symm) n4 rfl))⟩
theorem dcells_set (W : Wt7) (u v : Value) : (dcells W u).setIfInBounds 14 v = dcells W v := rfl
theorem stays_box {cs cs' : Array Value} {g : Nat} {T T' : TypeId} (hB : Box w g T cs) (hB' : Box w' g T' cs') (hc : ∀ (o : Nat) (v : Value), (∀ x n c, v ≠ Value.slice x n c) → cs[o]? = some v → cs'[o]? = some v)
    (hk : ∀ k, k < w.heap.size → k ≠ g → (∀ v a, a.block = k → a.spot = none → (∀ x n c, v ≠ Value.slice x n c) → w.cell? a = some v → w'.heap[k]? = w.heap[k]?)) : StaysO w w' := by
  intro a v hs hv hc0
  by_cases e : a.block = g
  · obtain ⟨b, o, sp⟩ := a
    simp only at e hs
    subst e hs
    rw [hB.cell] at hc0
    rw [hB'.cell]
    exact hc o v hv hc0
  · exact (World.cell?_of_block (w := w) (a := a) (hk a.block (World.block_lt_of_cell? _ _ hc0) e v a rfl hs hv hc0)).trans hc0
theorem dcells_stay (W : Wt7) (a : Option Addr) (n c : Nat) (u : Value) (o : Nat) (v : Value) (hv : ∀ x n c, v ≠ Value.slice x n c) (h : (dcells W (.slice a n c))[o]? = some v) : (dcells W u)[o]? = some v := by
  rw [← dcells_set W (.slice a n c) u]
  by_cases e : o = 14
  · subst e
    simp [dcells] at h
    exact absurd h.symm (hv _ _ _)
  · rw [Array.getElem?_setIfInBounds_ne (by omega)]
    exact h
theorem DocS.stays (h : DocS w r lv s W p K) (h' : Box w' r 53 (dcells W lv')) (ha : AwayO w w' r lv.ownBlock) : StaysO w w' := by
  obtain ⟨ps, hl⟩ := h.l
  obtain ⟨a, c, hf⟩ := hl.form
  refine stays_box h.box h' (fun o v hv h0 => dcells_stay W a p c lv' o v hv (by rw [← hf]; exact h0)) (fun k hk hne v x hx hs hv hc => ha.block k hk hne (fun e => ?_))
  exact (hl.sl k e.symm).ne hc hs hv hx
end

end Go.Proofs.YtoeihigdndkjeaaGreatDoor
