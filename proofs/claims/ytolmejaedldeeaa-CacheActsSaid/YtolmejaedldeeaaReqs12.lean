/-
  The code's store: Requests: who has spots, in order, each once.
-/
import Derived.Test.YtolmejaedldeeaaDel12
import Derived.Test.YtolmejaedldeeaaSorts
import Derived.Sort.OwnSortedInts
namespace Go.Proofs.Ytolmejaedldeeaa
open Go.RowKit Go.Maps Go.Sort
set_option linter.unusedVariables false

/-! ### sorted lists, each number once -/
theorem compactUpTo_sorted {zs : List Int} (hs : zs.Pairwise (· ≤ ·)) : ∀ m, m ≤ zs.length → (Lib.compactUpTo zs.toArray m).Pairwise (· < ·) ∧ (∀ z, z ∈ Lib.compactUpTo zs.toArray m ↔ z ∈ zs.take m) ∧ (Lib.compactUpTo zs.toArray m).length ≤ m := by
  intro m
  induction m with
  | zero => intro _; simp [Lib.compactUpTo]
  | succ m ih =>
    intro hm
    obtain ⟨h1, h2, h3⟩ := ih (by omega)
    have hg : zs.toArray[m]! = zs[m] := by rw [getElem!_pos zs.toArray m (by simp; omega)]; simp
    have ht : zs.take (m + 1) = zs.take m ++ [zs[m]] := by rw [List.take_add_one, List.getElem?_eq_getElem (by omega)]; rfl
    rw [Lib.compactUpTo_succ, hg]
    cases hk : Lib.keeps zs.toArray m with
    | true =>
      rw [if_pos rfl]
      refine ⟨List.pairwise_append.2 ⟨h1, List.pairwise_singleton _ _, fun a ha b hb => ?_⟩, fun z => ?_, ?_⟩
      · rw [List.mem_singleton] at hb
        subst hb
        have ha2 := (h2 a).1 ha
        obtain ⟨i, hi, rfl⟩ := List.mem_take_iff_getElem.1 ha2
        have him : i < m := by omega
        have hk2 : zs[m] ≠ zs[m - 1] := by
          have : m = 0 ∨ zs.toArray[m]! ≠ zs.toArray[m - 1]! := by simpa [Lib.keeps] using hk
          rcases this with e | e
          · omega
          · rw [hg, show zs.toArray[m - 1]! = zs[m - 1] by rw [getElem!_pos zs.toArray (m - 1) (by simp; omega)]; simp] at e
            exact e
        have l1 : zs[i] ≤ zs[m - 1] := by
          rcases Nat.lt_or_ge i (m - 1) with h | h
          · exact List.pairwise_iff_getElem.1 hs i (m - 1) (by omega) (by omega) h
          · have : i = m - 1 := by omega
            subst this
            exact Int.le_refl _
        have l2 : zs[m - 1] ≤ zs[m] := List.pairwise_iff_getElem.1 hs (m - 1) m (by omega) (by omega) (by omega)
        omega
      · rw [ht, List.mem_append, List.mem_append, h2]
      · simp; omega
    | false =>
      rw [if_neg (by simp), List.append_nil]
      refine ⟨h1, fun z => ?_, by omega⟩
      rw [ht, List.mem_append, h2, List.mem_singleton]
      refine ⟨.inl, fun h => ?_⟩
      rcases h with h | rfl
      · exact h
      · have : ¬ (m = 0 ∨ zs.toArray[m]! ≠ zs.toArray[m - 1]!) := by simpa [Lib.keeps] using hk
        have hm0 : m ≠ 0 := fun e => this (.inl e)
        have he : zs[m] = zs[m - 1] := by
          have e : zs.toArray[m]! = zs.toArray[m - 1]! := Decidable.byContradiction fun e => this (.inr e)
          rw [hg, show zs.toArray[m - 1]! = zs[m - 1] by rw [getElem!_pos zs.toArray (m - 1) (by simp; omega)]; simp] at e
          exact e
        rw [he]
        exact List.mem_take_iff_getElem.2 ⟨m - 1, by omega, rfl⟩
/-- sorted, each once -/
def Once (zs : List Int) : Prop := zs.Pairwise (· < ·)
theorem Once.eq {xs ys : List Int} (hx : Once xs) (hy : Once ys) (h : ∀ z, z ∈ xs ↔ z ∈ ys) : xs = ys := by
  unfold Once at hx hy
  induction xs generalizing ys with
  | nil =>
    cases ys with
    | nil => rfl
    | cons y ys => exact absurd ((h y).2 (by simp)) (by simp)
  | cons x xs ih =>
    cases ys with
    | nil => exact absurd ((h x).1 (by simp)) (by simp)
    | cons y ys =>
      obtain ⟨a1, a2⟩ := List.pairwise_cons.1 hx
      obtain ⟨b1, b2⟩ := List.pairwise_cons.1 hy
      have e : x = y := by
        have h1 := (h x).1 (by simp)
        have h2 := (h y).2 (by simp)
        rcases List.mem_cons.1 h1 with e | e
        · exact e
        · rcases List.mem_cons.1 h2 with e2 | e2
          · exact e2.symm
          · have := b1 x e; have := a1 y e2; omega
      subst e
      rw [ih a2 b2 fun z => ⟨fun hz => ?_, fun hz => ?_⟩]
      · rcases List.mem_cons.1 ((h z).1 (by simp [hz])) with e | e
        · have := a1 z hz; omega
        · exact e
      · rcases List.mem_cons.1 ((h z).2 (by simp [hz])) with e | e
        · have := b1 z hz; omega
        · exact e
theorem compact_once (zs : List Int) : Once (Lib.compact (zs.mergeSort fun x y => decide (x ≤ y))) ∧ (∀ z, z ∈ Lib.compact (zs.mergeSort fun x y => decide (x ≤ y)) ↔ z ∈ zs) ∧ (Lib.compact (zs.mergeSort fun x y => decide (x ≤ y))).length ≤ zs.length := by
  have hp : (zs.mergeSort fun x y => decide (x ≤ y)).Pairwise (· ≤ ·) := by
    have := List.pairwise_mergeSort (le := fun x y : Int => decide (x ≤ y)) (by intro a b c; simp; omega) (by intro a b; simp; omega) zs
    simpa using this
  obtain ⟨h1, h2, h3⟩ := compactUpTo_sorted hp _ (Nat.le_refl _)
  refine ⟨h1, fun z => ?_, ?_⟩
  · unfold Lib.compact
    rw [h2, List.take_length, List.mem_mergeSort]
  · unfold Lib.compact
    rw [List.length_mergeSort] at h3 ⊢
    exact h3

/-! ### who has spots -/
theorem head12 {L : List Ent} (hL : GoodE L) {z : Int} : (∃ x ∈ L, x.p = 0 ∧ x.r = z) ↔ ∃ x ∈ L, x.r = z := by
  refine ⟨fun ⟨x, hx, _, h⟩ => ⟨x, hx, h⟩, fun ⟨x, hx, h⟩ => ?_⟩
  suffices H : ∀ (n : Nat) (x : Ent), x ∈ L → x.r = z → x.p = n → ∃ x ∈ L, x.p = 0 ∧ x.r = z from
    H x.p.toNat x hx h (by have := (hL.bd x hx).1.2.2; omega)
  intro n
  induction n with
  | zero => intro x hx h h0; exact ⟨x, hx, by simpa using h0, h⟩
  | succ n ih =>
    intro x hx h hp
    rcases hL.gap x hx with h1 | h1
    · omega
    · obtain ⟨y, hy, e1, e2, e3⟩ := hasE_iff.1 h1
      exact ih y hy (by rw [e1]; exact h) (by omega)

/-- a range over the store's map under way, while requests are gathered -/
structure ReqI (w0 : World) (mb : Nat) (L : List Ent) (F : Lit → Option Value) (left : Lit → Bool) (cnt m : Nat) (v : Value) (zs : List Int) (wr : World) : Prop where
  ran : RangeAt wr 33 mb w0.heap.size L.length F left cnt
  own : wr.ownsRow (w0.heap.size + 1) 3 1 v m (zs.map (.int .i64))
  bel : Below w0.heap.size w0 wr
  le : w0.heap.size + 1 ≤ wr.heap.size
  mem : ∀ z, z ∈ zs ↔ ∃ x ∈ L, x.p = 0 ∧ x.r = z ∧ left (keyT x.r x.l x.p) = false
  len : zs.length + cnt ≤ L.length
theorem own_ne {w : World} {base n g : Nat} {e : TypeId} {v : Value} {xs : List Value} (h : w.ownsRow base e 1 v n xs) (hg : g < base) : v.ownBlock = none ∨ v.ownBlock ≠ some g := by
  refine .inr fun e => ?_
  have := (h.lt _ e).1
  omega
section
variable {w0 wr w' : World} {mb cnt cnt' m m' : Nat} {L : List Ent} {F : Lit → Option Value} {left : Lit → Bool} {v v' : Value} {zs : List Int} {r l p : Int}
theorem ReqI.skip (h : ReqI w0 mb L F left cnt m v zs wr) (hL : GoodE L) (hw : w64 r ∧ w64 l ∧ w64 p) (hp : p ≠ 0) (hr : RangeAt w' 33 mb w0.heap.size L.length F (fun z => left z && !z.sameKey (keyT r l p)) cnt') (hc : cnt' < cnt)
    (hg : wr.grownBy w' (some w0.heap.size)) : ReqI w0 mb L F (fun z => left z && !z.sameKey (keyT r l p)) cnt' m v zs w' := by
  refine ⟨hr, h.own.kept hg (own_ne h.own (Nat.lt_succ_self _)), h.bel.grown hg h.bel.size (fun k hk => by cases hk; exact Nat.le_refl _), Nat.le_trans h.le hg.size, fun z => ?_, by have := h.len; omega⟩
  · rw [h.mem]
    refine exists_congr fun x => and_congr_right fun hx => and_congr_right fun h0 => and_congr_right fun _ => ?_
    have hne : keyT x.r x.l x.p ≠ keyT r l p := fun e => hp (by have := (keyT_inj (hL.bd x hx).2 hw e).2.2; omega)
    rw [sameKey_ne hne]; simp
theorem ReqI.take (h : ReqI w0 mb L F left cnt m v zs wr) (hL : GoodE L) (hw : w64 r ∧ w64 l ∧ w64 0) (hh : hasE L r l 0 = true) (hr : RangeAt w' 33 mb w0.heap.size L.length F (fun z => left z && !z.sameKey (keyT r l 0)) cnt') (hc : cnt' < cnt)
    (ho : w'.ownsRow (w0.heap.size + 1) 3 1 v' m' ((zs ++ [r]).map (.int .i64))) (hb : Below w0.heap.size w0 w') (hle : w0.heap.size + 1 ≤ w'.heap.size) : ReqI w0 mb L F (fun z => left z && !z.sameKey (keyT r l 0)) cnt' m' v' (zs ++ [r]) w' := by
  have hkk : (keyT r l 0).sameKey (keyT r l 0) = true := WideAt.sameKey_self (keyT_isKey _ _ _)
  refine ⟨hr, ho, hb, hle, fun z => ?_, by have := h.len; simp; omega⟩
  rw [List.mem_append, List.mem_singleton, h.mem]
  constructor
  · rintro (⟨x, hx, h0, h1, h2⟩ | rfl)
    · exact ⟨x, hx, h0, h1, by simp [h2]⟩
    · obtain ⟨x, hx, rfl, rfl, h3⟩ := hasE_iff.1 hh
      exact ⟨x, hx, h3, rfl, by rw [h3, hkk]; simp⟩
  · rintro ⟨x, hx, h0, h1, h2⟩
    by_cases e : keyT x.r x.l x.p = keyT r l 0
    · exact .inr (by rw [← h1]; exact (keyT_inj (hL.bd x hx).2 hw e).1)
    · rw [sameKey_ne e] at h2
      exact .inl ⟨x, hx, h0, h1, by simpa using h2⟩
end

/-- what Requests answers -/
def ReqR (L : List Ent) (w : World) (e : Ending) (w' : World) : Prop :=
  (∃ (a : Option Addr) (n c : Nat) (zs : List Int), e = .returned (.slice a n c) ∧ Elems .i64 w' a n zs ∧ Once zs ∧ (∀ z, z ∈ zs ↔ ∃ x ∈ L, x.r = z) ∧ n ≤ L.length) ∧ Below w.heap.size w w'

/-- sorted and made thin, a row of the call's own -/
theorem sorted12 {w : World} {g n : Nat} {os : Array Obj} {base cap : Nat} {ss ts : List Int} (hl : ts.length = ss.length) (h : w.ownsRow base 3 1 (.slice (some ⟨g, 0, none⟩) ss.length cap) ss.length (ss.map (.int .i64))) :
    (grow (putRow (Value.int .i64) (Sort.ahead w n) g 0 ts.toArray) os).ownsRow base 3 1 (.slice (some ⟨g, 0, none⟩) ss.length cap) ss.length (ts.map (.int .i64)) := by
  rcases h.2 with ⟨h1, _⟩ | ⟨g', cap', cur, h1, hb, hg, hn, hc, hs, ht⟩
  · cases h1
  · cases h1
    exact ownsRow_sortedI hl hb hg hn hc hs
theorem holds12 {w : World} {g base cap : Nat} {ss : List Int} (h : w.ownsRow base 3 1 (.slice (some ⟨g, 0, none⟩) ss.length cap) ss.length (ss.map (.int .i64))) : Holds (Value.int .i64) w g 0 ss.toArray ∧ ss.length ≤ cap ∧ g < w.heap.size ∧ base ≤ g := by
  rcases h.2 with ⟨h1, _⟩ | ⟨g', cap', cur, h1, hb, hg, hn, hc, hs, ht⟩
  · cases h1
  · cases h1
    exact ⟨holds_of_blockI hg (by rw [Nat.mul_one] at ht; exact ht), hn, (Array.getElem?_eq_some_iff.1 hg).1, hb⟩

theorem infoInt12 : (Try.prog.info? 3).map (fun i => (i.zero, i.size, i.bytes)) = some (some (.int .i64 0), 1, 8) := by kernel_rfl

set_option maxHeartbeats 3200000 in
set_option maxRecDepth 100000 in
theorem reqs12 {w : World} {sb mb room : Nat} {L : List Ent} (hS : StoreAt w sb mb room L) :
    Calls Try.prog 18 #[.pointer (some ⟨sb, 0, none⟩)] w fun e w' => ReqR L w e w' := by
  obtain ⟨F0, hM, hF⟩ := hS.map
  have c1 : w.cell? ⟨sb, 1, none⟩ = some (.map (some mb)) := hS.box.cell 1
  have HI : ∀ w', RangeAt w' 33 mb w.heap.size L.length F0 (fun kl => (F0 kl).isSome) L.length → w.grownBy w' none → w'.heap.size = w.heap.size + 1 → Hid (ReqI w mb L F0 (fun kl => (F0 kl).isSome) L.length 0 (.slice none 0 0) [] w') := fun w' h1 h2 h3 => Lib.hid (by
    have hbw : Below w.heap.size w w' := ⟨h2.os, h2.tape, h2.output, h2.size, fun i hi => h2.block i hi (by simp)⟩
    refine ⟨h1, own_nil _ _ _, hbw, by omega, fun z => ⟨fun h => (by cases h), ?_⟩, by simp⟩
    rintro ⟨x, hx, _, _, h⟩
    obtain ⟨k, v, e, _⟩ := hF.2 x hx
    rw [e] at h
    cases h)
  have HF1 := Lib.hid hF.1
  have HM := Lib.hid hM
  have HML := Lib.hid hM.lt
  have HS := Lib.hid hS
  have HRM := Lib.hid hS.room
  clear hS hM hF
  go_enter Try.func18, Try.ntmps18
  go_wp2_with (refine wpList_rangeF rfl _ _ rfl 33 63 spot12_law Try.underlying58 mb L.length F0 rfl HM.out ?_)
  intro wa hra hga hsa
  have HI0 := HI wa hra hga hsa
  clear HI hra hga hsa HM c1
  go_wp2_with fail
  go_loopw [3, 4] (fun vv p4 wr => ∃ (left : Lit → Bool) (cnt m : Nat) (a : Option Addr) (c : Nat) (zs : List Int), vv = .slice a m c ∧ Hid (ReqI w mb L F0 left cnt m (.slice a m c) zs wr)) (fun _ _ wr => wr.rangeLeft mb w.heap.size)
  case atStart => exact ⟨_, _, 0, none, 0, [], rfl, HI0⟩
  case round =>
    obtain ⟨left, cnt, m, a, c, zs, rfl, HD⟩ := hrel
    clear HI0
    have hran := HD.out.ran
    go_upto_region 4 with (refine wpList_nextF (mkK := fun x : Int × Int × Int => spotV x.1 x.2.1 x.2.2) rfl _ rfl 33 spot12_law ?_ mb w.heap.size L.length F0 left cnt rfl hran ?_ ?_)
    · intro key kl hk
      obtain ⟨r, l, p, rfl, _⟩ := spot12_inv hk
      exact ⟨(r, l, p), rfl⟩
    · intro h0 hl
      have HO := Lib.hid HD.out.own
      have HE : Hid ((∀ z, z ∈ zs ↔ ∃ x ∈ L, x.r = z) ∧ zs.length ≤ L.length) := Lib.hid (by
        have hm := HD.out.mem
        have hlen := HD.out.len
        refine ⟨fun z => ?_, by omega⟩
        rw [hm, ← head12 HS.out.good]
        exact exists_congr fun x => and_congr_right fun hx => and_congr_right fun h0 => by simp [hl])
      have HB := Lib.hid HD.out.bel
      have HLE := Lib.hid HD.out.le
      clear hran hl h0
      have hlm : zs.length = m := by have := HO.out.1; simpa using this
      subst hlm
      by_cases h0 : zs.length = 0
      · have c1 := Try.slices_Sort_int_none a c wr
        have c2 := Try.slices_Compact_int_empty a c wr
        have hfin : Hid (ReqR L w (.returned (.slice a 0 c)) wr) := Lib.hid (by
          obtain rfl : zs = [] := List.length_eq_zero_iff.1 h0
          exact ⟨⟨a, 0, c, [], rfl, Elems.nil_ _ _ _, List.Pairwise.nil, HE.out.1, Nat.zero_le _⟩, HB.out⟩)
        rw [h0]
        clear h0
        go_upto_region 8 with (refine c1.mono ?_; (first | rintro e wx rfl rfl | rintro e wx ⟨rfl, rfl⟩))
        go_wp2_with (refine c2.mono ?_; (first | rintro e wx rfl rfl | rintro e wx ⟨rfl, rfl⟩))
        go_ret
        exact hfin.out
      · obtain ⟨g, rfl⟩ : ∃ g, a = some ⟨g, 0, none⟩ := by
          rcases HO.out.2 with ⟨h1, h2⟩ | ⟨g, cap, cur, h1, _⟩
          · simp only [Value.slice.injEq] at h1
            exact absurd h1.2.1 h0
          · simp only [Value.slice.injEq] at h1
            exact ⟨g, h1.1⟩
        obtain ⟨hH, hcap, hgl, hgb⟩ := holds12 HO.out
        have hlen : zs.length ≤ 1048576 := by have := HE.out.2; have := HRM.out; omega
        have c1 := Try.slices_Sort_int g 0 c zs wr hH hgl (by omega)
        clear hH
        go_upto_region 8 with (refine c1.mono ?_)
        rintro e wx ⟨rfl, n1, os, rfl⟩
        have ho2 := sorted12 (n := n1) (os := os) (ts := zs.mergeSort fun x y => decide (x ≤ y)) (by simp) HO.out
        have hg2 : wr.grownBy (grow (putRow (Value.int .i64) (Sort.ahead wr n1) g 0 (zs.mergeSort fun x y => decide (x ≤ y)).toArray) os) (some g) := grownBy_sortedI _
        generalize hwx : grow (putRow (Value.int .i64) (Sort.ahead wr n1) g 0 (zs.mergeSort fun x y => decide (x ≤ y)).toArray) os = wx at ho2 hg2 ⊢
        obtain ⟨ts, hts⟩ : ∃ ts, zs.mergeSort (fun x y => decide (x ≤ y)) = ts := ⟨_, rfl⟩
        have hco := compact_once zs
        rw [hts] at ho2 hco
        have htl : ts.length = zs.length := by rw [← hts, List.length_mergeSort]
        rw [← htl] at ho2
        have ho3 : wx.ownsRow (w.heap.size + 1) 3 1 (.slice (some ⟨g, 0, none⟩) ts.length c) ts.length (ts.map (.int .i64)) := ho2
        obtain ⟨hH3, hcap3, hgl3, hgb3⟩ := holds12 ho3
        have c2 := Try.slices_Compact_int g 0 c ts wx hH3 (by omega) hcap3
        have HO3 := Lib.hid ho3
        have HCO := Lib.hid hco
        have HG2 := Lib.hid hg2
        have HTL := Lib.hid htl
        have HGB := Lib.hid hgb
        rw [← htl]
        clear hwx hts hco ho2 ho3 hH3 hg2 htl hgl hgb hcap c1 hlen hcap3 hgl3 hgb3 h0
        go_wp2_with (refine c2.mono ?_)
        rintro e wy ⟨rfl, q, rfl⟩
        have hfin : Hid (ReqR L w (.returned (.slice (some ⟨g, 0, none⟩) (Lib.compact ts).length c)) (putRow (Value.int .i64) (Sort.ahead wx q) g 0 (Lib.compact ts ++ List.replicate (ts.length - (Lib.compact ts).length) 0).toArray)) := Lib.hid (by
          have hle := HCO.out.2.2
          have ho4 := sorted12 (n := q) (os := #[]) (ts := Lib.compact ts ++ List.replicate (ts.length - (Lib.compact ts).length) 0) (by have := HTL.out; simp; omega) HO3.out
          have hg4 : wx.grownBy (grow (putRow (Value.int .i64) (Sort.ahead wx q) g 0 (Lib.compact ts ++ List.replicate (ts.length - (Lib.compact ts).length) 0).toArray) #[]) (some g) := grownBy_sortedI _
          rw [grow_empty] at ho4 hg4
          have hw : ∀ x ∈ Lib.compact ts, (Lit.int .i64 x).wf = true := fun x hx => by
            obtain ⟨y, hy, rfl⟩ := (HE.out.1 x).1 ((HCO.out.2.1 x).1 hx)
            exact (HS.out.good.bd y hy).2.1
          obtain ⟨a', c', e, hE, _⟩ := own_reads ho4 (fun x hx => by
            rcases List.mem_append.1 hx with hx | hx
            · exact hw x hx
            · rw [List.eq_of_mem_replicate hx]; decide) (by have := HE.out.2; have := HRM.out; have := HTL.out; omega)
          cases e
          have hE2 := hE.take (Lib.compact ts).length (by have := HTL.out; omega)
          rw [List.take_left'  rfl] at hE2
          refine ⟨⟨_, _, _, _, rfl, hE2, HCO.out.1, fun z => (HCO.out.2.1 z).trans (HE.out.1 z), by have := HE.out.2; omega⟩, ?_⟩
          exact (HB.out.grown HG2.out HB.out.size (fun k hk => by cases hk; have := HGB.out; omega)).grown hg4 (Nat.le_trans HB.out.size HG2.out.size) (fun k hk => by cases hk; have := HGB.out; omega))
        clear c2
        go_wp2_with fail
        go_ret
        exact hfin.out
    · intro r l p v kl w1 cnt1 hk hlk hv hr1 hlt1 hg1 hs1 hen
      obtain ⟨r', l', p', e, wr', wl', wp', rfl⟩ := spot12_inv hk
      obtain ⟨rfl, rfl, rfl⟩ : r = r' ∧ l = l' ∧ p = p' := by simpa [spotV] using e
      have hsome := hran.has spot12_law hlk
      have hvv : hasE L r l p = true := by rw [← HF1.out r l p wr' wl' wp']; exact hsome
      have HW := Lib.hid (And.intro wr' (And.intro wl' wp'))
      have HV := Lib.hid hvv
      have HR1 := Lib.hid hr1
      have HG1 := Lib.hid hg1
      have HLT := Lib.hid hlt1
      clear hv hr1 hlk wr' wl' wp' hsome e hk hran hvv hlt1 hs1 hg1
      unfold spotV at hen
      go_upto_region 5 with (fail)
      generalize hw2 : World.alloc _ _ = w2
      have hb2 : Below w1.heap.size w1 w2 := by rw [← hw2]; exact (Below.refl _ _).alloc (Nat.le_refl _) _
      have hg2 : wr.grownBy w2 (some w.heap.size) := by rw [← hw2]; exact HG1.out.trans (World.grownBy_alloc _ _ _)
      have X1 : Box w2 w1.heap.size 33 #[.int .i64 r, .int .i64 l, .int .i64 p] := by rw [← hw2]; exact box_new _ _ _
      have HR2 := Lib.hid (HR1.out.bel hb2)
      have z0 : w2.cell? ⟨w1.heap.size, 0, none⟩ = some (.int .i64 r) := X1.cell 0
      have z2 : w2.cell? ⟨w1.heap.size, 2, none⟩ = some (.int .i64 p) := X1.cell 2
      have HG2 := Lib.hid hg2
      clear hw2 hb2 X1 hen HR1 HG1 hg2
      by_cases hp : p = 0
      · subst hp
        have hown2 : w2.ownsRow (w.heap.size + 1) 3 1 (.slice a m c) m (zs.map (.int .i64)) := HD.out.own.kept HG2.out (own_ne HD.out.own (Nat.lt_succ_self _))
        have hml : m ≤ 1048576 := by
          have h1 : zs.length = m := by have := HD.out.own.1; simpa using this
          have := HD.out.len
          have := HRM.out
          omega
        have hle2 : w.heap.size + 1 ≤ w2.heap.size := Nat.le_trans HD.out.le HG2.out.size
        obtain ⟨v', w3, hrun, ho3, hg3, hb3⟩ := run_append_val 50 3 (.int .i64 0) 8 Try.underlying50 infoInt12 rfl (by omega) w2 (w.heap.size + 1) _ m _ (.int .i64 r) rfl hown2 (by omega) hle2
        have HB3 : Hid (Below w.heap.size w w3) := Lib.hid ((HD.out.bel.grown HG2.out HD.out.bel.size (fun k hk => by cases hk; exact Nat.le_refl _)).grown hg3 (Nat.le_of_succ_le hle2) (fun k hk => by have := (hown2.lt k hk).1; omega))
        have HL3 : Hid (w.heap.size + 1 ≤ w3.heap.size) := Lib.hid (Nat.le_trans hle2 hg3.size)
        have HR3 : Hid (RangeAt w3 33 mb w.heap.size L.length F0 (fun z => left z && !z.sameKey (keyT r l 0)) cnt1) := Lib.hid (HR2.out.kept hg3 (fun e => by have := (hown2.lt _ e.symm).1; have := HML.out; omega) (fun e => by have := (hown2.lt _ e.symm).1; omega))
        obtain ⟨a', c', rfl⟩ : ∃ a' c', v' = .slice a' (m + 1) c' := by
          rcases ho3.2 with ⟨_, e⟩ | ⟨g, cap, cur, rfl, _⟩
          · omega
          · exact ⟨_, _, rfl⟩
        have HN : Hid (ReqI w mb L F0 (fun z => left z && !z.sameKey (keyT r l 0)) cnt1 (m + 1) (.slice a' (m + 1) c') (zs ++ [r]) w3) := Lib.hid
          (HD.out.take HS.out.good HW.out HV.out HR3.out HLT.out (by rw [List.map_append]; exact ho3) HB3.out HL3.out)
        clear hown2 hml hle2 ho3 hg3 hb3
        go_wp2_with (at_builtin; (with_reducible refine wpList_append_run ?_ (.tmp 17) (.tmp 20) 50 ?_ _ _ ?_ ?_ hrun ?_); rfl; rfl; rfl; rfl)
        go_roundw
        case rel => exact ⟨_, _, m + 1, a', c', _, rfl, HN⟩
        case measure => rw [HN.out.ran.left_eq, HD.out.ran.left_eq]; exact HLT.out
      · have hpb : (p == 0) = false := by simpa using hp
        have HN : Hid (ReqI w mb L F0 (fun z => left z && !z.sameKey (keyT r l p)) cnt1 m (.slice a m c) zs w2) := Lib.hid (HD.out.skip HS.out.good HW.out hp HR2.out HLT.out HG2.out)
        clear hp
        go_wp2
        go_roundw
        case rel => exact ⟨_, _, m, a, c, _, rfl, HN⟩
        case measure => rw [HN.out.ran.left_eq, HD.out.ran.left_eq]; exact HLT.out

end Go.Proofs.Ytolmejaedldeeaa
