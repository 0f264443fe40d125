/-
  Blocks of which every cell is of some kind; lists of structs that the call owns, in such blocks.
-/
import Derived.Test.YtkinbngikmcpeaaAppRow
import Derived.Test.YtkinbngikmcpeaaNew7
import Derived.Test.YtkinbngikmcpeaaSetN
namespace Go.Proofs.Ytkinbngikmcpeaa
open Go.RowKit
set_option linter.unusedVariables false

/-- a block of a type, every cell of it is of some kind -/
def AllC (ok : Value → Prop) (w : World) (X : TypeId) (g : Nat) : Prop := ∃ cs, Box w g X cs ∧ ∀ u ∈ cs.toList, ok u
section
variable {ok : Value → Prop} {w w' : World} {X : TypeId} {g : Nat}
theorem AllC.lt (h : AllC ok w X g) : g < w.heap.size := let ⟨_, h, _⟩ := h; h.lt
theorem AllC.blk (h : AllC ok w X g) (hk : w'.heap[g]? = w.heap[g]?) : AllC ok w' X g := let ⟨cs, h1, h2⟩ := h; ⟨cs, hk.trans h1, h2⟩
theorem AllC.bel (h : AllC ok w X g) (hb : Below w.heap.size w w') : AllC ok w' X g := h.blk (hb.block g h.lt)
/-- what is of another kind doesn't lie there -/
theorem AllC.ne (h : AllC ok w X g) {b o : Nat} {v : Value} (hc : w.cell? ⟨b, o, none⟩ = some v) (hv : ¬ ok v) : b ≠ g := by
  obtain ⟨cs, h1, h2⟩ := h
  rintro rfl
  rw [h1.cell, ← Array.getElem?_toList] at hc
  exact hv (h2 v (List.mem_of_getElem? hc))
theorem AllC.box_ne (h : AllC ok w X g) {b : Nat} {T : TypeId} {cs : Array Value} (hb : Box w b T cs) (hT : T ≠ X) : b ≠ g := by
  obtain ⟨c2, h1, _⟩ := h
  rintro rfl
  have := hb.symm.trans h1
  simp at this
  exact hT this.2
end
/-- no number of 8 bits -/
def No8 (u : Value) : Prop := ∀ z, u ≠ .int .i8 z
theorem no8_i64 (z : Int) : No8 (.int .i64 z) := fun y e => by cases e
theorem no8_slice (a : Option Addr) (n c : Nat) : No8 (.slice a n c) := fun y e => by cases e
/-- rows of bytes stand where a block without any turns -/
theorem rw_no8 {w w' : World} {q : Rw} {X : TypeId} {g : Nat} (h : q.In .i8 w) (hA : AllC No8 w X g) (hg : w.grownBy w' (some g)) : q.In .i8 w' :=
  ⟨⟨h.1.1, h.1.2.1, h.1.2.2.1, fun hn => let ⟨b, off, ha, hc⟩ := h.1.2.2.2 hn; ⟨b, off, ha, fun i hi => by
    have h0 := hc i hi
    rw [World.cell?_of_block (w := w) (a := ⟨b, off + i, none⟩) (hg.block b (World.block_lt_of_cell? _ _ h0) (fun e => hA.ne h0 (fun k => k _ rfl) (Option.some.inj e)))]
    exact h0⟩⟩, h.2⟩

theorem zeros_ok {ok : Value → Prop} (z : Array Value) (hz : ∀ u ∈ z.toList, ok u) (h0 : 0 < z.size) (n : Nat) : ∀ u ∈ (Builtin.zeroCells z n).toList, ok u := by
  intro u hu
  unfold Builtin.zeroCells at hu
  simp at hu
  obtain ⟨q, _, e⟩ := hu
  have hm := Nat.mod_lt q h0
  rw [getElem!_pos z _ hm] at e
  rw [← e]
  exact hz _ (by simp)
/-- an element more, behind a row of the call's own of such -/
theorem append_c {P : Program} {ok : Value → Prop} (w : World) (base : Nat) (t e : TypeId) (z : Value) (size bytes : Nat) (ht : P.underlying t = some (.slice e)) (hinfo : (P.info? e).map (fun i => (i.zero, i.size, i.bytes)) = some (some z, size, bytes)) (hzs : z.cells.size = size) (hsz : 0 < size) (hs10 : size ≤ 40) (hb100 : bytes ≤ 400)
    (hzc : ∀ u ∈ z.cells.toList, ok u) (lv : Value) (p : Nat) (xs news : List Value) (h : w.ownsRow base e size lv p xs) (hsl : ∀ g, lv.ownBlock = some g → AllC ok w e g) (hp : p ≤ 2000000) (hl : news.length = size) (hsn : ∀ u ∈ news, ok u) (hone : ∀ u ∈ news, u.oneCell' = true) (hbase : base ≤ w.heap.size) :
    ∃ g cap w', Sem.run P (Builtin.append_ #[t, t] t #[lv, .slice (some ⟨w.heap.size, 0, none⟩) 1 1]) (w.alloc (.cells news.toArray e)) = .ok (.slice (some ⟨g, 0, none⟩) (p + 1) cap) w' ∧
      w'.ownsRow base e size (.slice (some ⟨g, 0, none⟩) (p + 1) cap) (p + 1) (xs ++ news) ∧ AllC ok w' e g ∧ w.grownBy w' lv.ownBlock ∧ (lv.ownBlock = some g ∨ g = w.heap.size + 1) ∧ p + 1 ≤ cap ∧ cap ≤ 9223372036854775807 := by
  obtain ⟨i, hi, hz, hsize, hby⟩ : ∃ i, P.info? e = some i ∧ i.zero = some z ∧ i.size = size ∧ i.bytes = bytes := by
    cases hh : P.info? e with
    | none => rw [hh] at hinfo; cases hinfo
    | some i => rw [hh] at hinfo; simp only [Option.map_some, Option.some.injEq, Prod.mk.injEq] at hinfo; exact ⟨i, rfl, hinfo.1, hinfo.2.1, hinfo.2.2⟩
  have hnews := World.news_of_block (cs := news.toArray) (t := e) (fr := (0, 0)) (heap_alloc_new w (.cells news.toArray e))
  have hpb : (p + 1) * bytes ≤ 2000001 * 400 := Nat.mul_le_mul (by omega) hb100
  obtain ⟨v', w', hr, h2, h3, _, h4⟩ := run_append_own_at (P := P) (w.alloc (.cells news.toArray e)) base t t e i z size bytes ht hi hz hsize hby hzs hsz lv p _ (h.alloc _)
    ⟨w.heap.size, 0, none⟩ 1 1 news (by omega) (by simpa using hnews) hone (by unfold maxLen; omega) (by omega) (by simp; omega)
  rw [World.size_alloc] at h4
  have hg := (World.grownBy_alloc w (.cells news.toArray e) lv.ownBlock).trans h3
  have hv : ∃ g cap, v' = .slice (some ⟨g, 0, none⟩) (p + 1) cap ∧ p + 1 ≤ cap ∧ cap ≤ 9223372036854775807 := by
    rcases h2.2 with ⟨_, e⟩ | ⟨g, cap, cur, e, _, _, h5, h6, _⟩
    · omega
    · unfold maxLen at h6
      exact ⟨g, cap, e, h5, by omega⟩
  obtain ⟨g, cap, rfl, hc1, hc2⟩ := hv
  simp only [Value.ownBlock, Option.some.injEq] at h4
  refine ⟨g, cap, w', hr, h2, ?_, hg, h4.imp (fun e => e.symm) id, hc1, hc2⟩
  clear h4 hg h3 hc1 hc2
  obtain ⟨wl, hwl⟩ : ∃ wl, w.alloc (.cells news.toArray e) = wl := ⟨_, rfl⟩
  have hbw : Below w.heap.size w wl := by rw [← hwl]; exact (Below.refl _ _).alloc (Nat.le_refl _) _
  rw [hwl] at hr
  have hnews' : ∀ j u, news[j]? = some u → wl.cell? ((⟨w.heap.size, 0, none⟩ : Addr).add j) = some u := by rw [← hwl]; simpa using hnews
  have hzero := zeros_ok z.cells hzc (by omega)
  subst hsize hby
  rcases h.2 with ⟨rfl, rfl⟩ | ⟨g0, cap0, cur, rfl, hb0, hg0, hnc, hcm, hcs, htk⟩
  · have e := run_append_nil (P := P) (w := wl) t t e i _ ht hi hz ⟨w.heap.size, 0, none⟩ 1 1 news (by omega) hnews' (by omega) (by omega) (by omega)
    rw [hr] at e
    simp only [Result.ok.injEq, Value.slice.injEq, Option.some.injEq, Addr.mk.injEq] at e
    obtain ⟨⟨⟨rfl, _⟩, _⟩, rfl⟩ := e
    refine ⟨_, box_new wl.drew _ _, fun u hu => ?_⟩
    rw [Array.toList_append] at hu
    rcases List.mem_append.1 hu with h5 | h5
    · exact hsn u h5
    · exact hzero _ u h5
  · obtain ⟨cs2, hB, h64⟩ := hsl g0 rfl
    have hcur : cs2 = cur := by
      have := hB.symm.trans hg0
      simpa using this
    subst hcur
    have hBl : Box wl g0 e cs2 := hB.bel hbw
    by_cases hroom : p + 1 ≤ cap0
    · have hfit : p * i.size + news.length ≤ cs2.size := by rw [hl, hcs]; have := Nat.mul_le_mul_right i.size hroom; rw [Nat.add_mul, Nat.one_mul] at this; exact this
      have e := run_append_room (P := P) (w := wl) t t e i ht hi g0 p cap0 cs2 hBl ⟨w.heap.size, 0, none⟩ 1 1 news (by omega) hnews' hone hroom hfit
      rw [hr] at e
      simp only [Result.ok.injEq, Value.slice.injEq, Option.some.injEq, Addr.mk.injEq] at e
      obtain ⟨⟨⟨rfl, _⟩, _⟩, rfl⟩ := e
      refine ⟨_, hBl.setRow, fun u hu => ?_⟩
      rcases List.mem_append.1 hu with h5 | h5
      · rcases List.mem_append.1 h5 with h6 | h6
        · exact h64 u (List.mem_of_mem_take h6)
        · exact hsn u h6
      · exact h64 u (List.mem_of_mem_drop h5)
    · have holds : ∀ j u, (cs2.toList.take (p * i.size))[j]? = some u → wl.cell? ((⟨g0, 0, none⟩ : Addr).add j) = some u := by
        intro j u hu
        rw [List.getElem?_take] at hu
        split at hu
        · have := hBl.cell j
          simp only [Addr.add_lit, Nat.zero_add]
          rw [this, ← Array.getElem?_toList]; exact hu
        · cases hu
      have hpc : p * i.size ≤ cs2.size := by rw [hcs]; exact Nat.mul_le_mul_right _ hnc
      have e := run_append_grow (P := P) (w := wl) t t e i _ ht hi hz ⟨g0, 0, none⟩ p cap0 (cs2.toList.take (p * i.size)) (by simp; omega) holds ⟨w.heap.size, 0, none⟩ 1 1 news (by omega) hnews' (by omega) (by omega)
        (by have h9 := nextslicecap_le (need := p + 1) (old := cap0) (by omega); have := Nat.mul_le_mul h9 hb100; omega)
      rw [hr] at e
      simp only [Result.ok.injEq, Value.slice.injEq, Option.some.injEq, Addr.mk.injEq] at e
      obtain ⟨⟨⟨rfl, _⟩, _⟩, rfl⟩ := e
      refine ⟨_, box_new wl.drew _ _, fun u hu => ?_⟩
      rw [Array.toList_append, Array.toList_append] at hu
      rcases List.mem_append.1 hu with h5 | h5
      · rcases List.mem_append.1 h5 with h6 | h6
        · exact h64 u (List.mem_of_mem_take h6)
        · exact hsn u h6
      · exact hzero _ u h5


/-- a list of structs that the call owns; of each cell of its block the kind is known -/
structure ListAt (ok : Value → Prop) (w : World) (base : Nat) (e : TypeId) (size : Nat) (v : Value) (n : Nat) (xs : List Value) : Prop where
  own : w.ownsRow base e size v n xs
  all : ∀ g, v.ownBlock = some g → AllC ok w e g
section
variable {ok : Value → Prop} {w w' : World} {base n size : Nat} {e : TypeId} {v : Value} {xs : List Value}
theorem listAt_nil (ok : Value → Prop) (w : World) (base : Nat) (e : TypeId) (size : Nat) : ListAt ok w base e size (.slice none 0 0) 0 [] := ⟨⟨by simp, .inl ⟨rfl, rfl⟩⟩, fun g h => by simp [Value.ownBlock] at h⟩
theorem ListAt.blk (h : ListAt ok w base e size v n xs) (hk : ∀ g, v.ownBlock = some g → w'.heap[g]? = w.heap[g]?) : ListAt ok w' base e size v n xs := by
  refine ⟨⟨h.own.1, ?_⟩, fun g hg => (h.all g hg).blk (hk g hg)⟩
  rcases h.own.2 with hn | ⟨g, cap, cur, rfl, hb, hg, rest⟩
  · exact .inl hn
  · exact .inr ⟨g, cap, cur, rfl, hb, (hk g rfl).trans hg, rest⟩
theorem ListAt.bel (h : ListAt ok w base e size v n xs) (hb : Below w.heap.size w w') : ListAt ok w' base e size v n xs := h.blk fun g hg => hb.block g (h.all g hg).lt
theorem ListAt.kept (h : ListAt ok w base e size v n xs) {row : Option Nat} (hg : w.grownBy w' row) (hne : ∀ g, v.ownBlock = some g → row ≠ some g) : ListAt ok w' base e size v n xs := h.blk fun g e => hg.block g (h.all g e).lt (fun x => hne g e x.symm)
theorem ListAt.shape (h : ListAt ok w base e size v n xs) : ∃ a c, v = .slice a n c := by
  rcases h.own.2 with ⟨h1, h2⟩ | ⟨g, cap, cur, h1, _⟩
  · exact ⟨none, 0, by rw [h1, h2]⟩
  · exact ⟨_, _, h1⟩
/-- its cells -/
theorem ListAt.cells (h : ListAt ok w base e size v n xs) (h0 : 0 < n) : ∃ g c, v = .slice (some ⟨g, 0, none⟩) n c ∧ n ≤ c ∧ c ≤ 9223372036854775807 ∧ g < w.heap.size ∧ base ≤ g ∧ ∀ j, j < n * size → w.cell? ⟨g, j, none⟩ = xs[j]? := by
  rcases h.own.2 with ⟨h1, h2⟩ | ⟨g, cap, cur, rfl, hb, hg, hn, hc, hs, ht⟩
  · omega
  · refine ⟨g, cap, rfl, hn, by unfold maxLen at hc; omega, (Array.getElem?_eq_some_iff.1 hg).1, hb, fun j hj => ?_⟩
    rw [cell_of_row w g j cur e (0, 0) hg, ← ht, List.getElem?_take_of_lt hj, Array.getElem?_toList]
end
/-- a list of structs, by its elements -/
theorem flat_at {α : Type} (f : α → List Value) (size : Nat) (hf : ∀ x, (f x).length = size) : ∀ (D : List α) (i d : Nat) (hi : i < D.length), d < size → (D.flatMap f)[i * size + d]? = (f (D[i]))[d]? := by
  intro D
  induction D with
  | nil => intro i d hi; exact absurd hi (by simp)
  | cons x D ih =>
    intro i d hi hd
    rw [List.flatMap_cons]
    cases i with
    | zero => rw [Nat.zero_mul, Nat.zero_add, List.getElem?_append_left (by rw [hf]; exact hd)]; rfl
    | succ i =>
      rw [List.getElem?_append_right (by rw [hf, Nat.succ_mul]; omega), hf, show (i + 1) * size + d - size = i * size + d by rw [Nat.succ_mul]; omega]
      exact ih i d (by simpa using hi) hd
theorem flat_len {α : Type} (f : α → List Value) (size : Nat) (hf : ∀ x, (f x).length = size) (D : List α) : (D.flatMap f).length = D.length * size := by
  induction D with
  | nil => simp
  | cons x D ih => rw [List.flatMap_cons, List.length_append, hf, ih, List.length_cons, Nat.succ_mul]; omega

end Go.Proofs.Ytkinbngikmcpeaa
