import Derived.Test.YtoeihigdndkjeaaGreatDoorP21
/-
  The document's Of: right weights of a shape and its numbers.
-/
namespace Go.Proofs.YtoeihigdndkjeaaGreatDoor
open Go.RowKit Go.Shelf
set_option linter.unusedVariables false

/-- outside the loop: numbers are taken into the weights themselves -/
structure EdS (s : Sz) (la : Option Addr) (ln lcap : Nat) (n0 : Nat) (W0 : World) (q : Nat) (cb : Array Value) (V : Value) (k : Nat) (bs : List Bk7) (rs : List Rw) (gs : List Gr) (w : World) : Prop where
  sh : Box w n0 45 #[.int .i64 s.l, .int .i64 s.w, .int .i64 s.h, .int .i64 s.i, .int .i64 s.v, .int .i64 s.p]
  rz : Box w (n0 + 1) 50 zwts
  tk : TakerAt w (n0 + 2) la ln lcap q
  ws : Box w (n0 + 3) 50 cb
  n8 : No8 cb
  own : w.ownsRow (n0 + 4) 66 20 V k (bs.flatMap fun b => b.cells.toList)
  bin : ∀ b ∈ bs, b.In w
  rows : ∀ r ∈ rs, r.In .i8 w
  mats : ∀ g ∈ gs, g.In8 w
  bel : Below n0 W0 w
section
variable {s : Sz} {W0 w w' : World} {n0 : Nat} {la : Option Addr} {ln lcap q n k : Nat} {cb : Array Value} {V : Value} {bs : List Bk7} {rs : List Rw} {gs : List Gr}
theorem own_ne {base : Nat} {T : TypeId} {xs : List Value} (h : w.ownsRow base T 20 V k xs) {g : Nat} (hg : g < base) : V.ownBlock ≠ some g := fun e => by have := (h.lt g e).1; omega
theorem EdS.step (h : EdS s la ln lcap n0 W0 q cb V k bs rs gs w) {q' : Nat} (ht : TakerAt w' (n0 + 2) la ln lcap q') (hw : w.grownBy w' (some (n0 + 2))) (rs' : List Rw) (gs' : List Gr) (hr : ∀ r ∈ rs', r.In .i8 w') (hg : ∀ g ∈ gs', g.In8 w') : EdS s la ln lcap n0 W0 q' cb V k bs (rs' ++ rs) (gs' ++ gs) w' := by
  have hk := but_grown hw
  refine ⟨h.sh.kept hw (by simp), h.rz.kept hw (by simp), ht, h.ws.kept hw (by simp), h.n8, h.own.kept hw (.inr (own_ne h.own (by omega))), fun b hb => bk_but h.tk no8_taker hk (h.bin b hb), ?_, ?_, h.bel.grown hw (by have := h.ws.lt; omega) (fun j hj => by simp at hj; omega)⟩
  · intro r hr'
    rcases List.mem_append.1 hr' with h1 | h1
    · exact hr r h1
    · exact rw_but h.tk no8_taker hk (h.rows r h1)
  · intro g hg'
    rcases List.mem_append.1 hg' with h1 | h1
    · exact hg g h1
    · exact gr_but h.tk no8_taker hk (h.mats g h1)
theorem EdS.took (h : EdS s la ln lcap n0 W0 q cb V k bs rs gs w) {ys : List Int} {e : Ending} (t : Took w (n0 + 2) la ln lcap q n ys e w') :
    ∃ g : Rw, e = .returned (.slice g.a g.n g.cap) ∧ g.v = ys ∧ g.n = n ∧ EdS s la ln lcap n0 W0 (q + n) cb V k bs (g :: rs) gs w' := by
  obtain ⟨⟨g, he, hi, hv, hn, hb⟩, ht, hw⟩ := t
  exact ⟨g, he, hv, hn, h.step ht hw [g] [] (by simpa using hi) (by simp)⟩
theorem EdS.tookG (h : EdS s la ln lcap n0 W0 q cb V k bs rs gs w) {R C : Nat} {ys : List Int} {e : Ending} (t : TookG w (n0 + 2) la ln lcap q R C ys e w') :
    ∃ g : Gr, e = .returned (.agg #[.int .i64 g.r, .int .i64 g.c, .slice g.a g.n g.cap]) ∧ g.v = ys ∧ matB8 R C g ∧ (∀ x, g.a = some x → w.heap.size ≤ x.block) ∧ EdS s la ln lcap n0 W0 (q + R * C) cb V k bs rs (g :: gs) w' := by
  obtain ⟨⟨g, he, hi, hv, hn, hb⟩, ht, hw⟩ := t
  exact ⟨g, he, hv, hn, hb, h.step ht hw [] [g] (by simp) (by simpa using hi)⟩
theorem EdS.put (h : EdS s la ln lcap n0 W0 q cb V k bs rs gs w) (o : Nat) (v : Value) {cb' : Array Value} (hc : cb.setIfInBounds o v = cb') (h8 : No8 cb') : EdS s la ln lcap n0 W0 q cb' V k bs rs gs (w.setCell ⟨n0 + 3, o, none⟩ v) := by
  subst hc
  have hk : But (n0 + 3) w (w.setCell ⟨n0 + 3, o, none⟩ v) := fun k hk hne => Below.heap_setCell w ⟨n0 + 3, o, none⟩ v k hne
  exact ⟨h.sh.other v (by omega), h.rz.other v (by omega), Box.but h.tk hk (by omega), h.ws.set o v, h8, ownsRow_setCell_below h.own (by show n0 + 3 < n0 + 4; omega) v, fun b hb => bk_but h.ws h.n8 hk (h.bin b hb), fun r hr => rw_but h.ws h.n8 hk (h.rows r hr), fun g hg => gr_but h.ws h.n8 hk (h.mats g hg), h.bel.setCell (by show n0 ≤ n0 + 3; omega) v⟩
theorem EdS.fin (h : EdS s la ln lcap n0 W0 q cb V k bs rs gs w) (cs : Array Value) :
    (w.setRow (n0 + 1) cs).ownsRow (n0 + 4) 66 20 V k (bs.flatMap fun b => b.cells.toList) ∧ (∀ b ∈ bs, b.In (w.setRow (n0 + 1) cs)) ∧ (∀ r ∈ rs, r.In .i8 (w.setRow (n0 + 1) cs)) ∧ (∀ g ∈ gs, g.In8 (w.setRow (n0 + 1) cs)) := by
  have hg := grownBy_setRow w (n0 + 1) cs
  have hk := but_grown hg
  have hz : No8 zwts := no8_of (by simp [zwts])
  exact ⟨h.own.kept hg (.inr (own_ne h.own (by omega))), fun b hb => bk_but h.rz hz hk (h.bin b hb), fun r hr => rw_but h.rz hz hk (h.rows r hr), fun g hg' => gr_but h.rz hz hk (h.mats g hg')⟩
end

theorem mat_is {r c : Nat} {g : Gr} (h : matB8 r c g) : matB r c g = true := by
  unfold matB
  simp [h.1, h.2.1, h.2.2]
theorem grown_new (w : World) (o : Obj) (cs : Array Value) (row : Option Nat) : w.grownBy ((w.alloc o).setRow w.heap.size cs) row := by
  have g1 := World.grownBy_alloc w o row
  have gS := grownBy_setRow (w.alloc o) w.heap.size cs
  exact ⟨gS.os.trans g1.os, gS.tape.trans g1.tape, gS.output.trans g1.output, Nat.le_trans g1.size gS.size, fun k hk hne => (gS.block k (by have := g1.size; omega) (by simp; omega)).trans (g1.block k hk hne)⟩
/-- a block more -/
theorem LpS.next {s : Sz} {xs : List Int} {la : Option Addr} {ln lcap n0 : Nat} {W0 : World} {e : Gr} {k : Nat} {V : Value} {bs : List Bk7} {wr w : World} {gB : Nat} {b : Bk7} {rs : List Rw} {gs : List Gr}
    (h : LpS s xs la ln lcap n0 W0 e k V bs wr) (hs : RdS wr (n0 + 2) gB la ln lcap (s.v * s.w + k * blkN s + blkN s) b.cells rs gs w) (hx : b.x ∈ rs ∧ b.y ∈ rs) (hg : b.q ∈ gs ∧ b.k ∈ gs ∧ b.v ∈ gs ∧ b.o ∈ gs ∧ b.u ∈ gs ∧ b.d ∈ gs)
    (hb : bkB s b = true) (hn : b.blk = blkOf s xs (s.v * s.w + k * blkN s)) (hk : k ≤ 1000) :
    ∃ V' w2, Sem.run Tryz.prog (Builtin.append_ #[48, 48] 48 #[V, .slice (some ⟨w.heap.size, 0, none⟩) 1 1]) (w.alloc (.cells b.cells 66)) = .ok V' w2 ∧
      Box w2 (n0 + 3) 50 (ofCells s.l s.w s.h s.i s.v s.p e V) ∧ LpS s xs la ln lcap n0 W0 e (k + 1) V' (bs ++ [b]) (w2.setCell ⟨n0 + 3, 9, none⟩ V') := by
  have hne2 : V.ownBlock ≠ some (n0 + 2) := own_ne h.own (by omega)
  have hbase : n0 + 4 ≤ wr.heap.size := by have := h.ws.lt; omega
  have hle := hs.grow.size
  have hown := h.own.kept hs.grow (.inr hne2)
  have hk2 := but_grown hs.grow
  have e1 : e.In8 w := gr_but h.tk no8_taker hk2 h.e8
  have b1 : ∀ c ∈ bs, c.In w := fun c hc => bk_but h.tk no8_taker hk2 (h.bin c hc).1
  have bb : b.In w := ⟨hs.rows _ hx.1, hs.rows _ hx.2, hs.mats _ hg.1, hs.mats _ hg.2.1, hs.mats _ hg.2.2.1, hs.mats _ hg.2.2.2.1, hs.mats _ hg.2.2.2.2.1, hs.mats _ hg.2.2.2.2.2⟩
  have hvl : ∀ j, V.ownBlock = some j → j < wr.heap.size := fun j hj => (h.own.lt j hj).2
  have bap : ApB V b := by
    have r1 : ∀ r ∈ rs, ApR V r := fun r hr => apR_new (hs.rnew r hr) hvl
    have r2 : ∀ g ∈ gs, ApR V g.row := fun g hg => apR_new (r := g.row) (hs.gnew g hg) hvl
    exact ⟨r1 _ hx.1, r1 _ hx.2, r2 _ hg.1, r2 _ hg.2.1, r2 _ hg.2.2.1, r2 _ hg.2.2.2.1, r2 _ hg.2.2.2.2.1, r2 _ hg.2.2.2.2.2⟩
  obtain ⟨V', w2, hrun, ho, hgr, hvb⟩ := run_append_block w (n0 + 4) V k bs b hown hk (by omega)
  have k3 : ∀ {g : Nat} {T : TypeId} {cs : Array Value}, Box wr g T cs → g < n0 + 4 → g ≠ n0 + 2 → Box w2 g T cs := fun hB hlt hne => (hB.kept hs.grow (by simpa using hne)).kept hgr (own_ne hown hlt).symm
  have X3 := k3 h.ws (by omega) (by omega)
  have hk3 : But (n0 + 3) w2 (w2.setCell ⟨n0 + 3, 9, none⟩ V') := fun k hk hne => Below.heap_setCell w2 ⟨n0 + 3, 9, none⟩ V' k hne
  have tk2 : TakerAt w2 (n0 + 2) la ln lcap (s.v * s.w + k * blkN s + blkN s) := Box.kept hs.tk hgr (own_ne hown (by omega)).symm
  have e2 := gr_ap (v := V) e1 h.eap hgr
  obtain ⟨Va, Vn, Vc, hV⟩ : ∃ a n c, V = .slice a n c := by
    rcases hown.2 with ⟨h1, _⟩ | ⟨g, cap, cur, h1, _⟩
    · exact ⟨none, 0, 0, h1⟩
    · exact ⟨_, k, cap, h1⟩
  have n8V : No8 (ofCells s.l s.w s.h s.i s.v s.p e V) := by rw [hV]; exact no8_of9
  have HBel : Below n0 W0 w2 := (h.bel.grown hs.grow (by omega) (fun j hj => by simp at hj; omega)).grown hgr (by omega) (fun j hj => by have := (hown.lt j hj).1; omega)
  have hvb2 : V'.ownBlock = V.ownBlock ∨ V'.ownBlock = some (w.heap.size + 1) := hvb
  refine ⟨V', w2, hrun, X3, ?_, ?_, ?_, ?_, ?_, ?_, ?_, by rw [List.length_append, h.len]; rfl, ?_, HBel.setCell (by show n0 ≤ n0 + 3; omega) V', h.ev, ?_⟩
  · exact (k3 h.sh (by omega) (by omega)).other V' (by omega)
  · exact (k3 h.rz (by omega) (by omega)).other V' (by omega)
  · rw [Nat.add_mul, Nat.one_mul, ← Nat.add_assoc]
    exact Box.but tk2 hk3 (by omega)
  · exact X3.set 9 V'
  · exact gr_but X3 n8V hk3 e2
  · exact apR_step e1.row h.eap hvb2 (by omega)
  · exact ownsRow_setCell_below ho (by show n0 + 3 < n0 + 4; omega) V'
  · intro c hc
    rcases List.mem_append.1 hc with h1 | h1
    · obtain ⟨_, c2, c3⟩ := h.bin c h1
      exact ⟨bk_but X3 n8V hk3 (bk_ap (b1 c h1) c2 hgr), apB_step (b1 c h1) c2 hvb2 (by omega), c3⟩
    · obtain rfl := List.mem_singleton.1 h1
      exact ⟨bk_but X3 n8V hk3 (bk_ap bb bap hgr), apB_step bb bap hvb2 (by omega), hb⟩
  · intro i hi
    by_cases e9 : i < k
    · rw [List.getD_eq_getElem?_getD, List.getElem?_append_left (by rw [h.len]; exact e9), ← List.getD_eq_getElem?_getD]
      exact h.num i e9
    · obtain rfl : i = k := by omega
      rw [List.getD_eq_getElem?_getD, List.getElem?_append_right (by rw [h.len]; exact Nat.le_refl _), h.len, Nat.sub_self]
      exact hn

end Go.Proofs.YtoeihigdndkjeaaGreatDoor
