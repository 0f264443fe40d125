/-
  The document's Hear: contract.
-/
import Derived.Test.YtkinbngikmcpeaaDPart16
import Derived.Test.YtkinbngikmcpeaaTake16
import Derived.Test.YtkinbngikmcpeaaLoadPart
import Derived.Deep.CutRange
namespace Go.Proofs.Ytkinbngikmcpeaa
open Go.RowKit Go.Maps
set_option linter.unusedVariables false

theorem ack_cells (W Sp R : Nat) (st : Lk16) (vo ve : Value) (a : Nat) (ha : a ≤ st.sent) (hs : st.sent ≤ st.acked + st.out.length) : (dCells W Sp R st vo ve).setIfInBounds 5 (.int .i64 ((max st.acked a : Nat) : Int)) = dCells W Sp R (ackE st a) vo ve := by
  have e : (max st.acked a) + (st.out.length - (a - st.acked)) = st.acked + st.out.length := by omega
  simp [dCells, ackE, e]
theorem ack_same {st : Lk16} {a : Nat} (ha : a ≤ st.acked) : ackE st a = st := by
  have e1 : max st.acked a = st.acked := by omega
  have e2 : a - st.acked = 0 := by omega
  cases st
  simp [ackE] at *
  exact ⟨by rw [e2, List.drop_zero], e1⟩
/-- the loop over the bodies that aren't known to have come, i through; d of them are known now -/
def DLeftI (w : World) (db base : Nat) (vo ve : Value) (cs : Array Value) (a d tb : Nat) (X : Array Value) (xs : List Db16) (ys : List Dy16) (i : Nat) (v : Value) (wr : World) : Prop :=
  DPart wr db base vo ve cs a xs ys ∧ MovesD w wr db ∧ Box wr tb 39 X ∧ ListAt NoU wr (tb + 1) 84 3 v ((xs.take i).drop d).length (dbFlat (a + d) ((xs.take i).drop d))
theorem left_no {α : Type} {xs : List α} {i d : Nat} (h : i < d) : (xs.take (i + 1)).drop d = (xs.take i).drop d := by
  rw [List.drop_eq_nil_of_le (by rw [List.length_take]; omega), List.drop_eq_nil_of_le (by rw [List.length_take]; omega)]
theorem left_yes {α : Type} {xs : List α} {i d : Nat} (hi : i < xs.length) (h : d ≤ i) : (xs.take (i + 1)).drop d = (xs.take i).drop d ++ [xs[i]] := by
  rw [List.take_add_one, List.getElem?_eq_getElem hi, List.drop_append_of_le_length (by rw [List.length_take]; omega)]
  rfl
theorem left_len {α : Type} {xs : List α} {i d : Nat} (hi : i ≤ xs.length) : ((xs.take i).drop d).length = i - d := by
  rw [List.length_drop, List.length_take]; omega
/-- a body's three cells -/
theorem DPart.body {w : World} {db base a : Nat} {vo ve : Value} {cs : Array Value} {xs : List Db16} {ys : List Dy16} (h : DPart w db base vo ve cs a xs ys) {i : Nat} (hi : i < xs.length) : ∃ g c x, vo = .slice (some ⟨g, 0, none⟩) xs.length c ∧ xs.length ≤ c ∧ c ≤ 9223372036854775807 ∧ xs[i] = x ∧ w.cell? ⟨g, i * 3, none⟩ = some (.int .i64 ((a + 1 + i : Nat) : Int)) ∧ (∀ j, j < 3 → w.cell? ⟨g, i * 3 + j, none⟩ = (#[.int .i64 ((a + 1 + i : Nat) : Int), .int .i64 x.s, .slice x.q.a x.q.n x.q.cap] : Array Value)[j]?) := by
  obtain ⟨g, c, hv, h1, h2, h3, h4, hc⟩ := h.out.cells (by omega)
  have hz : ∀ j, j < 3 → w.cell? ⟨g, i * 3 + j, none⟩ = (#[.int .i64 ((a + 1 + i : Nat) : Int), .int .i64 xs[i].s, .slice xs[i].q.a xs[i].q.n xs[i].q.cap] : Array Value)[j]? := fun j hj => by
    rw [hc (i * 3 + j) (by omega), dbFlat_at _ xs i j hi hj]
    match j, hj with
    | 0, _ => rfl
    | 1, _ => rfl
    | 2, _ => rfl
  exact ⟨g, c, xs[i], hv, h1, h2, rfl, hz 0 (by omega), hz⟩
theorem DLeftI.bel {w wz wz' : World} {db base a d tb i : Nat} {vo ve v : Value} {cs X : Array Value} {xs : List Db16} {ys : List Dy16} (h : DLeftI w db base vo ve cs a d tb X xs ys i v wz) (hb : Below wz.heap.size wz wz') : DLeftI w db base vo ve cs a d tb X xs ys i v wz' :=
  ⟨h.1.bel hb, h.2.1.trans (MovesD.of_below hb (by have := h.1.lt; omega)), h.2.2.1.bel hb, h.2.2.2.bel hb⟩
/-- the same bodies behind an append to the new list -/
theorem DLeftI.next {w wz w5 : World} {db base a d tb i : Nat} {vo ve v : Value} {cs X : Array Value} {xs : List Db16} {ys : List Dy16} (h : DLeftI w db base vo ve cs a d tb X xs ys i v wz) (hw : w.heap.size = tb) (haw : ∀ b, w.heap.size ≤ b → db ≠ b ∧ vo.ownBlock ≠ some b ∧ ve.ownBlock ≠ some b) (hdb : db ≤ w.heap.size) (hi : i < xs.length) (hd : d ≤ i) {g cap : Nat}
    (hL : ListAt NoU w5 (tb + 1) 84 3 (.slice (some ⟨g, 0, none⟩) (i - d + 1) cap) (i - d + 1) (dbFlat (a + d) ((xs.take i).drop d) ++ [.int .i64 ((a + 1 + i : Nat) : Int), .int .i64 xs[i].s, .slice xs[i].q.a xs[i].q.n xs[i].q.cap])) (hg : wz.grownBy w5 v.ownBlock) (hv : ∀ b, v.ownBlock = some b → tb + 1 ≤ b ∧ AllC NoU wz 84 b) (hr : ∀ q : Rw, q.In .u8 wz → q.In .u8 w5) :
    DLeftI w db base vo ve cs a d tb X xs ys (i + 1) (.slice (some ⟨g, 0, none⟩) (i - d + 1) cap) w5 := by
  obtain ⟨h1, h2, h3, h4⟩ := h
  refine ⟨h1.kept hg (fun b e => haw b (by have := (hv b e).1; omega)) hr, h2.new hg hdb (fun b e => by have := (hv b e).1; omega) hr, h3.kept hg (fun e => by have := (hv _ e.symm).1; omega), ?_⟩
  have hl : ((xs.take i).drop d).length = i - d := left_len (by omega)
  rw [left_yes hi hd, List.length_append, hl, dbFlat_app, hl]
  have e : a + d + (i - d) + 1 = a + 1 + i := by omega
  simp only [dbFlat, dbCells, e, List.append_nil, List.length_singleton]
  exact hL
/-- an early body more, stored -/
theorem dkeep_row {w2 : World} {db base : Nat} {vo ve : Value} {W Sp R : Nat} {st : Lk16} {xs : List Db16} {ys : List Dy16} (h : DLkAt w2 db base vo ve W Sp R st xs ys) (q : Rw) (hq : q.In .u8 w2) (hn : q.n ≤ 65536) (N : Nat) (hE : GoodQ W st.got (st.early ++ [(N, q.v)])) :
    ∃ gr cap w3, Sem.run Try.prog (Builtin.append_ #[33, 33] 33 #[ve, .slice (some ⟨w2.heap.size, 0, none⟩) 1 1]) (w2.alloc (.cells #[.int .i64 (N : Int), .slice q.a q.n q.cap] 93)) =
      .ok (.slice (some ⟨gr, 0, none⟩) (ys.length + 1) cap) w3 ∧ MovesD w2 w3 db ∧ Box w3 db 35 (dCells W Sp R st vo ve) ∧
      DEnds w2 (w3.setCell ⟨db, 9, none⟩ (.slice (some ⟨gr, 0, none⟩) (ys.length + 1) cap)) db base W Sp R (gotSt st st.got (st.early ++ [(N, q.v)])) := by
  have hlen := h.lens.2
  have hsm : ys.length ≤ 64 := by rw [hlen]; have := h.good.early.len; have := h.good.pm.1; omega
  obtain ⟨gr, cap, w3, hrun, hL, hg, hv, hr⟩ := early_next h.ear (by omega) h.lt.2 (N : Int) q
  have m1 : MovesD w2 w3 db := MovesD.of_row hg (by have := h.lt; omega) (fun b e => ⟨by have := (hv b e).1; have := h.lt; omega, _, (hv b e).2, .inr (.inr rfl)⟩)
  have hbx : Box w3 db 35 (dCells W Sp R st vo ve) := h.box.kept hg (fun e => by have := (hv db e.symm).1; have := h.lt; omega)
  have P3 : DPart w3 db base vo (.slice (some ⟨gr, 0, none⟩) (ys.length + 1) cap) (dCells W Sp R st vo ve) st.acked xs (ys ++ [⟨N, q⟩]) := by
    refine ⟨hbx, h.part.noU, h.out.kept hg (fun g e x => ?_), ?_, fun x hx => ⟨hr _ (h.rx x hx).1, (h.rx x hx).2⟩, fun y hy => ?_, h.lt.1, Nat.le_trans h.lt.2 m1.size⟩
    · obtain ⟨c1, k1, _⟩ := h.out.all g e
      obtain ⟨c2, k2, _⟩ := (hv g x).2
      have := k1.symm.trans k2
      simp at this
    · rw [List.length_append, List.flatMap_append]
      simpa [dyCells] using hL
    · rcases List.mem_append.1 hy with hy | hy
      · exact ⟨hr _ (h.ry y hy).1, (h.ry y hy).2⟩
      · rw [List.mem_singleton] at hy; subst hy; exact ⟨hr _ hq, hn⟩
  obtain ⟨P4, m2⟩ := P3.set (j := 9) (u := .slice (some ⟨gr, 0, none⟩) (ys.length + 1) cap) (cs' := dCells W Sp R (gotSt st st.got (st.early ++ [(N, q.v)])) vo (.slice (some ⟨gr, 0, none⟩) (ys.length + 1) cap)) (noU_slice _ _ _) rfl
  have hgd := h.good
  refine ⟨gr, cap, w3, hrun, m1, hbx, ⟨_, _, xs, ys ++ [⟨N, q⟩], P4.done h.eo ?_ ⟨hgd.pm, hgd.room, hgd.sent, hgd.ages, hE, hgd.ep⟩⟩, m1.trans m2⟩
  have := h.ee
  simp [dEarly, gotSt] at this ⊢
  exact this
theorem DPart.apart {w : World} {db base a : Nat} {vo ve : Value} {cs : Array Value} {xs : List Db16} {ys : List Dy16} (h : DPart w db base vo ve cs a xs ys) {ok : Value → Prop} {T : TypeId} {b : Nat} (hA : AllC ok w T b) (h1 : T ≠ 35) (h2 : T ≠ 84) (h3 : T ≠ 93) : db ≠ b ∧ vo.ownBlock ≠ some b ∧ ve.ownBlock ≠ some b := by
  obtain ⟨c2, k2, _⟩ := hA
  refine ⟨fun e => ?_, fun e => ?_, fun e => ?_⟩
  · subst e
    have := h.box.symm.trans k2
    simp at this
    exact h1 this.2.symm
  · obtain ⟨c1, k1, _⟩ := h.out.all b e
    have := k1.symm.trans k2
    simp at this
    exact h2 this.2.symm
  · obtain ⟨c1, k1, _⟩ := h.ear.all b e
    have := k1.symm.trans k2
    simp at this
    exact h3 this.2.symm
theorem listR_kept {kd : IntKind} {T : TypeId} {w w' : World} {base n : Nat} {v : Value} {qs : List Rw} (h : ListR kd T w base v n qs) (hk : ∀ g, v.ownBlock = some g → w'.heap[g]? = w.heap[g]?) (hr : ∀ q : Rw, q.In kd w → q.In kd w') : ListR kd T w' base v n qs := by
  refine ⟨⟨h.own.1, ?_⟩, fun g e => (h.all g e).blk (hk g e), fun q hq => hr q (h.rows q hq)⟩
  rcases h.own.2 with hn | ⟨g, cap, cur, rfl, hb, hg, rest⟩
  · exact .inl hn
  · exact .inr ⟨g, cap, cur, rfl, hb, (hk g rfl).trans hg, rest⟩
theorem FindQ.eq {W g : Nat} {E : List (Nat × List Int)} {n : Nat} {z z' : Int} (hg : GoodQ W g E) (h : FindQ E n z) (h' : FindQ E n z') : z = z' := by
  rcases h with ⟨rfl, h⟩ | ⟨k, hk, rfl, h, hn⟩
  · rcases h' with ⟨rfl, _⟩ | ⟨k, hk, rfl, h', _⟩
    · rfl
    · rw [h] at h'; cases h'
  · rcases h' with ⟨rfl, h'⟩ | ⟨k', hk', rfl, h', hn'⟩
    · rw [h] at h'; cases h'
    · have := List.pairwise_iff_getElem.1 hg.once
      by_cases e : k < k'
      · exact absurd (hn.trans hn'.symm) (this k k' hk hk' e)
      · by_cases e2 : k' < k
        · exact absurd (hn'.trans hn.symm) (this k' k hk' hk e2)
        · have : k = k' := by omega
          rw [this]
/-- the loop that takes what is there -/
def DTakeI (w : World) (db base W Sp R : Nat) (st : Lk16) (E0 : List (Nat × List Int)) (v : Value) (wr : World) : Prop :=
  ∃ fu g E n qs, ListR .u8 37 wr w.heap.size v n qs ∧ n + E.length ≤ 64 ∧ g ≤ st.got + n ∧ DLk wr db base W Sp R (gotSt st g E) ∧ MovesD w wr db ∧ E.length ≤ fu ∧
    takeE E0.length st.got E0 = ((takeE fu g E).1, (takeE fu g E).2.1, qs.map Rw.v ++ (takeE fu g E).2.2)
/-- the loop that leaves one out, j through -/
def DFiltI (w : World) (B db base : Nat) (vo ve : Value) (cs : Array Value) (a : Nat) (xs : List Db16) (ys : List Dy16) (m : Nat) (vl : Value) (n : Nat) (qs : List Rw) (j : Nat) (v : Value) (wr : World) : Prop :=
  DPart wr db base vo ve cs a xs ys ∧ MovesD w wr db ∧ ListR .u8 37 wr w.heap.size vl n qs ∧ ListAt NoU wr B 93 2 v ((ys.take j).filter (fun y => y.n != m)).length (((ys.take j).filter (fun y => y.n != m)).flatMap dyCells) ∧ B ≤ wr.heap.size
theorem DFiltI.bel {w wz wz' : World} {B db base a m n j : Nat} {vo ve vl v : Value} {cs : Array Value} {xs : List Db16} {ys : List Dy16} {qs : List Rw} (h : DFiltI w B db base vo ve cs a xs ys m vl n qs j v wz) (hb : Below wz.heap.size wz wz') : DFiltI w B db base vo ve cs a xs ys m vl n qs j v wz' :=
  ⟨h.1.bel hb, h.2.1.trans (MovesD.of_below hb (by have := h.1.lt; omega)), h.2.2.1.bel hb, h.2.2.2.1.bel hb, Nat.le_trans h.2.2.2.2 hb.size⟩
theorem filt_step {ys : List Dy16} {j m : Nat} (hj : j < ys.length) : (ys.take (j + 1)).filter (fun y => y.n != m) = (ys.take j).filter (fun y => y.n != m) ++ if ys[j].n = m then [] else [ys[j]] := by
  rw [List.take_add_one, List.getElem?_eq_getElem hj, List.filter_append]
  congr 1
  by_cases e : ys[j].n = m
  · simp [e]
  · simp [e]
theorem DFiltI.next {w wz w5 : World} {B db base a m n j : Nat} {vo ve vl v : Value} {cs : Array Value} {xs : List Db16} {ys : List Dy16} {qs : List Rw} (h : DFiltI w B db base vo ve cs a xs ys m vl n qs j v wz) (hwB : w.heap.size ≤ B) (haw : ∀ b, B ≤ b → db ≠ b ∧ vo.ownBlock ≠ some b ∧ ve.ownBlock ≠ some b) (hdb : db ≤ w.heap.size) (hj : j < ys.length) (hm : ys[j].n ≠ m) {g cap : Nat}
    (hL : ListAt NoU w5 B 93 2 (.slice (some ⟨g, 0, none⟩) (((ys.take j).filter (fun y => y.n != m)).length + 1) cap) (((ys.take j).filter (fun y => y.n != m)).length + 1) (((ys.take j).filter (fun y => y.n != m)).flatMap dyCells ++ [.int .i64 (ys[j].n : Nat), .slice ys[j].q.a ys[j].q.n ys[j].q.cap])) (hg : wz.grownBy w5 v.ownBlock) (hv : ∀ b, v.ownBlock = some b → B ≤ b ∧ AllC NoU wz 93 b) (hr : ∀ q : Rw, q.In .u8 wz → q.In .u8 w5) :
    DFiltI w B db base vo ve cs a xs ys m vl n qs (j + 1) (.slice (some ⟨g, 0, none⟩) (((ys.take j).filter (fun y => y.n != m)).length + 1) cap) w5 := by
  obtain ⟨h1, h2, h3, h4, h5⟩ := h
  refine ⟨h1.kept hg (fun b e => haw b (hv b e).1) hr, h2.new hg hdb (fun b e => by have := (hv b e).1; omega) hr, listR_kept h3 (fun g e => ?_) hr, ?_, Nat.le_trans h5 hg.size⟩
  · refine hg.block g (h3.all g e).lt (fun x => ?_)
    obtain ⟨c1, k1, _⟩ := h3.all g e
    obtain ⟨c2, k2, _⟩ := (hv g x.symm).2
    have := k1.symm.trans k2
    simp at this
  · rw [filt_step hj, if_neg hm, List.length_append, List.flatMap_append]
    simpa [dyCells] using hL
theorem filt_drop (ys : List Dy16) (m : Nat) : dEarly (ys.filter (fun y => y.n != m)) = dropQ (dEarly ys) m := by
  unfold dEarly dropQ
  rw [List.filter_map]
  rfl
def DHearR (w : World) (db base W Sp R : Nat) (st : Lk16) (x : Sg16) (e : Ending) (w' : World) : Prop :=
  ∃ v n qs, e = .returned (.tuple #[v, .int .i64 (hearE W st x).1.2]) ∧ ListR .u8 37 w' w.heap.size v n qs ∧ n ≤ 64 ∧ qs.map Rw.v = (hearE W st x).1.1 ∧ DEnds w w' db base W Sp R (hearE W st x).2
theorem dhear_no {w w' : World} {db base W Sp R : Nat} {st : Lk16} {x : Sg16} (h : DLk w db base W Sp R st) (hb : Below w.heap.size w w') {c : Int} (he : hearE W st x = (([], c), st)) : DHearR w db base W Sp R st x (.returned (.tuple #[.slice none 0 0, .int .i64 c])) w' := by
  unfold DHearR
  rw [he]
  exact ⟨_, 0, [], rfl, listR_nil _ _ _ _, by omega, rfl, h.same hb⟩
theorem dhear_bad {W : Nat} {st : Lk16} {x : Sg16} (he : x.e = st.ep) (hb : badE st x = true) : hearE W st x = (([], 150), st) := by
  unfold hearE
  rw [if_neg (by simpa using he), if_pos hb]

theorem dtake_end {w wr : World} {db base W Sp R : Nat} {st sb : Lk16} {x : Sg16} {E0 E : List (Nat × List Int)} {fu g n : Nat} {qs : List Rw} {v : Value} (h1 : x.e = st.ep) (h2 : badE st x = false) (h3 : x.s ≠ 0) (hsb : { ackE st x.k with owes := true } = sb) (hE0 : keepE W st.got st.early x.s x.b = E0) (hno : findQ E (g + 1) = none) (hL : ListR .u8 37 wr w.heap.size v n qs) (hA : DLk wr db base W Sp R (gotSt sb g E)) (hM : MovesD w wr db) (hn : n + E.length ≤ 64)
    (ht : takeE E0.length sb.got E0 = ((takeE fu g E).1, (takeE fu g E).2.1, qs.map Rw.v ++ (takeE fu g E).2.2)) : DHearR w db base W Sp R st x (.returned (.tuple #[v, .int .i64 0])) wr := by
  have hbg : sb.got = st.got := by rw [← hsb]; rfl
  have hE : earlyE W st x = (g, E, qs.map Rw.v) := by
    unfold earlyE
    rw [hE0, ← hbg, ht, takeE_stop hno, List.append_nil]
  have he : hearE W st x = ((qs.map Rw.v, 0), gotSt sb g E) := by
    unfold hearE
    rw [if_neg (by simpa using h1), if_neg (by rw [h2]; simp), if_neg h3, hE, ← hsb]
    rfl
  unfold DHearR
  rw [he]
  exact ⟨_, n, qs, rfl, hL, by omega, rfl, hA, hM⟩

theorem dtake_next {w wr : World} {db base W Sp R : Nat} {sb : Lk16} {E0 E : List (Nat × List Int)} {fu g n : Nat} {qs : List Rw} {v : Value} {x : Nat × List Int} {q : Rw} (hn : n + E.length ≤ 64) (hg : g ≤ sb.got + n) (hfu : E.length ≤ fu) (ht : takeE E0.length sb.got E0 = ((takeE fu g E).1, (takeE fu g E).2.1, qs.map Rw.v ++ (takeE fu g E).2.2))
    (hx : findQ E (g + 1) = some x) (hq : q.v = x.2) (hL : ListR .u8 37 wr w.heap.size v (n + 1) (qs ++ [q])) (hA : DLk wr db base W Sp R (gotSt sb (g + 1) (dropQ E (g + 1)))) (hM : MovesD w wr db) : DTakeI w db base W Sp R sb E0 v wr := by
  obtain ⟨fu', rfl, hfu', htt⟩ := takeE_on hx hfu
  have hE' := dropQ_len hx
  refine ⟨fu', g + 1, dropQ E (g + 1), n + 1, qs ++ [q], hL, by omega, by omega, hA, hM, hfu', ?_⟩
  rw [ht, htt]
  simp only [List.map_append, List.map_cons, List.map_nil, List.append_assoc, hq]
  rfl

set_option maxHeartbeats 3200000 in
set_option maxRecDepth 100000 in
theorem dhear16 {w : World} {db base : Nat} {W Sp R : Nat} {st : Lk16} (hd : DLk w db base W Sp R st) (e s k : Int) (q : Rw) (hq : q.In .u8 w) (hqn : q.n ≤ 65536) (hbd : st.acked + st.out.length ≤ 1000000000) (hgot : st.got ≤ 1000000000) :
    Calls Try.prog 17 #[.pointer (some ⟨db, 0, none⟩), .agg #[.int .i64 e, .int .i64 s, .int .i64 k, .slice q.a q.n q.cap]] w fun en w' => DHearR w db base W Sp R st ⟨e, s, k, q.v⟩ en w' := by
  have HD := Lib.hid hd
  obtain ⟨vo, ve, xs, ys, h⟩ := hd
  have hbw : Below w.heap.size w (w.alloc (.cells #[.int .i64 e, .int .i64 s, .int .i64 k, .slice q.a q.n q.cap] 39)) := (Below.refl _ _).alloc (Nat.le_refl _) _
  obtain ⟨w0, hw0⟩ : ∃ w0, w.alloc (.cells #[.int .i64 e, .int .i64 s, .int .i64 k, .slice q.a q.n q.cap] 39) = w0 := ⟨_, rfl⟩
  have X0 : Box w0 w.heap.size 39 #[.int .i64 e, .int .i64 s, .int .i64 k, .slice q.a q.n q.cap] := by rw [← hw0]; exact box_new _ _ _
  rw [hw0] at hbw
  obtain ⟨tb, htb⟩ : ∃ tb, w.heap.size = tb := ⟨_, rfl⟩
  rw [htb] at X0
  have L0 := h.bel (w' := w0) hbw
  have c3 : w0.cell? ⟨db, 3, none⟩ = some (.int .i64 st.ep) := L0.box.cell 3
  have x0 : w0.cell? ⟨tb, 0, none⟩ = some (.int .i64 e) := X0.cell 0
  have HX := Lib.hid X0
  have H0 := Lib.hid h
  have HL0 := Lib.hid L0
  have HB := Lib.hid hbw
  have HQ := Lib.hid (And.intro hq hqn)
  have HBD := Lib.hid (And.intro hbd hgot)
  have HTB := Lib.hid htb
  have HBV : Hid (q.v.length = q.n) := Lib.hid hq.1.1
  have HAW : Hid (∀ b, w.heap.size ≤ b → db ≠ b ∧ vo.ownBlock ≠ some b ∧ ve.ownBlock ≠ some b) := Lib.hid (fun b hb => h.part.away hb)
  by_cases he : e = st.ep
  rotate_left
  · have HFIN : Hid (∀ d, DHearR w db base W Sp R st ⟨e, s, k, q.v⟩ (.returned (.tuple #[.slice none 0 0, .int .i64 160])) (w0.drewN d)) := Lib.hid (fun d => dhear_no HD.out (below_drewN hbw d) (by unfold hearE; rw [if_pos he]))
    have hne : (e != st.ep) = true := by simpa using he
    clear h X0 hbw L0 hq hqn hbd hgot he
    go_enter Try.func17, Try.ntmps17
    go_wp2_with fail
    go_quiet (fail)
    go_wp2_with fail
    exact bodyPost_ret (v := .tuple #[.slice none 0 0, .int .i64 160]) (by simp [results, Try.results17, go_sem]) rfl (HFIN.out _)
  subst he
  have hnee : (st.ep != st.ep) = false := by simp
  obtain ⟨bad, hbad⟩ : ∃ bad, badE st ⟨st.ep, s, k, q.v⟩ = bad := ⟨_, rfl⟩
  have HBAD := Lib.hid hbad
  clear h X0 hbw L0 hq hqn hbd hgot hbad
  go_enter Try.func17, Try.ntmps17
  go_wp2_with fail
  go_quiet (fail)
  go_wp2_with fail
  obtain ⟨w1, hw1⟩ : ∃ w1, w0.drewN nq = w1 := ⟨_, rfl⟩
  rw [hw1]
  have HB1 : Hid (Below w.heap.size w w1) := Lib.hid (by rw [← hw1]; exact below_drewN HB.out _)
  have HX1 : Hid (Box w1 tb 39 #[.int .i64 st.ep, .int .i64 s, .int .i64 k, .slice q.a q.n q.cap]) := Lib.hid (by rw [← hw1]; exact HX.out.bel (below_drewN (Below.refl _ _) _))
  have D1 := H0.out.bel HB1.out
  have HVE : Hid (dOut xs = st.out ∧ dEarly ys = st.early ∧ Good16 W Sp R st) := Lib.hid ⟨D1.eo, D1.ee, D1.good⟩
  have c6 : w1.cell? ⟨db, 6, none⟩ = some (.int .i64 st.sent) := D1.box.cell 6
  have x1 : w1.cell? ⟨tb, 1, none⟩ = some (.int .i64 s) := HX1.out.cell 1
  have x2 : w1.cell? ⟨tb, 2, none⟩ = some (.int .i64 k) := HX1.out.cell 2
  have x3 : w1.cell? ⟨tb, 3, none⟩ = some (.slice q.a q.n q.cap) := HX1.out.cell 3
  have HD1 := Lib.hid D1.part
  clear D1 hw1 hw0 htb x0 c3 HX HL0 HB
  have HBB : Hid (decide (k < 0 ∨ (st.sent : Int) < k ∨ s < 0 ∨ (s = 0 ∧ 0 < q.n)) = bad) := Lib.hid (by rw [← HBV.out]; exact HBAD.out)
  go_cut [45] from 11 (fun v wx => v = .bool bad ∧ Hid (Below w1.heap.size w1 wx))
  case first =>
    as_aux_lemma =>
      by_cases b1 : k < 0
      · have n1 : decide (k < 0) = true := decide_eq_true b1
        have hbt : bad = true := by rw [← HBB.out]; exact decide_eq_true (.inl b1)
        subst hbt
        clear b1
        go_quiet (fail)
        go_wp2_with fail
        go_meet
        case rel => exact ⟨rfl, Lib.hid (below_drewN (Below.refl _ _) _)⟩
      · have n1 : decide (k < 0) = false := decide_eq_false b1
        by_cases b2 : (st.sent : Int) < k
        · have n2 : decide ((st.sent : Int) < k) = true := decide_eq_true b2
          have hbt : bad = true := by rw [← HBB.out]; exact decide_eq_true (.inr (.inl b2))
          subst hbt
          clear b1 b2
          go_quiet (fail)
          go_wp2_with fail
          go_meet
          case rel => exact ⟨rfl, Lib.hid (below_drewN (Below.refl _ _) _)⟩
        · have n2 : decide ((st.sent : Int) < k) = false := decide_eq_false b2
          by_cases b3 : s < 0
          · have n3 : decide (s < 0) = true := decide_eq_true b3
            have hbt : bad = true := by rw [← HBB.out]; exact decide_eq_true (.inr (.inr (.inl b3)))
            subst hbt
            clear b1 b2 b3
            go_quiet (fail)
            go_wp2_with fail
            go_meet
            case rel => exact ⟨rfl, Lib.hid (below_drewN (Below.refl _ _) _)⟩
          · have n3 : decide (s < 0) = false := decide_eq_false b3
            by_cases b4 : s = 0
            · have n4 : (s == 0) = true := by simpa using b4
              by_cases b5 : 0 < q.n
              · have n5 : decide (0 < q.n) = true := decide_eq_true b5
                have n6 : decide ((0 : Int) < (q.n : Int)) = true := decide_eq_true (by omega)
                have hbt : bad = true := by rw [← HBB.out]; exact decide_eq_true (.inr (.inr (.inr ⟨b4, b5⟩)))
                subst hbt
                clear b1 b2 b3 b4 b5
                go_quiet (fail)
                go_wp2_with fail
                go_meet
                case rel => exact ⟨rfl, Lib.hid (below_drewN (Below.refl _ _) _)⟩
              · have n5 : decide (0 < q.n) = false := decide_eq_false b5
                have n6 : decide ((0 : Int) < (q.n : Int)) = false := decide_eq_false (by omega)
                have hbt : bad = false := by rw [← HBB.out]; exact decide_eq_false (by omega)
                subst hbt
                clear b1 b2 b3 b4 b5
                go_quiet (fail)
                go_wp2_with fail
                go_meet
                case rel => exact ⟨rfl, Lib.hid (below_drewN (Below.refl _ _) _)⟩
            · have n4 : (s == 0) = false := by simpa using b4
              have hbt : bad = false := by rw [← HBB.out]; exact decide_eq_false (by omega)
              subst hbt
              clear b1 b2 b3 b4
              go_quiet (fail)
              go_wp2_with fail
              go_meet
              case rel => exact ⟨rfl, Lib.hid (below_drewN (Below.refl _ _) _)⟩
  case rest =>
    obtain ⟨rfl, HB2⟩ := hcut
    clear c6 x1 x2 x3
    cases bad with
    | true =>
      have HFIN : Hid (DHearR w db base W Sp R st ⟨st.ep, s, k, q.v⟩ (.returned (.tuple #[.slice none 0 0, .int .i64 150])) wc) := Lib.hid (dhear_no HD.out (HB1.out.trans (HB2.out.mono HB1.out.size)) (dhear_bad rfl HBAD.out))
      go_wp2_with fail
      exact bodyPost_ret (v := .tuple #[.slice none 0 0, .int .i64 150]) (by simp [results, Try.results17, go_sem]) rfl (HFIN.out)
    | false =>
      have hk0 : 0 ≤ k ∧ k ≤ st.sent ∧ 0 ≤ s := by
        have := of_decide_eq_false HBB.out
        omega
      obtain ⟨a, rfl⟩ : ∃ a : Nat, k = a := ⟨k.toNat, by omega⟩
      obtain ⟨N, rfl⟩ : ∃ N : Nat, s = N := ⟨s.toNat, by omega⟩
      have D2 := HD1.out.bel HB2.out
      have HX2 := Lib.hid (HX1.out.bel HB2.out)
      have HM2 : Hid (MovesD w wc db) := Lib.hid (MovesD.of_below (HB1.out.trans (HB2.out.mono HB1.out.size)) (by have := H0.out.lt; omega))
      have HAS : Hid (a ≤ st.sent ∧ st.sent ≤ st.acked + st.out.length ∧ tb + 1 ≤ wc.heap.size) := Lib.hid ⟨by omega, HVE.out.2.2.sent.2, HX2.out.lt⟩
      have c5 : wc.cell? ⟨db, 5, none⟩ = some (.int .i64 st.acked) := D2.box.cell 5
      have f5 : wc.frozen? ⟨db, 5, none⟩ = false := D2.box.frozen 5
      have x2 : wc.cell? ⟨tb, 2, none⟩ = some (.int .i64 a) := HX2.out.cell 2
      have HD2 := Lib.hid D2
      clear D2 hk0 HD1 HX1 HB2
      go_upto_region 5 with fail
      go_quiet (fail)
      go_upto_if 52 with fail
      go_cut [] from 11 (fun wx => Hid (DPart wx db base vo ve (dCells W Sp R (ackE st a) vo ve) st.acked xs ys ∧ MovesD w wx db ∧ Box wx tb 39 #[.int .i64 st.ep, .int .i64 N, .int .i64 a, .slice q.a q.n q.cap]))
      case first =>
        as_aux_lemma =>
          have HX2' : Hid (∀ d, DPart (wc.drewN d) db base vo ve (dCells W Sp R st vo ve) st.acked xs ys ∧ MovesD w (wc.drewN d) db ∧ Box (wc.drewN d) tb 39 #[.int .i64 st.ep, .int .i64 N, .int .i64 a, .slice q.a q.n q.cap]) := Lib.hid (fun d => by
            have hb := below_drewN (Below.refl wc.heap.size wc) d
            exact ⟨HD2.out.bel hb, HM2.out.trans (MovesD.of_below hb (by have := HD2.out.lt; omega)), HX2.out.bel hb⟩)
          by_cases hlt : st.acked < a
          · have hln : decide (st.acked < a) = true := decide_eq_true hlt
            have HF : Hid (∀ d, DPart ((wc.drewN d).setCell ⟨db, 5, none⟩ (.int .i64 (a : Int))) db base vo ve (dCells W Sp R (ackE st a) vo ve) st.acked xs ys ∧ MovesD w ((wc.drewN d).setCell ⟨db, 5, none⟩ (.int .i64 (a : Int))) db ∧ Box ((wc.drewN d).setCell ⟨db, 5, none⟩ (.int .i64 (a : Int))) tb 39 #[.int .i64 st.ep, .int .i64 N, .int .i64 a, .slice q.a q.n q.cap]) := Lib.hid (fun d => by
              obtain ⟨h1, h2, h3⟩ := HX2'.out d
              have hm : max st.acked a = a := by omega
              obtain ⟨h4, h5⟩ := h1.set (cs' := dCells W Sp R (ackE st a) vo ve) (j := 5) (noU_i64 (a : Int)) (by have := ack_cells W Sp R st vo ve a HAS.out.1 HAS.out.2.1; rw [hm] at this; exact this)
              exact ⟨h4, h2.trans h5, h5.box _ _ _ h3 (by decide) (by decide) (by decide)⟩)
            clear hlt
            simp only [hln]
            go_wp2_with fail
            go_meet
            case rel => exact Lib.hid (HF.out _)
          · have hln : decide (st.acked < a) = false := decide_eq_false hlt
            have HF : Hid (∀ d, DPart (wc.drewN d) db base vo ve (dCells W Sp R (ackE st a) vo ve) st.acked xs ys ∧ MovesD w (wc.drewN d) db ∧ Box (wc.drewN d) tb 39 #[.int .i64 st.ep, .int .i64 N, .int .i64 a, .slice q.a q.n q.cap]) := Lib.hid (fun d => by rw [ack_same (by omega)]; exact HX2'.out d)
            clear hlt
            simp only [hln]
            go_wp2_with fail
            go_meet
            case rel => exact Lib.hid (HF.out _)
      case rest =>
        clear c5 f5 x2 HD2 HX2 HM2
        have HCC := hcut
        clear hcut
        obtain ⟨n, hn⟩ : ∃ n, xs.length = n := ⟨_, rfl⟩
        obtain ⟨⟨va, vc, hvo⟩, -⟩ := H0.out.shape
        rw [hn] at hvo
        obtain ⟨d, hdd⟩ : ∃ d, a - st.acked = d := ⟨_, rfl⟩
        obtain ⟨A, hA⟩ : ∃ A, max st.acked a = A := ⟨_, rfl⟩
        obtain ⟨cs2, hcs2⟩ : ∃ cs2, dCells W Sp R (ackE st a) vo ve = cs2 := ⟨_, rfl⟩
        have HC2 : Hid (dCells W Sp R (ackE st a) vo ve = cs2 ∧ cs2[8]? = some vo ∧ cs2[5]? = some (.int .i64 (A : Int))) := Lib.hid ⟨hcs2, by rw [← hcs2]; rfl, by rw [← hcs2, ← hA]; rfl⟩
        have HVO := Lib.hid hvo
        have HNL : Hid (xs.length = n ∧ a - st.acked = d ∧ st.acked + d = A ∧ n ≤ 4096 ∧ d ≤ n) := Lib.hid ⟨hn, hdd, by omega, by
          have := HVE.out.2.2.room; have := HVE.out.2.2.pm.2.2.2; have := H0.out.lens.1; omega, by have := HAS.out; have := H0.out.lens.1; omega⟩
        rw [hcs2] at HCC
        have HI0 : Hid (DLeftI w db base vo ve cs2 st.acked d tb #[.int .i64 st.ep, .int .i64 N, .int .i64 a, .slice q.a q.n q.cap] xs ys 0 (.slice none 0 0) wc) := Lib.hid ⟨HCC.out.1, HCC.out.2.1, HCC.out.2.2, by
          have e : (xs.take 0).drop d = [] := by simp
          rw [e]
          exact listAt_nil _ _ _ _ _⟩
        have hn4 : n ≤ 4096 := HNL.out.2.2.2.1
        clear hn hvo hdd hA hcs2
        go_wp2_with fail
        go_loopw [7, 6] (fun i v wr => ∃ j : Nat, j ≤ n ∧ i = .int .i64 j ∧ Hid (DLeftI w db base vo ve cs2 st.acked d tb #[.int .i64 st.ep, .int .i64 N, .int .i64 a, .slice q.a q.n q.cap] xs ys j v wr)) (fun i _ _ => n - (intOf i).toNat)
        case atStart => exact ⟨0, by omega, rfl, HI0⟩
        case round =>
          obtain ⟨j, hj, rfl, HJ⟩ := hrel
          have c8 : wr.cell? ⟨db, 8, none⟩ = some (.slice va n vc) := by
            have h8 := (HJ.out.1.box.cell 8).trans HC2.out.2.1
            rw [HVO.out] at h8
            exact h8
          have c5 : wr.cell? ⟨db, 5, none⟩ = some (.int .i64 (A : Int)) := (HJ.out.1.box.cell 5).trans HC2.out.2.2
          by_cases hlt : j < n
          · have hlt2 : (j : Int) < (n : Int) := by omega
            obtain ⟨g, c, x, hv, hc1, hc2, hx, z0, hz⟩ := HJ.out.1.body (i := j) (by rw [HNL.out.1]; exact hlt)
            rw [HVO.out, HNL.out.1] at hv
            simp only [Value.slice.injEq] at hv
            obtain ⟨rfl, -, rfl⟩ := hv
            rw [HNL.out.1] at hc1
            obtain ⟨N1, hN1⟩ : ∃ N1, st.acked + 1 + j = N1 := ⟨_, rfl⟩
            rw [hN1] at z0 hz
            have HZ := Lib.hid hz
            have HN1 := Lib.hid hN1
            have HXJ : Hid (∃ hl : j < xs.length, xs[j] = x) := Lib.hid ⟨by rw [HNL.out.1]; exact hlt, hx⟩
            clear hz hN1 hx
            as_aux_lemma =>
              by_cases hdj : d ≤ j
              · have hgt : decide (A < N1) = true := decide_eq_true (by have := HN1.out; have := HNL.out; omega)
                have HDJ := Lib.hid hdj
                clear hdj
                go_upto_region 11 with fail
                go_quiet (fail)
                go_upto_region 12 with fail
                obtain ⟨wz, hwz⟩ : ∃ wz, wr.drewN nq = wz := ⟨_, rfl⟩
                rw [hwz]
                have hbz : Below wr.heap.size wr wz := by rw [← hwz]; exact below_drewN (Below.refl _ _) _
                have HJd : DLeftI w db base vo ve cs2 st.acked d tb #[.int .i64 st.ep, .int .i64 N, .int .i64 a, .slice q.a q.n q.cap] xs ys j u6 wz := HJ.out.bel hbz
                obtain ⟨gr, cap, w5, hrun, hL5, hg5, hv5, hr5⟩ := body_next HJd.2.2.2 (by rw [left_len (by have := HNL.out.1; omega)]; omega) (by have := HAS.out.2.2; have := HJd.2.1.size; have := HJd.2.2.1.lt; omega) (N1 : Int) x.s x.q
                obtain ⟨hl, hxj⟩ := HXJ.out
                have HFIN : Hid (DLeftI w db base vo ve cs2 st.acked d tb #[.int .i64 st.ep, .int .i64 N, .int .i64 a, .slice q.a q.n q.cap] xs ys (j + 1) (.slice (some ⟨gr, 0, none⟩) (j - d + 1) cap) w5) := Lib.hid (HJd.next HTB.out HAW.out (by have := H0.out.lt; omega) hl HDJ.out (by
                  rw [left_len (by omega)] at hL5
                  rw [hxj, HN1.out]
                  exact hL5) hg5 hv5 hr5)
                have hll : ((xs.take j).drop d).length = j - d := left_len (by omega)
                rw [hll] at hrun
                have d8 : wz.cell? ⟨db, 8, none⟩ = some (.slice (some ⟨g, 0, none⟩) n vc) := by rw [← hwz]; exact c8
                have n8 : w5.cell? ⟨db, 8, none⟩ = some (.slice (some ⟨g, 0, none⟩) n vc) := by
                  have h8 := (HFIN.out.1.box.cell 8).trans HC2.out.2.1
                  rw [HVO.out] at h8
                  exact h8
                have HZd : Hid (∀ j_1, j_1 < 3 → wz.cell? ⟨g, j * 3 + j_1, none⟩ = (#[.int .i64 (N1 : Int), .int .i64 x.s, .slice x.q.a x.q.n x.q.cap] : Array Value)[j_1]?) := Lib.hid (by rw [← hwz]; exact HZ.out)
                clear hL5 hg5 hv5 hr5 HJd hbz hll hxj hl hwz c8 c5 z0 hgt
                go_wp2_with (first
                  | (refine wpList_load_part rfl 84 _ rfl g (j * 3) rfl #[.int .i64 (N1 : Int), .int .i64 x.s, .slice x.q.a x.q.n x.q.cap] _ HZd.out Try.underlying84 rfl (by kernel_rfl) ?_)
                  | (at_builtin; refine wpList_append_run (by rfl) _ _ _ (by rfl) _ _ (by rfl) (by rfl) hrun ?_))
                go_roundw
                case rel => exact ⟨j + 1, by omega, by go_num, HFIN⟩
                case measure => simp [intOf]; omega
              · have hgt : decide (A < N1) = false := decide_eq_false (by have := HN1.out; have := HNL.out; omega)
                have HFIN : Hid (∀ m, DLeftI w db base vo ve cs2 st.acked d tb #[.int .i64 st.ep, .int .i64 N, .int .i64 a, .slice q.a q.n q.cap] xs ys (j + 1) u6 (wr.drewN m)) := Lib.hid (fun m => by
                  have h := HJ.out.bel (below_drewN (Below.refl _ _) m)
                  unfold DLeftI at h ⊢
                  rw [left_no (by omega)]
                  exact h)
                clear hdj
                go_upto_region 11 with fail
                go_quiet (fail)
                go_wp2_with fail
                go_roundw
                case rel => exact ⟨j + 1, by omega, by go_num, Lib.hid (HFIN.out _)⟩
                case measure => simp [intOf]; omega
          · obtain rfl : j = n := by omega
            obtain ⟨hP, hM, hBX, hL⟩ := HJ.out
            have hLS : ListAt NoU wr (tb + 1) 84 3 u6 (xs.drop d).length (dbFlat A (xs.drop d)) := by
              have := HNL.out.2.2.1
              have e : xs.take j = xs := by rw [← HNL.out.1, List.take_length]
              rw [e, this] at hL
              exact hL
            obtain ⟨a1, c1, hu6⟩ := hLS.shape
            have hnu6 : NoU u6 := by rw [hu6]; exact noU_slice _ _ _
            have hP2 := hP.outs (by have := H0.out.lt; have := HTB.out; omega) hLS (fun x hx => List.mem_of_mem_drop hx)
            obtain ⟨hP3, hM3⟩ := hP2.set (cs' := dCells W Sp R (ackE st a) u6 ve) (j := 8) hnu6 (by rw [← HC2.out.1]; rfl)
            obtain ⟨w6, hw6⟩ : ∃ w6, wr.setCell ⟨db, 8, none⟩ u6 = w6 := ⟨_, rfl⟩
            rw [hw6] at hP3 hM3
            have hgdA : Good16 W Sp R (ackE st a) := HVE.out.2.2.ack (k := (a : Int)) (by have := HAS.out.1; omega)
            have hA2 : (ackE st a).acked = A := by have := HNL.out; show max st.acked a = A; omega
            have hL6 : DLkAt w6 db base u6 ve W Sp R (ackE st a) (xs.drop d) ys := by
              rw [← hA2] at hP3
              refine hP3.done ?_ HVE.out.2.1 hgdA
              have h1 := HVE.out.1
              show dOut (xs.drop d) = st.out.drop (a - st.acked)
              rw [← h1, HNL.out.2.1]
              simp only [dOut, List.map_drop]
            have HM6 : Hid (MovesD w w6 db) := Lib.hid (hM.trans hM3)
            have HX6 : Hid (Box w6 tb 39 #[.int .i64 st.ep, .int .i64 N, .int .i64 a, .slice q.a q.n q.cap]) := Lib.hid (hM3.box _ _ _ hBX (by decide) (by decide) (by decide))
            have HL6 := Lib.hid hL6
            obtain ⟨sa, hsa⟩ : ∃ sa, ackE st a = sa := ⟨_, rfl⟩
            have c8 : ∃ u, wr.cell? ⟨db, 8, none⟩ = some u := ⟨_, hP.box.cell 8 |>.trans HC2.out.2.1⟩
            obtain ⟨u8v, c8⟩ := c8
            have f8 : wr.frozen? ⟨db, 8, none⟩ = false := hP.box.frozen 8
            clear hP hM hBX hL hLS hP2 hP3 hM3 hgdA hA2 hL6 HJ hj HCC HI0 c5 hnu6
            generalize (xs.drop d).length = l1 at hu6
            subst hu6
            by_cases hN0 : N = 0
            · skip
              as_aux_lemma =>
                have HFIN : Hid (DHearR w db base W Sp R st ⟨st.ep, N, a, q.v⟩ (.returned (.tuple #[.slice none 0 0, .int .i64 0])) w6) := Lib.hid (by
                  unfold DHearR
                  have he : hearE W st ⟨st.ep, N, a, q.v⟩ = (([], 0), ackE st a) := by
                    unfold hearE
                    rw [if_neg (by simp), if_neg (by rw [HBAD.out]; simp), if_pos (by simpa using hN0)]
                  rw [he]
                  exact ⟨_, 0, [], rfl, listR_nil _ _ _ _, by omega, rfl, ⟨_, _, _, _, HL6.out⟩, HM6.out⟩)
                have x1 : w6.cell? ⟨tb, 1, none⟩ = some (.int .i64 0) := by have := HX6.out.cell 1; rw [hN0] at this; exact this
                clear hN0
                go_upto_region 14 with fail
                try rw [hw6]
                clear hw6 c8 f8
                go_wp2_with fail
                exact bodyPost_ret (v := .tuple #[.slice none 0 0, .int .i64 0]) (by simp [results, Try.results17, go_sem]) rfl (HFIN.out)
            · have hN1 : ((N : Int) == 0) = false := by simpa using hN0
              have x1 : w6.cell? ⟨tb, 1, none⟩ = some (.int .i64 N) := HX6.out.cell 1
              go_upto_region 14 with fail
              try rw [hw6]
              clear hw6 c8 f8
              rw [hsa] at HL6
              have HSA : Hid (ackE st a = sa ∧ N ≠ 0) := Lib.hid ⟨hsa, hN0⟩
              clear hsa hN0
              obtain ⟨w7, hw7⟩ : ∃ w7, w6.setCell ⟨db, 10, none⟩ (.bool true) = w7 := ⟨_, rfl⟩
              have hbx := HL6.out.box
              obtain ⟨hL7, hM7⟩ := HL6.out.own (w' := w7) (st' := { sa with owes := true }) (by rw [← hw7]; exact hbx.set 10 _) (by rw [← hw7]; exact grown_set _ _ _ _) rfl rfl rfl ⟨HL6.out.good.pm, HL6.out.good.room, HL6.out.good.sent, HL6.out.good.ages, HL6.out.good.early, HL6.out.good.ep⟩
              have HL7 := Lib.hid hL7
              have HM7 : Hid (MovesD w w7 db) := Lib.hid (HM6.out.trans hM7)
              have HX7 : Hid (Box w7 tb 39 #[.int .i64 st.ep, .int .i64 N, .int .i64 a, .slice q.a q.n q.cap]) := Lib.hid (hM7.box _ _ _ HX6.out (by decide) (by decide) (by decide))
              have c10 : ∃ u, w6.cell? ⟨db, 10, none⟩ = some u := ⟨_, hbx.cell 10⟩
              obtain ⟨u10v, c10⟩ := c10
              have f10 : w6.frozen? ⟨db, 10, none⟩ = false := hbx.frozen 10
              clear hbx hL7 hM7
              go_upto_region 17 with fail
              try rw [hw7]
              clear hw7 c10 f10 x1
              obtain ⟨sb, hsb⟩ : ∃ sb : Lk16, { sa with owes := true } = sb := ⟨_, rfl⟩
              rw [hsb] at HL7
              have HSB : Hid ({ ackE st a with owes := true } = sb ∧ N ≠ 0) := Lib.hid ⟨by rw [HSA.out.1]; exact hsb, HSA.out.2⟩
              have hbg : sb.got = st.got ∧ sb.early = st.early := by rw [← HSB.out.1]; exact ⟨rfl, rfl⟩
              have x1 : w7.cell? ⟨tb, 1, none⟩ = some (.int .i64 N) := HX7.out.cell 1
              have c7 : w7.cell? ⟨db, 7, none⟩ = some (.int .i64 st.got) := by rw [← hbg.1]; exact HL7.out.box.cell 7
              have c0 : w7.cell? ⟨db, 0, none⟩ = some (.int .i64 W) := HL7.out.box.cell 0
              have hww : IntKind.i64.wrap ((st.got : Int) + (W : Int)) = (st.got : Int) + (W : Int) := IntWalk.i64_in _ (by have := HBD.out.2; have := HVE.out.2.2.pm.1; omega)
              have FD := dfind16 (HL7.out.bel ((Below.refl _ _).drew)) N
              rw [hbg.2] at FD
              obtain ⟨bq, hbq⟩ : ∃ bq, decide (st.got < N ∧ N ≤ st.got + W ∧ findQ st.early N = none) = bq := ⟨_, rfl⟩
              have HBQ := Lib.hid hbq
              have HBG := Lib.hid hbg
              clear hsb hbq hbg
              go_cut [127] from 11 (fun v wx => v = .bool bq ∧ Hid (Below w7.heap.size w7 wx))
              case first =>
                as_aux_lemma =>
                  by_cases g1 : st.got < N
                  · have hg1 : decide (st.got < N) = true := decide_eq_true g1
                    by_cases g2 : N ≤ st.got + W
                    · have hg2 : decide ((N : Int) ≤ (st.got : Int) + (W : Int)) = true := decide_eq_true (by omega)
                      have HZB : Hid (∀ z, FindQ st.early N z → decide (z < 0) = bq) := Lib.hid (fun z hz => by
                        rw [← HBQ.out]
                        rcases hz with ⟨rfl, h⟩ | ⟨k, _, rfl, h, _⟩
                        · rw [decide_eq_true (by omega), decide_eq_true ⟨g1, g2, h⟩]
                        · rw [decide_eq_false (by omega), decide_eq_false (fun hh => by rw [h] at hh; exact absurd hh.2.2 (by simp))])
                      clear g1 g2
                      refine wp_region_held_drew (S := (fun W_ => W_.cell? ⟨tb, 1, none⟩ = some (.int .i64 N) ∧ W_.cell? ⟨db, 7, none⟩ = some (.int .i64 st.got) ∧ W_.cell? ⟨db, 0, none⟩ = some (.int .i64 W))) (by kernel_rfl) ?_ (fun hHeld => ?_)
                      · (first | go_keep | (go_split_ands; refine ⟨?_, ?_, ?_⟩ <;> assumption))
                      refine wpAnyH_take (i := 0) (oi := ⟨some 100, _, _, _, _, _⟩) (v := ?_) rfl (by kernel_rfl) (by kernel_rfl) (by kernel_rfl) (fun _ _ _ h => h) (Or.inl ⟨by rfl, ?hy1⟩) hHeld ?rest1
                      case hy1 => (intro W hSw; (try dsimp only at hSw); go_simp; (try with_reducible rfl))
                      simp only [Act.put, List.setIfInBounds_toArray, List.set_cons_zero, List.set_cons_succ]
                      refine wpAnyH_take (i := 1) (oi := ⟨some 101, _, _, _, _, _⟩) (v := ?_) rfl (by kernel_rfl) (by kernel_rfl) (by kernel_rfl) (fun _ _ _ h => h) (Or.inl ⟨by rfl, ?hy2⟩) hHeld ?rest2
                      case hy2 => (intro W hSw; (try dsimp only at hSw); go_simp; (try with_reducible rfl))
                      simp only [Act.put, List.setIfInBounds_toArray, List.set_cons_zero, List.set_cons_succ]
                      refine wpAnyH_take (i := 2) (oi := ⟨some 102, _, _, _, _, _⟩) (v := ?_) rfl (by kernel_rfl) (by kernel_rfl) (by kernel_rfl) (fun _ _ _ h => h) (Or.inl ⟨by rfl, ?hy3⟩) hHeld ?rest3
                      case hy3 => (intro W hSw; (try dsimp only at hSw); go_simp; (try with_reducible rfl))
                      simp only [Act.put, List.setIfInBounds_toArray, List.set_cons_zero, List.set_cons_succ]
                      refine wpAnyH_take (i := 3) (oi := ⟨some 103, _, _, _, _, _⟩) (v := ?_) rfl (by kernel_rfl) (by kernel_rfl) (by kernel_rfl) (fun _ _ _ h => h) (Or.inl ⟨by rfl, ?hy4⟩) hHeld ?rest4
                      case hy4 => (intro W hSw; (try dsimp only at hSw); go_simp; (try with_reducible rfl))
                      simp only [Act.put, List.setIfInBounds_toArray, List.set_cons_zero, List.set_cons_succ]
                      refine wpAnyH_take (i := 4) (oi := ⟨some 104, _, _, _, _, _⟩) (v := ?_) rfl (by kernel_rfl) (by kernel_rfl) (by kernel_rfl) (fun _ _ _ h => h) (Or.inl ⟨by rfl, ?hy5⟩) hHeld ?rest5
                      case hy5 => (intro W hSw; (try dsimp only at hSw); go_simp; (try with_reducible rfl))
                      simp only [Act.put, List.setIfInBounds_toArray, List.set_cons_zero, List.set_cons_succ]
                      refine wpAnyH_take (i := 5) (oi := ⟨some 105, _, _, _, _, _⟩) (v := ?_) rfl (by kernel_rfl) (by kernel_rfl) (by kernel_rfl) (fun _ _ _ h => h) (Or.inl ⟨by rfl, ?hy6⟩) hHeld ?rest6
                      case hy6 => (intro W hSw; (try dsimp only at hSw); go_simp; (try with_reducible rfl))
                      simp only [Act.put, List.setIfInBounds_toArray, List.set_cons_zero, List.set_cons_succ]
                      refine wpAnyH_take (i := 6) (oi := ⟨some 106, _, _, _, _, _⟩) (v := ?_) rfl (by kernel_rfl) (by kernel_rfl) (by kernel_rfl) (fun _ _ _ h => h) (Or.inl ⟨by rfl, ?hy7⟩) hHeld ?rest7
                      case hy7 => (intro W hSw; (try dsimp only at hSw); go_simp; (try with_reducible rfl))
                      simp only [Act.put, List.setIfInBounds_toArray, List.set_cons_zero, List.set_cons_succ]
                      refine wpAnyH_take (i := 7) (oi := ⟨some 107, _, _, _, _, _⟩) (v := ?_) rfl (by kernel_rfl) (by kernel_rfl) (by kernel_rfl) (fun _ _ _ h => h) (Or.inl ⟨by rfl, ?hy8⟩) hHeld ?rest8
                      case hy8 => (intro W hSw; (try dsimp only at hSw); go_simp; (try with_reducible rfl))
                      simp only [Act.put, List.setIfInBounds_toArray, List.set_cons_zero, List.set_cons_succ]
                      refine wpAnyH_take (i := 8) (oi := ⟨some 108, _, _, _, _, _⟩) (v := ?_) rfl (by kernel_rfl) (by kernel_rfl) (by kernel_rfl) (fun _ _ _ h => h) (Or.inl ⟨by rfl, ?hy9⟩) hHeld ?rest9
                      case hy9 => (intro W hSw; (try dsimp only at hSw); go_simp; (try with_reducible rfl))
                      simp only [Act.put, List.setIfInBounds_toArray, List.set_cons_zero, List.set_cons_succ]
                      refine wpAnyH_take (i := 9) (oi := ⟨some 109, _, _, _, _, _⟩) (v := ?_) rfl (by kernel_rfl) (by kernel_rfl) (by kernel_rfl) (fun _ _ _ h => h) (Or.inl ⟨by rfl, ?hy10⟩) hHeld ?rest10
                      case hy10 => (intro W hSw; (try dsimp only at hSw); go_simp; (try with_reducible rfl))
                      simp only [Act.put, List.setIfInBounds_toArray, List.set_cons_zero, List.set_cons_succ]
                      refine wpAnyH_take (i := 10) (oi := ⟨some 110, _, _, _, _, _⟩) (v := ?_) rfl (by kernel_rfl) (by kernel_rfl) (by kernel_rfl) (fun _ _ _ h => h) (Or.inl ⟨by rfl, ?hy11⟩) hHeld ?rest11
                      case hy11 => (intro W hSw; (try dsimp only at hSw); go_simp; (try with_reducible rfl))
                      simp only [Act.put, List.setIfInBounds_toArray, List.set_cons_zero, List.set_cons_succ]
                      refine wpAnyH_take (i := 11) (oi := ⟨some 111, _, _, _, _, _⟩) (v := ?_) rfl (by kernel_rfl) (by kernel_rfl) (by kernel_rfl) (fun _ _ _ h => h) (Or.inl ⟨by rfl, ?hy12⟩) hHeld ?rest12
                      case hy12 => (intro W hSw; (try dsimp only at hSw); go_simp; (try with_reducible rfl))
                      simp only [Act.put, List.setIfInBounds_toArray, List.set_cons_zero, List.set_cons_succ]
                      refine wpAnyH_take (i := 12) (oi := ⟨some 112, _, _, _, _, _⟩) (v := ?_) rfl (by kernel_rfl) (by kernel_rfl) (by kernel_rfl) (fun _ _ _ h => h) (Or.inl ⟨by rfl, ?hy13⟩) hHeld ?rest13
                      case hy13 => (intro W hSw; (try dsimp only at hSw); go_simp; (try with_reducible rfl))
                      simp only [Act.put, List.setIfInBounds_toArray, List.set_cons_zero, List.set_cons_succ]
                      refine wpAnyH_take (i := 13) (oi := ⟨some 113, _, _, _, _, _⟩) (v := ?_) rfl (by kernel_rfl) (by kernel_rfl) (by kernel_rfl) (fun _ _ _ h => h) (Or.inl ⟨by rfl, ?hy14⟩) hHeld ?rest14
                      case hy14 => (intro W hSw; (try dsimp only at hSw); go_simp; (try with_reducible rfl))
                      simp only [Act.put, List.setIfInBounds_toArray, List.set_cons_zero, List.set_cons_succ]
                      refine wpAnyH_take (i := 14) (oi := ⟨some 114, _, _, _, _, _⟩) (v := ?_) rfl (by kernel_rfl) (by kernel_rfl) (by kernel_rfl) (fun _ _ _ h => h) (Or.inl ⟨by rfl, ?hy15⟩) hHeld ?rest15
                      case hy15 => (intro W hSw; (try dsimp only at hSw); go_simp; (try with_reducible rfl))
                      simp only [Act.put, List.setIfInBounds_toArray, List.set_cons_zero, List.set_cons_succ]
                      refine wpAnyH_take (i := 15) (oi := ⟨some 115, _, _, _, _, _⟩) (v := ?_) rfl (by kernel_rfl) (by kernel_rfl) (by kernel_rfl) (fun _ _ _ h => h) (Or.inl ⟨by rfl, ?hy16⟩) hHeld ?rest16
                      case hy16 => (intro W hSw; (try dsimp only at hSw); go_simp; (try with_reducible rfl))
                      simp only [Act.put, List.setIfInBounds_toArray, List.set_cons_zero, List.set_cons_succ]
                      refine wpAnyH_take (i := 16) (oi := ⟨some 116, _, _, _, _, _⟩) (v := ?_) rfl (by kernel_rfl) (by kernel_rfl) (by kernel_rfl) (fun _ _ _ h => h) (Or.inl ⟨by rfl, ?hy17⟩) hHeld ?rest17
                      case hy17 => (intro W hSw; (try dsimp only at hSw); go_simp; (try with_reducible rfl))
                      simp only [Act.put, List.setIfInBounds_toArray, List.set_cons_zero, List.set_cons_succ]
                      refine wpAnyH_take (i := 17) (oi := ⟨some 117, _, _, _, _, _⟩) (v := ?_) rfl (by kernel_rfl) (by kernel_rfl) (by kernel_rfl) (fun _ _ _ h => h) (Or.inl ⟨by rfl, ?hy18⟩) hHeld ?rest18
                      case hy18 => (intro W hSw; (try dsimp only at hSw); go_simp; (try with_reducible rfl))
                      simp only [Act.put, List.setIfInBounds_toArray, List.set_cons_zero, List.set_cons_succ]
                      refine wpAnyH_take (i := 18) (oi := ⟨some 118, _, _, _, _, _⟩) (v := ?_) rfl (by kernel_rfl) (by kernel_rfl) (by kernel_rfl) (fun _ _ _ h => h) (Or.inl ⟨by rfl, ?hy19⟩) hHeld ?rest19
                      case hy19 => (intro W hSw; (try dsimp only at hSw); go_simp; (try with_reducible rfl))
                      simp only [Act.put, List.setIfInBounds_toArray, List.set_cons_zero, List.set_cons_succ]
                      refine wpAnyH_take (i := 19) (oi := ⟨some 119, _, _, _, _, _⟩) (v := ?_) rfl (by kernel_rfl) (by kernel_rfl) (by kernel_rfl) (fun _ _ _ h => h) (Or.inl ⟨by rfl, ?hy20⟩) hHeld ?rest20
                      case hy20 => (intro W hSw; (try dsimp only at hSw); go_simp; (try with_reducible rfl))
                      simp only [Act.put, List.setIfInBounds_toArray, List.set_cons_zero, List.set_cons_succ]
                      refine wpAnyH_take (i := 20) (oi := ⟨some 120, _, _, _, _, _⟩) (v := ?_) rfl (by kernel_rfl) (by kernel_rfl) (by kernel_rfl) (fun _ _ _ h => h) (Or.inl ⟨by rfl, ?hy21⟩) hHeld ?rest21
                      case hy21 => (intro W hSw; (try dsimp only at hSw); go_simp; (try with_reducible rfl))
                      simp only [Act.put, List.setIfInBounds_toArray, List.set_cons_zero, List.set_cons_succ]
                      refine wpAnyH_take (i := 21) (oi := ⟨some 121, _, _, _, _, _⟩) (v := ?_) rfl (by kernel_rfl) (by kernel_rfl) (by kernel_rfl) (fun _ _ _ h => h) (Or.inl ⟨by rfl, ?hy22⟩) hHeld ?rest22
                      case hy22 => (intro W hSw; (try dsimp only at hSw); go_simp; (try with_reducible rfl))
                      simp only [Act.put, List.setIfInBounds_toArray, List.set_cons_zero, List.set_cons_succ]
                      refine wpAnyH_take (i := 22) (oi := ⟨some 122, _, _, _, _, _⟩) (v := ?_) rfl (by kernel_rfl) (by kernel_rfl) (by kernel_rfl) (fun _ _ _ h => h) (Or.inl ⟨by rfl, ?hy23⟩) hHeld ?rest23
                      case hy23 => (intro W hSw; (try dsimp only at hSw); go_simp; (try with_reducible rfl))
                      simp only [Act.put, List.setIfInBounds_toArray, List.set_cons_zero, List.set_cons_succ]
                      refine wpAnyH_take (i := 23) (oi := ⟨some 123, _, _, _, _, _⟩) (v := ?_) rfl (by kernel_rfl) (by kernel_rfl) (by kernel_rfl) (fun _ _ _ h => h) (Or.inl ⟨by rfl, ?hy24⟩) hHeld ?rest24
                      case hy24 => (intro W hSw; (try dsimp only at hSw); go_simp; (try with_reducible rfl))
                      simp only [Act.put, List.setIfInBounds_toArray, List.set_cons_zero, List.set_cons_succ]
                      refine wpAnyH_take (i := 24) (oi := ⟨some 124, _, _, _, _, _⟩) (v := ?_) rfl (by kernel_rfl) (by kernel_rfl) (by kernel_rfl) (fun _ _ _ h => h) (Or.inl ⟨by rfl, ?hy25⟩) hHeld ?rest25
                      case hy25 => (intro W hSw; (try dsimp only at hSw); go_simp; (try with_reducible rfl))
                      simp only [Act.put, List.setIfInBounds_toArray, List.set_cons_zero, List.set_cons_succ]
                      refine wpAnyH_ready (rs := [25]) (by kernel_rfl) (by simp) ?_
                      refine AllReadyH.cons (o := ⟨some 125, _, _, _, _, _⟩) rfl (fun K hK => ?_) AllReadyH.nil
                      go_simp
                      go_at_call 39
                      refine FD.mono ?_
                      rintro e w8 ⟨⟨z, rfl, hz⟩, rfl⟩
                      have hzb := HZB.out z hz
                      clear hz FD
                      refine hK.out _ _ ?_ (fun hNew => ?_)
                      · ((try dsimp only); (first | go_keep | (go_split_ands; refine ⟨?_, ?_, ?_⟩ <;> assumption)))
                      clear hK K hHeld
                      have hHeld := hNew
                      clear hNew
                      try simp only [Act.put, List.setIfInBounds_toArray, List.set_cons_zero, List.set_cons_succ]
                      refine wpAnyH_take (i := 26) (oi := ⟨some 126, _, _, _, _, _⟩) (v := ?_) rfl (by kernel_rfl) (by kernel_rfl) (by kernel_rfl) (fun _ _ _ h => h) (Or.inl ⟨by rfl, ?hy27⟩) hHeld ?rest27
                      case hy27 => (intro W hSw; (try dsimp only at hSw); go_simp; (try with_reducible rfl))
                      simp only [Act.put, List.setIfInBounds_toArray, List.set_cons_zero, List.set_cons_succ]
                      refine wpAnyH_take (i := 27) (oi := ⟨some 127, _, _, _, _, _⟩) (v := ?_) rfl (by kernel_rfl) (by kernel_rfl) (by kernel_rfl) (fun _ _ _ h => h) (Or.inl ⟨by rfl, ?hy28⟩) hHeld ?rest28
                      case hy28 => (intro W hSw; (try dsimp only at hSw); go_simp; (try with_reducible rfl))
                      simp only [Act.put, List.setIfInBounds_toArray, List.set_cons_zero, List.set_cons_succ]
                      refine wpAnyH_done (by kernel_rfl) ?_ _
                      go_wp2_with fail
                      go_meet
                      case rel => exact ⟨rfl, Lib.hid (Below.refl _ _).drew⟩
                    · have hg2 : decide ((N : Int) ≤ (st.got : Int) + (W : Int)) = false := decide_eq_false (by omega)
                      have hbt : bq = false := by rw [← HBQ.out]; exact decide_eq_false (fun h => g2 h.2.1)
                      subst hbt
                      clear g1 g2 FD
                      refine wp_region_held_drew (S := (fun W_ => W_.cell? ⟨tb, 1, none⟩ = some (.int .i64 N) ∧ W_.cell? ⟨db, 7, none⟩ = some (.int .i64 st.got) ∧ W_.cell? ⟨db, 0, none⟩ = some (.int .i64 W))) (by kernel_rfl) ?_ (fun hHeld => ?_)
                      · (first | go_keep | (go_split_ands; refine ⟨?_, ?_, ?_⟩ <;> assumption))
                      refine wpAnyH_take (i := 0) (oi := ⟨some 100, _, _, _, _, _⟩) (v := ?_) rfl (by kernel_rfl) (by kernel_rfl) (by kernel_rfl) (fun _ _ _ h => h) (Or.inl ⟨by rfl, ?hy29⟩) hHeld ?rest29
                      case hy29 => (intro W hSw; (try dsimp only at hSw); go_simp; (try with_reducible rfl))
                      simp only [Act.put, List.setIfInBounds_toArray, List.set_cons_zero, List.set_cons_succ]
                      refine wpAnyH_take (i := 1) (oi := ⟨some 101, _, _, _, _, _⟩) (v := ?_) rfl (by kernel_rfl) (by kernel_rfl) (by kernel_rfl) (fun _ _ _ h => h) (Or.inl ⟨by rfl, ?hy30⟩) hHeld ?rest30
                      case hy30 => (intro W hSw; (try dsimp only at hSw); go_simp; (try with_reducible rfl))
                      simp only [Act.put, List.setIfInBounds_toArray, List.set_cons_zero, List.set_cons_succ]
                      refine wpAnyH_take (i := 2) (oi := ⟨some 102, _, _, _, _, _⟩) (v := ?_) rfl (by kernel_rfl) (by kernel_rfl) (by kernel_rfl) (fun _ _ _ h => h) (Or.inl ⟨by rfl, ?hy31⟩) hHeld ?rest31
                      case hy31 => (intro W hSw; (try dsimp only at hSw); go_simp; (try with_reducible rfl))
                      simp only [Act.put, List.setIfInBounds_toArray, List.set_cons_zero, List.set_cons_succ]
                      refine wpAnyH_take (i := 3) (oi := ⟨some 103, _, _, _, _, _⟩) (v := ?_) rfl (by kernel_rfl) (by kernel_rfl) (by kernel_rfl) (fun _ _ _ h => h) (Or.inl ⟨by rfl, ?hy32⟩) hHeld ?rest32
                      case hy32 => (intro W hSw; (try dsimp only at hSw); go_simp; (try with_reducible rfl))
                      simp only [Act.put, List.setIfInBounds_toArray, List.set_cons_zero, List.set_cons_succ]
                      refine wpAnyH_take (i := 4) (oi := ⟨some 104, _, _, _, _, _⟩) (v := ?_) rfl (by kernel_rfl) (by kernel_rfl) (by kernel_rfl) (fun _ _ _ h => h) (Or.inl ⟨by rfl, ?hy33⟩) hHeld ?rest33
                      case hy33 => (intro W hSw; (try dsimp only at hSw); go_simp; (try with_reducible rfl))
                      simp only [Act.put, List.setIfInBounds_toArray, List.set_cons_zero, List.set_cons_succ]
                      refine wpAnyH_take (i := 5) (oi := ⟨some 105, _, _, _, _, _⟩) (v := ?_) rfl (by kernel_rfl) (by kernel_rfl) (by kernel_rfl) (fun _ _ _ h => h) (Or.inl ⟨by rfl, ?hy34⟩) hHeld ?rest34
                      case hy34 => (intro W hSw; (try dsimp only at hSw); go_simp; (try with_reducible rfl))
                      simp only [Act.put, List.setIfInBounds_toArray, List.set_cons_zero, List.set_cons_succ]
                      refine wpAnyH_take (i := 6) (oi := ⟨some 106, _, _, _, _, _⟩) (v := ?_) rfl (by kernel_rfl) (by kernel_rfl) (by kernel_rfl) (fun _ _ _ h => h) (Or.inl ⟨by rfl, ?hy35⟩) hHeld ?rest35
                      case hy35 => (intro W hSw; (try dsimp only at hSw); go_simp; (try with_reducible rfl))
                      simp only [Act.put, List.setIfInBounds_toArray, List.set_cons_zero, List.set_cons_succ]
                      refine wpAnyH_take (i := 7) (oi := ⟨some 107, _, _, _, _, _⟩) (v := ?_) rfl (by kernel_rfl) (by kernel_rfl) (by kernel_rfl) (fun _ _ _ h => h) (Or.inl ⟨by rfl, ?hy36⟩) hHeld ?rest36
                      case hy36 => (intro W hSw; (try dsimp only at hSw); go_simp; (try with_reducible rfl))
                      simp only [Act.put, List.setIfInBounds_toArray, List.set_cons_zero, List.set_cons_succ]
                      refine wpAnyH_take (i := 8) (oi := ⟨some 108, _, _, _, _, _⟩) (v := ?_) rfl (by kernel_rfl) (by kernel_rfl) (by kernel_rfl) (fun _ _ _ h => h) (Or.inl ⟨by rfl, ?hy37⟩) hHeld ?rest37
                      case hy37 => (intro W hSw; (try dsimp only at hSw); go_simp; (try with_reducible rfl))
                      simp only [Act.put, List.setIfInBounds_toArray, List.set_cons_zero, List.set_cons_succ]
                      refine wpAnyH_take (i := 9) (oi := ⟨some 109, _, _, _, _, _⟩) (v := ?_) rfl (by kernel_rfl) (by kernel_rfl) (by kernel_rfl) (fun _ _ _ h => h) (Or.inl ⟨by rfl, ?hy38⟩) hHeld ?rest38
                      case hy38 => (intro W hSw; (try dsimp only at hSw); go_simp; (try with_reducible rfl))
                      simp only [Act.put, List.setIfInBounds_toArray, List.set_cons_zero, List.set_cons_succ]
                      refine wpAnyH_take (i := 10) (oi := ⟨some 110, _, _, _, _, _⟩) (v := ?_) rfl (by kernel_rfl) (by kernel_rfl) (by kernel_rfl) (fun _ _ _ h => h) (Or.inl ⟨by rfl, ?hy39⟩) hHeld ?rest39
                      case hy39 => (intro W hSw; (try dsimp only at hSw); go_simp; (try with_reducible rfl))
                      simp only [Act.put, List.setIfInBounds_toArray, List.set_cons_zero, List.set_cons_succ]
                      refine wpAnyH_take (i := 11) (oi := ⟨some 111, _, _, _, _, _⟩) (v := ?_) rfl (by kernel_rfl) (by kernel_rfl) (by kernel_rfl) (fun _ _ _ h => h) (Or.inl ⟨by rfl, ?hy40⟩) hHeld ?rest40
                      case hy40 => (intro W hSw; (try dsimp only at hSw); go_simp; (try with_reducible rfl))
                      simp only [Act.put, List.setIfInBounds_toArray, List.set_cons_zero, List.set_cons_succ]
                      refine wpAnyH_take (i := 12) (oi := ⟨some 112, _, _, _, _, _⟩) (v := ?_) rfl (by kernel_rfl) (by kernel_rfl) (by kernel_rfl) (fun _ _ _ h => h) (Or.inl ⟨by rfl, ?hy41⟩) hHeld ?rest41
                      case hy41 => (intro W hSw; (try dsimp only at hSw); go_simp; (try with_reducible rfl))
                      simp only [Act.put, List.setIfInBounds_toArray, List.set_cons_zero, List.set_cons_succ]
                      refine wpAnyH_take (i := 13) (oi := ⟨some 113, _, _, _, _, _⟩) (v := ?_) rfl (by kernel_rfl) (by kernel_rfl) (by kernel_rfl) (fun _ _ _ h => h) (Or.inl ⟨by rfl, ?hy42⟩) hHeld ?rest42
                      case hy42 => (intro W hSw; (try dsimp only at hSw); go_simp; (try with_reducible rfl))
                      simp only [Act.put, List.setIfInBounds_toArray, List.set_cons_zero, List.set_cons_succ]
                      refine wpAnyH_take (i := 14) (oi := ⟨some 114, _, _, _, _, _⟩) (v := ?_) rfl (by kernel_rfl) (by kernel_rfl) (by kernel_rfl) (fun _ _ _ h => h) (Or.inl ⟨by rfl, ?hy43⟩) hHeld ?rest43
                      case hy43 => (intro W hSw; (try dsimp only at hSw); go_simp; (try with_reducible rfl))
                      simp only [Act.put, List.setIfInBounds_toArray, List.set_cons_zero, List.set_cons_succ]
                      refine wpAnyH_take (i := 15) (oi := ⟨some 115, _, _, _, _, _⟩) (v := ?_) rfl (by kernel_rfl) (by kernel_rfl) (by kernel_rfl) (fun _ _ _ h => h) (Or.inl ⟨by rfl, ?hy44⟩) hHeld ?rest44
                      case hy44 => (intro W hSw; (try dsimp only at hSw); go_simp; (try with_reducible rfl))
                      simp only [Act.put, List.setIfInBounds_toArray, List.set_cons_zero, List.set_cons_succ]
                      refine wpAnyH_take (i := 16) (oi := ⟨some 116, _, _, _, _, _⟩) (v := ?_) rfl (by kernel_rfl) (by kernel_rfl) (by kernel_rfl) (fun _ _ _ h => h) (Or.inl ⟨by rfl, ?hy45⟩) hHeld ?rest45
                      case hy45 => (intro W hSw; (try dsimp only at hSw); go_simp; (try with_reducible rfl))
                      simp only [Act.put, List.setIfInBounds_toArray, List.set_cons_zero, List.set_cons_succ]
                      refine wpAnyH_take (i := 17) (oi := ⟨some 117, _, _, _, _, _⟩) (v := ?_) rfl (by kernel_rfl) (by kernel_rfl) (by kernel_rfl) (fun _ _ _ h => h) (Or.inl ⟨by rfl, ?hy46⟩) hHeld ?rest46
                      case hy46 => (intro W hSw; (try dsimp only at hSw); go_simp; (try with_reducible rfl))
                      simp only [Act.put, List.setIfInBounds_toArray, List.set_cons_zero, List.set_cons_succ]
                      refine wpAnyH_take (i := 18) (oi := ⟨some 118, _, _, _, _, _⟩) (v := ?_) rfl (by kernel_rfl) (by kernel_rfl) (by kernel_rfl) (fun _ _ _ h => h) (Or.inl ⟨by rfl, ?hy47⟩) hHeld ?rest47
                      case hy47 => (intro W hSw; (try dsimp only at hSw); go_simp; (try with_reducible rfl))
                      simp only [Act.put, List.setIfInBounds_toArray, List.set_cons_zero, List.set_cons_succ]
                      refine wpAnyH_take (i := 19) (oi := ⟨some 119, _, _, _, _, _⟩) (v := ?_) rfl (by kernel_rfl) (by kernel_rfl) (by kernel_rfl) (fun _ _ _ h => h) (Or.inl ⟨by rfl, ?hy48⟩) hHeld ?rest48
                      case hy48 => (intro W hSw; (try dsimp only at hSw); go_simp; (try with_reducible rfl))
                      simp only [Act.put, List.setIfInBounds_toArray, List.set_cons_zero, List.set_cons_succ]
                      refine wpAnyH_take (i := 20) (oi := ⟨some 120, _, _, _, _, _⟩) (v := ?_) rfl (by kernel_rfl) (by kernel_rfl) (by kernel_rfl) (fun _ _ _ h => h) (Or.inl ⟨by rfl, ?hy49⟩) hHeld ?rest49
                      case hy49 => (intro W hSw; (try dsimp only at hSw); go_simp; (try with_reducible rfl))
                      simp only [Act.put, List.setIfInBounds_toArray, List.set_cons_zero, List.set_cons_succ]
                      refine wpAnyH_take (i := 21) (oi := ⟨some 121, _, _, _, _, _⟩) (v := ?_) rfl (by kernel_rfl) (by kernel_rfl) (by kernel_rfl) (fun _ _ _ h => h) (Or.inl ⟨by rfl, ?hy50⟩) hHeld ?rest50
                      case hy50 => (intro W hSw; (try dsimp only at hSw); go_simp; (try with_reducible rfl))
                      simp only [Act.put, List.setIfInBounds_toArray, List.set_cons_zero, List.set_cons_succ]
                      refine wpAnyH_take (i := 22) (oi := ⟨some 122, _, _, _, _, _⟩) (v := undef) rfl (by kernel_rfl) (by kernel_rfl) (by kernel_rfl) (fun _ _ _ h => h) (Or.inr ⟨by rfl, rfl⟩) hHeld ?rest51
                      simp only [Act.put, List.setIfInBounds_toArray, List.set_cons_zero, List.set_cons_succ]
                      refine wpAnyH_take (i := 23) (oi := ⟨some 123, _, _, _, _, _⟩) (v := undef) rfl (by kernel_rfl) (by kernel_rfl) (by kernel_rfl) (fun _ _ _ h => h) (Or.inr ⟨by rfl, rfl⟩) hHeld ?rest52
                      simp only [Act.put, List.setIfInBounds_toArray, List.set_cons_zero, List.set_cons_succ]
                      refine wpAnyH_take (i := 24) (oi := ⟨some 124, _, _, _, _, _⟩) (v := undef) rfl (by kernel_rfl) (by kernel_rfl) (by kernel_rfl) (fun _ _ _ h => h) (Or.inr ⟨by rfl, rfl⟩) hHeld ?rest53
                      simp only [Act.put, List.setIfInBounds_toArray, List.set_cons_zero, List.set_cons_succ]
                      refine wpAnyH_take (i := 25) (oi := ⟨some 125, _, _, _, _, _⟩) (v := undef) rfl (by kernel_rfl) (by kernel_rfl) (by kernel_rfl) (fun _ _ _ h => h) (Or.inr ⟨by rfl, rfl⟩) hHeld ?rest54
                      simp only [Act.put, List.setIfInBounds_toArray, List.set_cons_zero, List.set_cons_succ]
                      refine wpAnyH_take (i := 26) (oi := ⟨some 126, _, _, _, _, _⟩) (v := undef) rfl (by kernel_rfl) (by kernel_rfl) (by kernel_rfl) (fun _ _ _ h => h) (Or.inr ⟨by rfl, rfl⟩) hHeld ?rest55
                      simp only [Act.put, List.setIfInBounds_toArray, List.set_cons_zero, List.set_cons_succ]
                      refine wpAnyH_take (i := 27) (oi := ⟨some 127, _, _, _, _, _⟩) (v := ?_) rfl (by kernel_rfl) (by kernel_rfl) (by kernel_rfl) (fun _ _ _ h => h) (Or.inl ⟨by rfl, ?hy56⟩) hHeld ?rest56
                      case hy56 => (intro W hSw; (try dsimp only at hSw); go_simp; (try with_reducible rfl))
                      simp only [Act.put, List.setIfInBounds_toArray, List.set_cons_zero, List.set_cons_succ]
                      refine wpAnyH_done (by kernel_rfl) ?_ _
                      go_wp2_with fail
                      go_meet
                      case rel => exact ⟨rfl, Lib.hid (Below.refl _ _).drew⟩
                  · have hg1 : decide (st.got < N) = false := decide_eq_false g1
                    have hbt : bq = false := by rw [← HBQ.out]; exact decide_eq_false (fun h => g1 h.1)
                    subst hbt
                    clear g1 FD
                    refine wp_region_held_drew (S := (fun W_ => W_.cell? ⟨tb, 1, none⟩ = some (.int .i64 N) ∧ W_.cell? ⟨db, 7, none⟩ = some (.int .i64 st.got) ∧ W_.cell? ⟨db, 0, none⟩ = some (.int .i64 W))) (by kernel_rfl) ?_ (fun hHeld => ?_)
                    · (first | go_keep | (go_split_ands; refine ⟨?_, ?_, ?_⟩ <;> assumption))
                    refine wpAnyH_take (i := 0) (oi := ⟨some 100, _, _, _, _, _⟩) (v := ?_) rfl (by kernel_rfl) (by kernel_rfl) (by kernel_rfl) (fun _ _ _ h => h) (Or.inl ⟨by rfl, ?hy57⟩) hHeld ?rest57
                    case hy57 => (intro W hSw; (try dsimp only at hSw); go_simp; (try with_reducible rfl))
                    simp only [Act.put, List.setIfInBounds_toArray, List.set_cons_zero, List.set_cons_succ]
                    refine wpAnyH_take (i := 1) (oi := ⟨some 101, _, _, _, _, _⟩) (v := ?_) rfl (by kernel_rfl) (by kernel_rfl) (by kernel_rfl) (fun _ _ _ h => h) (Or.inl ⟨by rfl, ?hy58⟩) hHeld ?rest58
                    case hy58 => (intro W hSw; (try dsimp only at hSw); go_simp; (try with_reducible rfl))
                    simp only [Act.put, List.setIfInBounds_toArray, List.set_cons_zero, List.set_cons_succ]
                    refine wpAnyH_take (i := 2) (oi := ⟨some 102, _, _, _, _, _⟩) (v := ?_) rfl (by kernel_rfl) (by kernel_rfl) (by kernel_rfl) (fun _ _ _ h => h) (Or.inl ⟨by rfl, ?hy59⟩) hHeld ?rest59
                    case hy59 => (intro W hSw; (try dsimp only at hSw); go_simp; (try with_reducible rfl))
                    simp only [Act.put, List.setIfInBounds_toArray, List.set_cons_zero, List.set_cons_succ]
                    refine wpAnyH_take (i := 3) (oi := ⟨some 103, _, _, _, _, _⟩) (v := ?_) rfl (by kernel_rfl) (by kernel_rfl) (by kernel_rfl) (fun _ _ _ h => h) (Or.inl ⟨by rfl, ?hy60⟩) hHeld ?rest60
                    case hy60 => (intro W hSw; (try dsimp only at hSw); go_simp; (try with_reducible rfl))
                    simp only [Act.put, List.setIfInBounds_toArray, List.set_cons_zero, List.set_cons_succ]
                    refine wpAnyH_take (i := 4) (oi := ⟨some 104, _, _, _, _, _⟩) (v := ?_) rfl (by kernel_rfl) (by kernel_rfl) (by kernel_rfl) (fun _ _ _ h => h) (Or.inl ⟨by rfl, ?hy61⟩) hHeld ?rest61
                    case hy61 => (intro W hSw; (try dsimp only at hSw); go_simp; (try with_reducible rfl))
                    simp only [Act.put, List.setIfInBounds_toArray, List.set_cons_zero, List.set_cons_succ]
                    refine wpAnyH_take (i := 5) (oi := ⟨some 105, _, _, _, _, _⟩) (v := ?_) rfl (by kernel_rfl) (by kernel_rfl) (by kernel_rfl) (fun _ _ _ h => h) (Or.inl ⟨by rfl, ?hy62⟩) hHeld ?rest62
                    case hy62 => (intro W hSw; (try dsimp only at hSw); go_simp; (try with_reducible rfl))
                    simp only [Act.put, List.setIfInBounds_toArray, List.set_cons_zero, List.set_cons_succ]
                    refine wpAnyH_take (i := 6) (oi := ⟨some 106, _, _, _, _, _⟩) (v := ?_) rfl (by kernel_rfl) (by kernel_rfl) (by kernel_rfl) (fun _ _ _ h => h) (Or.inl ⟨by rfl, ?hy63⟩) hHeld ?rest63
                    case hy63 => (intro W hSw; (try dsimp only at hSw); go_simp; (try with_reducible rfl))
                    simp only [Act.put, List.setIfInBounds_toArray, List.set_cons_zero, List.set_cons_succ]
                    refine wpAnyH_take (i := 7) (oi := ⟨some 107, _, _, _, _, _⟩) (v := ?_) rfl (by kernel_rfl) (by kernel_rfl) (by kernel_rfl) (fun _ _ _ h => h) (Or.inl ⟨by rfl, ?hy64⟩) hHeld ?rest64
                    case hy64 => (intro W hSw; (try dsimp only at hSw); go_simp; (try with_reducible rfl))
                    simp only [Act.put, List.setIfInBounds_toArray, List.set_cons_zero, List.set_cons_succ]
                    refine wpAnyH_take (i := 8) (oi := ⟨some 108, _, _, _, _, _⟩) (v := undef) rfl (by kernel_rfl) (by kernel_rfl) (by kernel_rfl) (fun _ _ _ h => h) (Or.inr ⟨by rfl, rfl⟩) hHeld ?rest65
                    simp only [Act.put, List.setIfInBounds_toArray, List.set_cons_zero, List.set_cons_succ]
                    refine wpAnyH_take (i := 9) (oi := ⟨some 109, _, _, _, _, _⟩) (v := undef) rfl (by kernel_rfl) (by kernel_rfl) (by kernel_rfl) (fun _ _ _ h => h) (Or.inr ⟨by rfl, rfl⟩) hHeld ?rest66
                    simp only [Act.put, List.setIfInBounds_toArray, List.set_cons_zero, List.set_cons_succ]
                    refine wpAnyH_take (i := 10) (oi := ⟨some 110, _, _, _, _, _⟩) (v := undef) rfl (by kernel_rfl) (by kernel_rfl) (by kernel_rfl) (fun _ _ _ h => h) (Or.inr ⟨by rfl, rfl⟩) hHeld ?rest67
                    simp only [Act.put, List.setIfInBounds_toArray, List.set_cons_zero, List.set_cons_succ]
                    refine wpAnyH_take (i := 11) (oi := ⟨some 111, _, _, _, _, _⟩) (v := undef) rfl (by kernel_rfl) (by kernel_rfl) (by kernel_rfl) (fun _ _ _ h => h) (Or.inr ⟨by rfl, rfl⟩) hHeld ?rest68
                    simp only [Act.put, List.setIfInBounds_toArray, List.set_cons_zero, List.set_cons_succ]
                    refine wpAnyH_take (i := 12) (oi := ⟨some 112, _, _, _, _, _⟩) (v := undef) rfl (by kernel_rfl) (by kernel_rfl) (by kernel_rfl) (fun _ _ _ h => h) (Or.inr ⟨by rfl, rfl⟩) hHeld ?rest69
                    simp only [Act.put, List.setIfInBounds_toArray, List.set_cons_zero, List.set_cons_succ]
                    refine wpAnyH_take (i := 13) (oi := ⟨some 113, _, _, _, _, _⟩) (v := undef) rfl (by kernel_rfl) (by kernel_rfl) (by kernel_rfl) (fun _ _ _ h => h) (Or.inr ⟨by rfl, rfl⟩) hHeld ?rest70
                    simp only [Act.put, List.setIfInBounds_toArray, List.set_cons_zero, List.set_cons_succ]
                    refine wpAnyH_take (i := 14) (oi := ⟨some 114, _, _, _, _, _⟩) (v := undef) rfl (by kernel_rfl) (by kernel_rfl) (by kernel_rfl) (fun _ _ _ h => h) (Or.inr ⟨by rfl, rfl⟩) hHeld ?rest71
                    simp only [Act.put, List.setIfInBounds_toArray, List.set_cons_zero, List.set_cons_succ]
                    refine wpAnyH_take (i := 15) (oi := ⟨some 115, _, _, _, _, _⟩) (v := undef) rfl (by kernel_rfl) (by kernel_rfl) (by kernel_rfl) (fun _ _ _ h => h) (Or.inr ⟨by rfl, rfl⟩) hHeld ?rest72
                    simp only [Act.put, List.setIfInBounds_toArray, List.set_cons_zero, List.set_cons_succ]
                    refine wpAnyH_take (i := 16) (oi := ⟨some 116, _, _, _, _, _⟩) (v := undef) rfl (by kernel_rfl) (by kernel_rfl) (by kernel_rfl) (fun _ _ _ h => h) (Or.inr ⟨by rfl, rfl⟩) hHeld ?rest73
                    simp only [Act.put, List.setIfInBounds_toArray, List.set_cons_zero, List.set_cons_succ]
                    refine wpAnyH_take (i := 17) (oi := ⟨some 117, _, _, _, _, _⟩) (v := undef) rfl (by kernel_rfl) (by kernel_rfl) (by kernel_rfl) (fun _ _ _ h => h) (Or.inr ⟨by rfl, rfl⟩) hHeld ?rest74
                    simp only [Act.put, List.setIfInBounds_toArray, List.set_cons_zero, List.set_cons_succ]
                    refine wpAnyH_take (i := 18) (oi := ⟨some 118, _, _, _, _, _⟩) (v := undef) rfl (by kernel_rfl) (by kernel_rfl) (by kernel_rfl) (fun _ _ _ h => h) (Or.inr ⟨by rfl, rfl⟩) hHeld ?rest75
                    simp only [Act.put, List.setIfInBounds_toArray, List.set_cons_zero, List.set_cons_succ]
                    refine wpAnyH_take (i := 19) (oi := ⟨some 119, _, _, _, _, _⟩) (v := undef) rfl (by kernel_rfl) (by kernel_rfl) (by kernel_rfl) (fun _ _ _ h => h) (Or.inr ⟨by rfl, rfl⟩) hHeld ?rest76
                    simp only [Act.put, List.setIfInBounds_toArray, List.set_cons_zero, List.set_cons_succ]
                    refine wpAnyH_take (i := 20) (oi := ⟨some 120, _, _, _, _, _⟩) (v := ?_) rfl (by kernel_rfl) (by kernel_rfl) (by kernel_rfl) (fun _ _ _ h => h) (Or.inl ⟨by rfl, ?hy77⟩) hHeld ?rest77
                    case hy77 => (intro W hSw; (try dsimp only at hSw); go_simp; (try with_reducible rfl))
                    simp only [Act.put, List.setIfInBounds_toArray, List.set_cons_zero, List.set_cons_succ]
                    refine wpAnyH_take (i := 21) (oi := ⟨some 121, _, _, _, _, _⟩) (v := ?_) rfl (by kernel_rfl) (by kernel_rfl) (by kernel_rfl) (fun _ _ _ h => h) (Or.inl ⟨by rfl, ?hy78⟩) hHeld ?rest78
                    case hy78 => (intro W hSw; (try dsimp only at hSw); go_simp; (try with_reducible rfl))
                    simp only [Act.put, List.setIfInBounds_toArray, List.set_cons_zero, List.set_cons_succ]
                    refine wpAnyH_take (i := 22) (oi := ⟨some 122, _, _, _, _, _⟩) (v := undef) rfl (by kernel_rfl) (by kernel_rfl) (by kernel_rfl) (fun _ _ _ h => h) (Or.inr ⟨by rfl, rfl⟩) hHeld ?rest79
                    simp only [Act.put, List.setIfInBounds_toArray, List.set_cons_zero, List.set_cons_succ]
                    refine wpAnyH_take (i := 23) (oi := ⟨some 123, _, _, _, _, _⟩) (v := undef) rfl (by kernel_rfl) (by kernel_rfl) (by kernel_rfl) (fun _ _ _ h => h) (Or.inr ⟨by rfl, rfl⟩) hHeld ?rest80
                    simp only [Act.put, List.setIfInBounds_toArray, List.set_cons_zero, List.set_cons_succ]
                    refine wpAnyH_take (i := 24) (oi := ⟨some 124, _, _, _, _, _⟩) (v := undef) rfl (by kernel_rfl) (by kernel_rfl) (by kernel_rfl) (fun _ _ _ h => h) (Or.inr ⟨by rfl, rfl⟩) hHeld ?rest81
                    simp only [Act.put, List.setIfInBounds_toArray, List.set_cons_zero, List.set_cons_succ]
                    refine wpAnyH_take (i := 25) (oi := ⟨some 125, _, _, _, _, _⟩) (v := undef) rfl (by kernel_rfl) (by kernel_rfl) (by kernel_rfl) (fun _ _ _ h => h) (Or.inr ⟨by rfl, rfl⟩) hHeld ?rest82
                    simp only [Act.put, List.setIfInBounds_toArray, List.set_cons_zero, List.set_cons_succ]
                    refine wpAnyH_take (i := 26) (oi := ⟨some 126, _, _, _, _, _⟩) (v := undef) rfl (by kernel_rfl) (by kernel_rfl) (by kernel_rfl) (fun _ _ _ h => h) (Or.inr ⟨by rfl, rfl⟩) hHeld ?rest83
                    simp only [Act.put, List.setIfInBounds_toArray, List.set_cons_zero, List.set_cons_succ]
                    refine wpAnyH_take (i := 27) (oi := ⟨some 127, _, _, _, _, _⟩) (v := ?_) rfl (by kernel_rfl) (by kernel_rfl) (by kernel_rfl) (fun _ _ _ h => h) (Or.inl ⟨by rfl, ?hy84⟩) hHeld ?rest84
                    case hy84 => (intro W hSw; (try dsimp only at hSw); go_simp; (try with_reducible rfl))
                    simp only [Act.put, List.setIfInBounds_toArray, List.set_cons_zero, List.set_cons_succ]
                    refine wpAnyH_done (by kernel_rfl) ?_ _
                    go_wp2_with fail
                    go_meet
                    case rel => exact ⟨rfl, Lib.hid (Below.refl _ _).drew⟩
              case rest =>
                obtain ⟨rfl, HB8⟩ := hcut
                clear FD x1 c7 c0 hww
                have HL8 := Lib.hid (HL7.out.bel HB8.out)
                have HX8 := Lib.hid (HX7.out.bel HB8.out)
                have HM8 : Hid (MovesD w wc db) := Lib.hid (HM7.out.trans (MovesD.of_below HB8.out (by have := HL7.out.lt; omega)))
                obtain ⟨E0, hE0⟩ : ∃ E0, keepE W st.got st.early N q.v = E0 := ⟨_, rfl⟩
                have HE0 := Lib.hid hE0
                clear hE0 HL7 HX7 HM7 HB8
                go_upto_if 127 with fail
                go_cut [] from 11 (fun wx => Hid (DLk wx db base W Sp R (gotSt sb st.got E0) ∧ MovesD w wx db))
                case first =>
                  as_aux_lemma =>
                    cases bq with
                    | false =>
                      have HF : Hid (DLk wc db base W Sp R (gotSt sb st.got E0) ∧ MovesD w wc db) := Lib.hid (by
                        have e : E0 = st.early := by
                          rw [← HE0.out]
                          unfold keepE
                          rw [if_neg (fun h => of_decide_eq_false HBQ.out ⟨by omega, by omega, by simpa using h.2.2⟩)]
                        have e2 : gotSt sb st.got E0 = sb := by rw [e, ← HBG.out.1, ← HBG.out.2]; exact gotSt_self sb
                        rw [e2]
                        exact ⟨⟨_, _, _, _, HL8.out⟩, HM8.out⟩)
                      go_wp2_with fail
                      go_meet
                      case rel => exact HF
                    | true =>
                      obtain ⟨-, ea, ec, hve⟩ := HL8.out.shape
                      have HEK : Hid (E0 = st.early ++ [(N, q.v)]) := Lib.hid (by
                        have hb := of_decide_eq_true HBQ.out
                        rw [← HE0.out]
                        unfold keepE
                        rw [if_pos ⟨by omega, by omega, by simpa using hb.2.2⟩]
                        simp)
                      have HGK : Hid (GoodQ W sb.got (sb.early ++ [(N, q.v)])) := Lib.hid (by
                        have h := HL8.out.good.early.keep (N : Int) q.v
                        rw [HBG.out.1, HBG.out.2] at h ⊢
                        rw [HE0.out, HEK.out] at h
                        exact h)
                      have x1 : wc.cell? ⟨tb, 1, none⟩ = some (.int .i64 N) := HX8.out.cell 1
                      have x3 : wc.cell? ⟨tb, 3, none⟩ = some (.slice q.a q.n q.cap) := HX8.out.cell 3
                      have c9 : wc.cell? ⟨db, 9, none⟩ = some (.slice ea ys.length ec) := by have := HL8.out.box.cell 9; rw [hve] at this; exact this
                      have HQI : Hid (q.n ≤ 65536 ∧ q.In .u8 wc) := Lib.hid ⟨HQ.out.2, HM8.out.rows _ HQ.out.1⟩
                      obtain ⟨YL, hYL⟩ : ∃ YL, ys.length = YL := ⟨_, rfl⟩
                      rw [hYL] at c9
                      have HYL := Lib.hid hYL
                      have HVE2 := Lib.hid hve
                      clear hYL hve
                      go_upto_region 18 with fail
                      refine wp_region_noPanic ?_
                      refine wp_region_Z (S := (fun W_ => W_.cell? ⟨db, 9, none⟩ = some (.slice ea YL ec) ∧ W_.cell? ⟨tb, 1, none⟩ = some (.int .i64 N) ∧ W_.cell? ⟨tb, 3, none⟩ = some (.slice q.a q.n q.cap))) 16 (by kernel_rfl) ?_ (fun hHeld => ?_)
                      · (first | go_keep | (go_split_ands; refine ⟨?_, ?_, ?_⟩ <;> assumption))
                      refine wpAnyZ_take (i := 0) (oi := ⟨some 128, _, _, _, _, _⟩) (v := ?_) rfl (by kernel_rfl) (by kernel_rfl) (by kernel_rfl) (by kernel_rfl) (fun _ _ _ h => h) (Or.inl ⟨by rfl, ?hy85⟩) hHeld ?rest85
                      case hy85 => (intro W hSw; (try dsimp only at hSw); go_simp; (try with_reducible rfl))
                      simp only [Act.put, List.setIfInBounds_toArray, List.set_cons_zero, List.set_cons_succ]
                      refine wpAnyZ_take (i := 1) (oi := ⟨some 129, _, _, _, _, _⟩) (v := ?_) rfl (by kernel_rfl) (by kernel_rfl) (by kernel_rfl) (by kernel_rfl) (fun _ _ _ h => h) (Or.inl ⟨by rfl, ?hy86⟩) hHeld ?rest86
                      case hy86 => (intro W hSw; (try dsimp only at hSw); go_simp; (try with_reducible rfl))
                      simp only [Act.put, List.setIfInBounds_toArray, List.set_cons_zero, List.set_cons_succ]
                      refine wpAnyZ_take (i := 2) (oi := ⟨some 130, _, _, _, _, _⟩) (v := ?_) rfl (by kernel_rfl) (by kernel_rfl) (by kernel_rfl) (by kernel_rfl) (fun _ _ _ h => h) (Or.inl ⟨by rfl, ?hy87⟩) hHeld ?rest87
                      case hy87 => (intro W hSw; (try dsimp only at hSw); go_simp; (try with_reducible rfl))
                      simp only [Act.put, List.setIfInBounds_toArray, List.set_cons_zero, List.set_cons_succ]
                      refine wpAnyZ_take (i := 3) (oi := ⟨some 131, _, _, _, _, _⟩) (v := ?_) rfl (by kernel_rfl) (by kernel_rfl) (by kernel_rfl) (by kernel_rfl) (fun _ _ _ h => h) (Or.inl ⟨by rfl, ?hy88⟩) hHeld ?rest88
                      case hy88 => (intro W hSw; (try dsimp only at hSw); go_simp; (try with_reducible rfl))
                      simp only [Act.put, List.setIfInBounds_toArray, List.set_cons_zero, List.set_cons_succ]
                      refine wpAnyZ_take (i := 4) (oi := ⟨some 132, _, _, _, _, _⟩) (v := ?_) rfl (by kernel_rfl) (by kernel_rfl) (by kernel_rfl) (by kernel_rfl) (fun _ _ _ h => h) (Or.inl ⟨by rfl, ?hy89⟩) hHeld ?rest89
                      case hy89 => (intro W hSw; (try dsimp only at hSw); go_simp; (try with_reducible rfl))
                      simp only [Act.put, List.setIfInBounds_toArray, List.set_cons_zero, List.set_cons_succ]
                      refine wpAnyZ_take (i := 5) (oi := ⟨some 133, _, _, _, _, _⟩) (v := ?_) rfl (by kernel_rfl) (by kernel_rfl) (by kernel_rfl) (by kernel_rfl) (fun _ _ _ h => h) (Or.inl ⟨by rfl, ?hy90⟩) hHeld ?rest90
                      case hy90 => (intro W hSw; (try dsimp only at hSw); go_simp; (try with_reducible rfl))
                      simp only [Act.put, List.setIfInBounds_toArray, List.set_cons_zero, List.set_cons_succ]
                      refine wpAnyZ_take (i := 6) (oi := ⟨some 134, _, _, _, _, _⟩) (v := ?_) rfl (by kernel_rfl) (by kernel_rfl) (by kernel_rfl) (by kernel_rfl) (fun _ _ _ h => h) (Or.inl ⟨by rfl, ?hy91⟩) hHeld ?rest91
                      case hy91 => (intro W hSw; (try dsimp only at hSw); go_simp; (try with_reducible rfl))
                      simp only [Act.put, List.setIfInBounds_toArray, List.set_cons_zero, List.set_cons_succ]
                      refine wpAnyZ_take (i := 8) (oi := ⟨some 136, _, _, _, _, _⟩) (v := ?_) rfl (by kernel_rfl) (by kernel_rfl) (by kernel_rfl) (by kernel_rfl) (fun _ _ _ h => h) (Or.inl ⟨by rfl, ?hy92⟩) hHeld ?rest92
                      case hy92 => (intro W hSw; (try dsimp only at hSw); go_simp; (try with_reducible rfl))
                      simp only [Act.put, List.setIfInBounds_toArray, List.set_cons_zero, List.set_cons_succ]
                      refine wpAnyZ_take (i := 9) (oi := ⟨some 137, _, _, _, _, _⟩) (v := ?_) rfl (by kernel_rfl) (by kernel_rfl) (by kernel_rfl) (by kernel_rfl) (fun _ _ _ h => h) (Or.inl ⟨by rfl, ?hy93⟩) hHeld ?rest93
                      case hy93 => (intro W hSw; (try dsimp only at hSw); go_simp; (try with_reducible rfl))
                      simp only [Act.put, List.setIfInBounds_toArray, List.set_cons_zero, List.set_cons_succ]
                      refine wpAnyZ_ready (rs := [7]) (by kernel_rfl) (by simp) ?_
                      refine (AllReadyZ.cons (o := ⟨some 135, _, _, _, _, _⟩) rfl (fun K hK => ?_) AllReadyZ.nil)
                      go_simp
                      refine hK.out _ _ ?_ (fun hNew => ?_)
                      · ((try dsimp only); (first | go_keep | (go_split_ands; refine ⟨?_, ?_, ?_⟩ <;> assumption)))
                      clear hK K hHeld
                      have hHeld := hNew
                      clear hNew
                      try simp only [Act.put, List.setIfInBounds_toArray, List.set_cons_zero, List.set_cons_succ]
                      refine wpAnyZ_ready (rs := [10]) (by kernel_rfl) (by simp) ?_
                      refine (AllReadyZ.cons (o := ⟨some 138, _, _, _, _, _⟩) rfl (fun K hK => ?_) AllReadyZ.nil)
                      refine step_append_lit2 rfl (.tmp 135) (.tmp 137) 37 rfl rfl .u8 5 1 (by omega) Try.underlying37 info_u8 wc q HQI.out.2 HQI.out.1 _ rfl rfl ?_ ?_ ?_ ?_
                      · first | exact box_new _ _ _ | exact Box.drew (box_new _ _ _)
                      · exact ((Below.refl _ wc).drew).alloc (Nat.le_refl _) _
                      · exact Nat.le_refl _
                      intro g w2 hLg hB2 hga
                      have hL2 := HL8.out.bel hB2
                      have hX2 := HX8.out.bel hB2
                      obtain ⟨gr, cap2, w3, hrun, hN⟩ := dkeep_row hL2 g hLg.1 (by have := HQI.out.1; have := hLg.2.2.1; omega) N (by rw [hLg.2.1]; exact HGK.out)
                      rw [HYL.out] at hrun hN
                      rw [HVE2.out, HYL.out] at hrun
                      have hX3 := hN.1.box _ _ _ hX2 (by decide) (by decide) (by decide)
                      have c92 : w2.cell? ⟨db, 9, none⟩ = some (.slice ea YL ec) := cell_keep c9 hB2
                      have x12 : w2.cell? ⟨tb, 1, none⟩ = some (.int .i64 N) := hX2.cell 1
                      have x32 : w2.cell? ⟨tb, 3, none⟩ = some (.slice q.a q.n q.cap) := hX2.cell 3
                      have c93 : w3.cell? ⟨db, 9, none⟩ = some (.slice ea YL ec) := by have := hN.2.1.cell 9; rw [HVE2.out, HYL.out] at this; exact this
                      have x13 : w3.cell? ⟨tb, 1, none⟩ = some (.int .i64 N) := hX3.cell 1
                      have x33 : w3.cell? ⟨tb, 3, none⟩ = some (.slice q.a q.n q.cap) := hX3.cell 3
                      have f93 : w3.frozen? ⟨db, 9, none⟩ = false := hN.2.1.frozen 9
                      have HN := Lib.hid hN
                      have HB := Lib.hid hB2
                      have HGV := Lib.hid hLg.2.1
                      clear hL2 hLg hga hB2 hN hX2 hX3
                      refine hK.out _ _ ?_ (fun hNew => ?_)
                      · ((try dsimp only); (first | go_keep | (go_split_ands; refine ⟨?_, ?_, ?_⟩ <;> assumption)))
                      clear hK K hHeld
                      have hHeld := hNew
                      clear hNew
                      try simp only [Act.put, List.setIfInBounds_toArray, List.set_cons_zero, List.set_cons_succ]
                      refine wpAnyZ_take (i := 11) (oi := ⟨some 139, _, _, _, _, _⟩) (v := ?_) rfl (by kernel_rfl) (by kernel_rfl) (by kernel_rfl) (by kernel_rfl) (fun _ _ _ h => h) (Or.inl ⟨by rfl, ?hy94⟩) hHeld ?rest94
                      case hy94 => (intro W hSw; (try dsimp only at hSw); go_simp; (try with_reducible rfl))
                      simp only [Act.put, List.setIfInBounds_toArray, List.set_cons_zero, List.set_cons_succ]
                      refine wpAnyZ_ready (rs := [12]) (by kernel_rfl) (by simp) ?_
                      refine (AllReadyZ.cons (o := ⟨some 140, _, _, _, _, _⟩) rfl (fun K hK => ?_) AllReadyZ.nil)
                      go_simp
                      refine hK.out _ _ ?_ (fun hNew => ?_)
                      · ((try dsimp only); (first | go_keep | (go_split_ands; refine ⟨?_, ?_, ?_⟩ <;> assumption)))
                      clear hK K hHeld
                      have hHeld := hNew
                      clear hNew
                      try simp only [Act.put, List.setIfInBounds_toArray, List.set_cons_zero, List.set_cons_succ]
                      refine wpAnyZ_ready (rs := [13]) (by kernel_rfl) (by simp) ?_
                      refine (AllReadyZ.cons (o := ⟨some 141, _, _, _, _, _⟩) rfl (fun K hK => ?_) AllReadyZ.nil)
                      ((with_reducible refine step_append_run ?_ (.tmp 132) (.tmp 140) 33 ?_ _ _ ?_ ?_ hrun ?_); rfl; rfl; rfl; rfl)
                      refine hK.out _ _ ?_ (fun hNew => ?_)
                      · ((try dsimp only); (first | go_keep | (go_split_ands; refine ⟨?_, ?_, ?_⟩ <;> assumption)))
                      clear hK K hHeld
                      have hHeld := hNew
                      clear hNew
                      try simp only [Act.put, List.setIfInBounds_toArray, List.set_cons_zero, List.set_cons_succ]
                      refine wpAnyZ_ready (rs := [14]) (by kernel_rfl) (by simp) ?_
                      refine (AllReadyZ.cons (o := ⟨some 142, _, _, _, _, _⟩) rfl (fun K hK => ?_) AllReadyZ.nil)
                      go_simp
                      refine hK.out _ _ ?_ (fun hNew => ?_)
                      · ((try dsimp only); (first | go_keep | (go_split_ands; refine ⟨?_, ?_, ?_⟩ <;> assumption)))
                      clear hK K hHeld
                      have hHeld := hNew
                      clear hNew
                      try simp only [Act.put, List.setIfInBounds_toArray, List.set_cons_zero, List.set_cons_succ]
                      refine wpAnyZ_take (i := 15) (oi := ⟨some 143, _, _, _, _, _⟩) (v := ?_) rfl (by kernel_rfl) (by kernel_rfl) (by kernel_rfl) (by kernel_rfl) (fun _ _ _ h => h) (Or.inl ⟨by rfl, ?hy95⟩) hHeld ?rest95
                      case hy95 => (intro W hSw; (try dsimp only at hSw); go_simp; (try with_reducible rfl))
                      simp only [Act.put, List.setIfInBounds_toArray, List.set_cons_zero, List.set_cons_succ]
                      refine wpAnyZ_ready (rs := [16]) (by kernel_rfl) (by simp) ?_
                      refine AllReadyZ.last (o := ⟨none, _, _, _, _, _⟩) rfl (fun K hK => ?_) AllReadyZ.nil
                      go_simp
                      refine hK.out _ _ ?_
                      clear hK K hHeld
                      try simp only [Act.put]
                      refine wpAnyZ_done (by kernel_rfl) ?_ _
                      refine NoPanic.normal ?_
                      have HFIN : Hid (DLk (w3.setCell ⟨db, 9, none⟩ (.slice (some ⟨gr, 0, none⟩) (YL + 1) cap2)) db base W Sp R (gotSt sb st.got E0) ∧ MovesD w (w3.setCell ⟨db, 9, none⟩ (.slice (some ⟨gr, 0, none⟩) (YL + 1) cap2)) db) := Lib.hid (by
                        obtain ⟨_, _, h1, h2⟩ := HN.out
                        rw [HGV.out, HBG.out.2, ← HEK.out, HBG.out.1] at h1
                        exact ⟨h1, (HM8.out.trans (MovesD.of_below HB.out (by have := HL8.out.lt; omega))).trans h2⟩)
                      clear hrun HN HB HGV
                      go_wp2_with fail
                      go_meet
                      case rel => exact HFIN
                case rest =>
                  have HC9 := hcut
                  clear hcut HL8 HX8 HM8
                  have HIT : Hid (DTakeI w db base W Sp R sb E0 (.slice none 0 0) wc) := Lib.hid (by
                    obtain ⟨h1, h2⟩ := HC9.out
                    rw [← HBG.out.1] at h1
                    obtain ⟨_, _, _, _, h3⟩ := h1
                    have hE := h3.good.early.len
                    have hW := h3.good.pm.1
                    exact ⟨E0.length, sb.got, E0, 0, [], listR_nil _ _ _ _, by simp only [gotSt] at hE; omega, Nat.le_refl _, ⟨_, _, _, _, h3⟩, h2, Nat.le_refl _, by simp⟩)
                  clear HC9
                  go_wp2_with fail
                  go_loopw [8] (fun v wr => Hid (DTakeI w db base W Sp R sb E0 v wr)) (fun v _ => 65 - lenV v)
                  case atStart => exact HIT
                  case round =>
                    have HJ := hrel
                    clear hrel HIT
                    obtain ⟨fu, g, E, n2, qs, hL, hn2, hgn, hA, hM, hfu, ht⟩ := HJ.out
                    obtain ⟨vo1, ve1, xs1, ys1, hA⟩ := hA
                    have hg9 : g ≤ 1000000064 := by have := HBD.out.2; have := HBG.out.1; omega
                    have hk5 : Value.int .i64 ((g + 1 : Nat) : Int) = .int .i64 ((g : Int) + 1) := val_int (by omega)
                    have FD := dfind16 hA (g + 1)
                    rw [hk5] at FD
                    have c7 : wr.cell? ⟨db, 7, none⟩ = some (.int .i64 g) := hA.box.cell 7
                    have f7 : wr.frozen? ⟨db, 7, none⟩ = false := hA.box.frozen 7
                    have hwg : IntKind.i64.wrap ((g : Int) + 1) = (g : Int) + 1 := IntWalk.i64_in _ (by omega)
                    have HJA := Lib.hid (And.intro hL (And.intro hA hM))
                    have HJN := Lib.hid (And.intro hn2 (And.intro hgn (And.intro hfu ht)))
                    have HK5 := Lib.hid hk5
                    clear hL hn2 hgn hA hM hfu ht HJ hk5
                    go_wp2_with fail
                    refine FD.mono ?_
                    rintro e w8 ⟨⟨z, rfl, hz⟩, hw8⟩
                    rw [hw8]
                    clear hw8 FD
                    rcases hz with ⟨rfl, hno⟩ | ⟨k2, hk2, rfl, hsome, hkn⟩
                    · skip
                      as_aux_lemma =>
                        have HFIN : Hid (DHearR w db base W Sp R st ⟨st.ep, N, a, q.v⟩ (.returned (.tuple #[u8, .int .i64 0])) wr) := Lib.hid (dtake_end rfl HBAD.out (by have := HSB.out.2; simp only; omega) HSB.out.1 HE0.out hno HJA.out.1 ⟨_, _, _, _, HJA.out.2.1⟩ HJA.out.2.2 HJN.out.1 HJN.out.2.2.2)
                        obtain ⟨a3, c3, hu8, -⟩ := HJA.out.1.shape
                        subst hu8
                        have hneg : decide ((0 : Int) ≤ -1) = false := rfl
                        clear HJA HJN hno c7 f7 hwg
                        go_wp2_with fail
                        exact bodyPost_ret (v := .tuple #[.slice a3 n2 c3, .int .i64 0]) (by simp [results, Try.results17, go_sem]) rfl (HFIN.out)
                    · have HFS : Hid (FindQ E (g + 1) (k2 : Int) ∧ findQ E (g + 1) = some E[k2] ∧ GoodQ W g E) := Lib.hid ⟨.inr ⟨k2, hk2, rfl, hsome, hkn⟩, hsome, HJA.out.2.1.good.early⟩
                      have hz2 : decide ((0 : Int) ≤ (k2 : Int)) = true := decide_eq_true (by omega)
                      obtain ⟨P5, M5⟩ := HJA.out.2.1.part.set (cs' := dCells W Sp R (gotSt sb (g + 1) E) vo1 ve1) (j := 7) (u := .int .i64 ((g + 1 : Nat) : Int)) (noU_i64 _) rfl
                      rw [HK5.out] at P5 M5
                      obtain ⟨w5, hw5⟩ : ∃ w5, wr.setCell ⟨db, 7, none⟩ (.int .i64 ((g : Int) + 1)) = w5 := ⟨_, rfl⟩
                      rw [hw5] at P5 M5
                      have hEl := HJA.out.2.1.lens.2
                      have hE64 : E.length ≤ 64 := by have := HJN.out.1; omega
                      have hky : k2 < ys1.length := by have : (gotSt sb g E).early = E := rfl; rw [hEl, this]; exact hk2
                      have hb5 : Below w5.heap.size w5 w5.drew := (Below.refl _ _).drew
                      have P5d := P5.bel hb5
                      have FD2 := dfindP P5d (by rfl) (by have : (gotSt sb g E).early = E := rfl; rw [hEl, this]; omega) (g + 1)
                      rw [HK5.out, show dEarly ys1 = E from HJA.out.2.1.ee] at FD2
                      obtain ⟨ge, ce, hve, hce1, hce2, _, _, hcc⟩ := P5.ear.cells (by omega)
                      obtain ⟨y, hy⟩ : ∃ y, ys1[k2] = y := ⟨_, rfl⟩
                      obtain ⟨YL, hYL⟩ : ∃ YL, ys1.length = YL := ⟨_, rfl⟩
                      have y1 : w5.cell? ⟨ge, k2 * 2 + 1, none⟩ = some (.slice y.q.a y.q.n y.q.cap) := by
                        have := hcc (k2 * 2 + 1) (by omega)
                        rw [this, flat_at dyCells 2 dyCells_len ys1 k2 1 hky (by omega), hy]; rfl
                      have d9 : w5.cell? ⟨db, 9, none⟩ = some (.slice (some ⟨ge, 0, none⟩) YL ce) := by rw [← hYL, ← hve]; exact P5.box.cell 9
                      have d7 : w5.cell? ⟨db, 7, none⟩ = some (.int .i64 ((g : Int) + 1)) := by rw [← HK5.out]; exact P5.box.cell 7
                      have hyq := P5d.ry y (by rw [← hy]; exact List.getElem_mem _)
                      have hL5 : ListR .u8 37 w5.drew w.heap.size u8 n2 qs := (listR_kept HJA.out.1 (fun g e => by
                        obtain ⟨cs, hb, _⟩ := HJA.out.1.all g e
                        exact (M5.box g _ cs hb (by decide) (by decide) (by decide)).trans hb.symm) M5.rows).bel hb5
                      have hM5 : MovesD w w5.drew db := (HJA.out.2.2.trans M5).trans (MovesD.of_below hb5 (by have := P5.lt; omega))
                      obtain ⟨gr, cap, w9, hrun, hL9, -, hr9, hg9'⟩ := hL5.next (P := Try.prog) Try.underlying36 info_rows16 y.q hyq.1 (by have := HJN.out.1; omega) hM5.size
                      have P9 := P5d.kept hg9' (fun b e => P5d.apart (hL5.all b e) (by decide) (by decide) (by decide)) hr9
                      have hM9 : MovesD w w9 db := hM5.new hg9' (by have := H0.out.lt; omega) (fun b e => (hL5.own.lt b e).1) hr9
                      have HYQ : Hid (y.q.v = E[k2].2) := Lib.hid (by
                        have hd : dEarly ys1 = E := HJA.out.2.1.ee
                        have : E[k2] = (ys1[k2].n, ys1[k2].q.v) := by simp only [← hd, dEarly, List.getElem_map]
                        rw [this, hy])
                      have H9 := Lib.hid (And.intro P9 (And.intro hM9 hL9))
                      have j9 : w9.cell? ⟨db, 9, none⟩ = some (.slice (some ⟨ge, 0, none⟩) YL ce) := by rw [← hYL, ← hve]; exact P9.box.cell 9
                      have j7 : w9.cell? ⟨db, 7, none⟩ = some (.int .i64 ((g : Int) + 1)) := by rw [← HK5.out]; exact P9.box.cell 7
                      have jy : w9.cell? ⟨ge, k2 * 2 + 1, none⟩ = some (.slice y.q.a y.q.n y.q.cap) := by
                        obtain ⟨ge', ce', hve', _, _, _, _, hcc'⟩ := P9.ear.cells (by omega)
                        rw [hve] at hve'
                        simp only [Value.slice.injEq, Option.some.injEq, Addr.mk.injEq, true_and, and_true] at hve'
                        have := hcc' (k2 * 2 + 1) (by omega)
                        rw [← hve'.1] at this
                        rw [this, flat_at dyCells 2 dyCells_len ys1 k2 1 hky (by omega), hy]; rfl
                      have hkL : k2 < YL := by omega
                      have hYc : YL ≤ ce := by omega
                      have hn64 : n2 ≤ 64 := by have := HJN.out.1; omega
                      have HVE1 : Hid (ve1 = .slice (some ⟨ge, 0, none⟩) YL ce ∧ ys1.length = YL ∧ dEarly ys1 = E ∧ dOut xs1 = (gotSt sb g E).out ∧ YL ≤ 64) := Lib.hid ⟨by rw [← hYL]; exact hve, hYL, HJA.out.2.1.ee, HJA.out.2.1.eo, by have : (gotSt sb g E).early = E := rfl; rw [← hYL, hEl, this]; omega⟩
                      have HZ2 : Hid (∀ z, FindQ E (g + 1) z → z = (k2 : Int)) := Lib.hid (fun z hz => FindQ.eq HFS.out.2.2 hz HFS.out.1)
                      obtain ⟨a3, c3, hu8, -⟩ := hL5.shape
                      subst hu8
                      clear P5 M5 P5d hEl hE64 hky hb5 hve hcc hy hYL hyq hL5 hM5 hL9 hr9 hg9' P9 hM9 hsome hkn
                      go_upto_region 22 with fail
                      try rw [hw5]
                      clear hw5 c7 f7
                      refine wp_region_held_drew (S := (fun W_ => W_.cell? ⟨db, 9, none⟩ = some (.slice (some ⟨ge, 0, none⟩) YL ce) ∧ W_.cell? ⟨db, 7, none⟩ = some (.int .i64 ((g : Int) + 1)) ∧ W_.cell? ⟨ge, k2 * 2 + 1, none⟩ = some (.slice y.q.a y.q.n y.q.cap))) (by kernel_rfl) ?_ (fun hHeld => ?_)
                      · (first | go_keep | (go_split_ands; refine ⟨?_, ?_, ?_⟩ <;> assumption))
                      refine wpAnyH_take (i := 0) (oi := ⟨some 160, _, _, _, _, _⟩) (v := ?_) rfl (by kernel_rfl) (by kernel_rfl) (by kernel_rfl) (fun _ _ _ h => h) (Or.inl ⟨by rfl, ?hy96⟩) hHeld ?rest96
                      case hy96 => (intro W hSw; (try dsimp only at hSw); go_simp; (try with_reducible rfl))
                      simp only [Act.put, List.setIfInBounds_toArray, List.set_cons_zero, List.set_cons_succ]
                      refine wpAnyH_take (i := 1) (oi := ⟨some 161, _, _, _, _, _⟩) (v := ?_) rfl (by kernel_rfl) (by kernel_rfl) (by kernel_rfl) (fun _ _ _ h => h) (Or.inl ⟨by rfl, ?hy97⟩) hHeld ?rest97
                      case hy97 => (intro W hSw; (try dsimp only at hSw); go_simp; (try with_reducible rfl))
                      simp only [Act.put, List.setIfInBounds_toArray, List.set_cons_zero, List.set_cons_succ]
                      refine wpAnyH_take (i := 2) (oi := ⟨some 162, _, _, _, _, _⟩) (v := ?_) rfl (by kernel_rfl) (by kernel_rfl) (by kernel_rfl) (fun _ _ _ h => h) (Or.inl ⟨by rfl, ?hy98⟩) hHeld ?rest98
                      case hy98 => (intro W hSw; (try dsimp only at hSw); go_simp; (try with_reducible rfl))
                      simp only [Act.put, List.setIfInBounds_toArray, List.set_cons_zero, List.set_cons_succ]
                      refine wpAnyH_take (i := 3) (oi := ⟨some 163, _, _, _, _, _⟩) (v := ?_) rfl (by kernel_rfl) (by kernel_rfl) (by kernel_rfl) (fun _ _ _ h => h) (Or.inl ⟨by rfl, ?hy99⟩) hHeld ?rest99
                      case hy99 => (intro W hSw; (try dsimp only at hSw); go_simp; (try with_reducible rfl))
                      simp only [Act.put, List.setIfInBounds_toArray, List.set_cons_zero, List.set_cons_succ]
                      refine wpAnyH_take (i := 4) (oi := ⟨some 164, _, _, _, _, _⟩) (v := ?_) rfl (by kernel_rfl) (by kernel_rfl) (by kernel_rfl) (fun _ _ _ h => h) (Or.inl ⟨by rfl, ?hy100⟩) hHeld ?rest100
                      case hy100 => (intro W hSw; (try dsimp only at hSw); go_simp; (try with_reducible rfl))
                      simp only [Act.put, List.setIfInBounds_toArray, List.set_cons_zero, List.set_cons_succ]
                      refine wpAnyH_take (i := 5) (oi := ⟨some 165, _, _, _, _, _⟩) (v := ?_) rfl (by kernel_rfl) (by kernel_rfl) (by kernel_rfl) (fun _ _ _ h => h) (Or.inl ⟨by rfl, ?hy101⟩) hHeld ?rest101
                      case hy101 => (intro W hSw; (try dsimp only at hSw); go_simp; (try with_reducible rfl))
                      simp only [Act.put, List.setIfInBounds_toArray, List.set_cons_zero, List.set_cons_succ]
                      refine wpAnyH_take (i := 6) (oi := ⟨some 166, _, _, _, _, _⟩) (v := ?_) rfl (by kernel_rfl) (by kernel_rfl) (by kernel_rfl) (fun _ _ _ h => h) (Or.inl ⟨by rfl, ?hy102⟩) hHeld ?rest102
                      case hy102 => (intro W hSw; (try dsimp only at hSw); go_simp; (try with_reducible rfl))
                      simp only [Act.put, List.setIfInBounds_toArray, List.set_cons_zero, List.set_cons_succ]
                      refine wpAnyH_take (i := 7) (oi := ⟨some 167, _, _, _, _, _⟩) (v := ?_) rfl (by kernel_rfl) (by kernel_rfl) (by kernel_rfl) (fun _ _ _ h => h) (Or.inl ⟨by rfl, ?hy103⟩) hHeld ?rest103
                      case hy103 => (intro W hSw; (try dsimp only at hSw); go_simp; (try with_reducible rfl))
                      simp only [Act.put, List.setIfInBounds_toArray, List.set_cons_zero, List.set_cons_succ]
                      refine wpAnyH_take (i := 8) (oi := ⟨some 168, _, _, _, _, _⟩) (v := ?_) rfl (by kernel_rfl) (by kernel_rfl) (by kernel_rfl) (fun _ _ _ h => h) (Or.inl ⟨by rfl, ?hy104⟩) hHeld ?rest104
                      case hy104 => (intro W hSw; (try dsimp only at hSw); go_simp; (try with_reducible rfl))
                      simp only [Act.put, List.setIfInBounds_toArray, List.set_cons_zero, List.set_cons_succ]
                      refine wpAnyH_take (i := 9) (oi := ⟨some 169, _, _, _, _, _⟩) (v := ?_) rfl (by kernel_rfl) (by kernel_rfl) (by kernel_rfl) (fun _ _ _ h => h) (Or.inl ⟨by rfl, ?hy105⟩) hHeld ?rest105
                      case hy105 => (intro W hSw; (try dsimp only at hSw); go_simp; (try with_reducible rfl))
                      simp only [Act.put, List.setIfInBounds_toArray, List.set_cons_zero, List.set_cons_succ]
                      refine wpAnyH_ready (rs := [10]) (by kernel_rfl) (by simp) ?_
                      refine AllReadyH.cons (o := ⟨some 170, _, _, _, _, _⟩) rfl (fun K hK => ?_) AllReadyH.nil
                      go_simp
                      go_at_call 39
                      refine FD2.mono ?_
                      rintro e w8 ⟨⟨z, rfl, hz⟩, rfl⟩
                      obtain rfl := HZ2.out z hz
                      clear hz FD2
                      refine hK.out _ _ ?_ (fun hNew => ?_)
                      · ((try dsimp only); (first | go_keep | (go_split_ands; refine ⟨?_, ?_, ?_⟩ <;> assumption)))
                      clear hK K hHeld
                      have hHeld := hNew
                      clear hNew
                      try simp only [Act.put, List.setIfInBounds_toArray, List.set_cons_zero, List.set_cons_succ]
                      refine wpAnyH_take (i := 11) (oi := ⟨some 171, _, _, _, _, _⟩) (v := ?_) rfl (by kernel_rfl) (by kernel_rfl) (by kernel_rfl) (fun _ _ _ h => h) (Or.inl ⟨by rfl, ?hy107⟩) hHeld ?rest107
                      case hy107 => (intro W hSw; (try dsimp only at hSw); go_simp; (try with_reducible rfl))
                      simp only [Act.put, List.setIfInBounds_toArray, List.set_cons_zero, List.set_cons_succ]
                      refine wpAnyH_take (i := 12) (oi := ⟨some 172, _, _, _, _, _⟩) (v := ?_) rfl (by kernel_rfl) (by kernel_rfl) (by kernel_rfl) (fun _ _ _ h => h) (Or.inl ⟨by rfl, ?hy108⟩) hHeld ?rest108
                      case hy108 => (intro W hSw; (try dsimp only at hSw); go_simp; (try with_reducible rfl))
                      simp only [Act.put, List.setIfInBounds_toArray, List.set_cons_zero, List.set_cons_succ]
                      refine wpAnyH_take (i := 13) (oi := ⟨some 173, _, _, _, _, _⟩) (v := ?_) rfl (by kernel_rfl) (by kernel_rfl) (by kernel_rfl) (fun _ _ _ h => h) (Or.inl ⟨by rfl, ?hy109⟩) hHeld ?rest109
                      case hy109 => (intro W hSw; (try dsimp only at hSw); go_simp; (try with_reducible rfl))
                      simp only [Act.put, List.setIfInBounds_toArray, List.set_cons_zero, List.set_cons_succ]
                      refine wpAnyH_ready (rs := [14]) (by kernel_rfl) (by simp) ?_
                      refine AllReadyH.cons (o := ⟨some 174, _, _, _, _, _⟩) rfl (fun K hK => ?_) AllReadyH.nil
                      go_simp
                      refine hK.out _ _ ?_ (fun hNew => ?_)
                      · ((try dsimp only); (first | go_keep | (go_split_ands; refine ⟨?_, ?_, ?_⟩ <;> assumption)))
                      clear hK K hHeld
                      have hHeld := hNew
                      clear hNew
                      try simp only [Act.put, List.setIfInBounds_toArray, List.set_cons_zero, List.set_cons_succ]
                      refine wpAnyH_ready (rs := [15]) (by kernel_rfl) (by simp) ?_
                      refine AllReadyH.cons (o := ⟨some 175, _, _, _, _, _⟩) rfl (fun K hK => ?_) AllReadyH.nil
                      ((with_reducible refine step_append_run ?_ (.tmp 160) (.tmp 174) 36 ?_ _ _ ?_ ?_ hrun ?_); rfl; rfl; rfl; rfl)
                      refine hK.out _ _ ?_ (fun hNew => ?_)
                      · ((try dsimp only); (first | go_keep | (go_split_ands; refine ⟨?_, ?_, ?_⟩ <;> assumption)))
                      clear hK K hHeld
                      have hHeld := hNew
                      clear hNew
                      try simp only [Act.put, List.setIfInBounds_toArray, List.set_cons_zero, List.set_cons_succ]
                      refine wpAnyH_ready (rs := [16]) (by kernel_rfl) (by simp) ?_
                      refine AllReadyH.cons (o := ⟨some 8, _, _, _, _, _⟩) rfl (fun K hK => ?_) AllReadyH.nil
                      go_simp
                      refine hK.out _ _ ?_ (fun hNew => ?_)
                      · ((try dsimp only); (first | go_keep | (go_split_ands; refine ⟨?_, ?_, ?_⟩ <;> assumption)))
                      clear hK K hHeld
                      have hHeld := hNew
                      clear hNew
                      try simp only [Act.put, List.setIfInBounds_toArray, List.set_cons_zero, List.set_cons_succ]
                      refine wpAnyH_done (by kernel_rfl) ?_ _
                      clear d9 d7 y1 j9 j7 jy hrun hkL hz2
                      obtain ⟨cs5, hcs5⟩ : ∃ cs5, dCells W Sp R (gotSt sb (g + 1) E) vo1 ve1 = cs5 := ⟨_, rfl⟩
                      have HC5 : Hid (dCells W Sp R (gotSt sb (g + 1) E) vo1 ve1 = cs5 ∧ cs5[9]? = some ve1 ∧ cs5[7]? = some (.int .i64 ((g : Int) + 1))) := Lib.hid ⟨hcs5, by rw [← hcs5]; rfl, by rw [← hcs5, ← HK5.out]; rfl⟩
                      have HB9 : Hid (∃ B, B = w9.heap.size) := Lib.hid ⟨_, rfl⟩
                      obtain ⟨B, hB⟩ : ∃ B, w9.heap.size = B := ⟨_, rfl⟩
                      have HAW3 : Hid (∀ b, B ≤ b → db ≠ b ∧ vo1.ownBlock ≠ some b ∧ ve1.ownBlock ≠ some b) := Lib.hid (fun b hb => H9.out.1.away (by omega))
                      have HF0 : Hid (DFiltI w B db base vo1 ve1 cs5 (gotSt sb g E).acked xs1 ys1 (g + 1) (.slice (some ⟨gr, 0, none⟩) (n2 + 1) cap) (n2 + 1) (qs ++ [y.q]) 0 (.slice none 0 0) w9) := Lib.hid ⟨by rw [← hcs5]; exact H9.out.1, H9.out.2.1, H9.out.2.2, listAt_nil _ _ _ _ _, by omega⟩
                      have HWB : Hid (w.heap.size ≤ B ∧ base ≤ B) := Lib.hid ⟨by rw [← hB]; exact H9.out.2.1.size, by rw [← hB]; exact H9.out.1.lt.2⟩
                      clear hcs5 hB HB9 H9
                      have hYL64 : YL ≤ 64 := HVE1.out.2.2.2.2
                      go_wp2_with fail
                      go_loopw [10, 9] (fun i v wr => ∃ j : Nat, j ≤ YL ∧ i = .int .i64 j ∧ Hid (DFiltI w B db base vo1 ve1 cs5 (gotSt sb g E).acked xs1 ys1 (g + 1) (.slice (some ⟨gr, 0, none⟩) (n2 + 1) cap) (n2 + 1) (qs ++ [y.q]) j v wr)) (fun i _ _ => YL - (intOf i).toNat)
                      case atStart => exact ⟨0, by omega, rfl, HF0⟩
                      case round =>
                        obtain ⟨j, hj, rfl, HJ3⟩ := hrel
                        clear HF0
                        have c9 : wr.cell? ⟨db, 9, none⟩ = some (.slice (some ⟨ge, 0, none⟩) YL ce) := by
                          have h9 := (HJ3.out.1.box.cell 9).trans HC5.out.2.1
                          rw [HVE1.out.1] at h9
                          exact h9
                        have c7 : wr.cell? ⟨db, 7, none⟩ = some (.int .i64 ((g : Int) + 1)) := (HJ3.out.1.box.cell 7).trans HC5.out.2.2
                        by_cases hlt : j < YL
                        · skip
                          as_aux_lemma =>
                            have hlt2 : (j : Int) < (YL : Int) := by omega
                            have hjy : j < ys1.length := by rw [HVE1.out.2.1]; exact hlt
                            obtain ⟨ge', ce', hve', _, _, _, _, hcc⟩ := HJ3.out.1.ear.cells (by omega)
                            rw [HVE1.out.1] at hve'
                            simp only [Value.slice.injEq, Option.some.injEq, Addr.mk.injEq] at hve'
                            obtain ⟨⟨hge, -⟩, -, -⟩ := hve'
                            rw [← hge] at hcc
                            clear hge
                            obtain ⟨y2, hy2⟩ : ∃ y2, ys1[j] = y2 := ⟨_, rfl⟩
                            have hz : ∀ k, k < 2 → wr.cell? ⟨ge, j * 2 + k, none⟩ = (#[.int .i64 (y2.n : Nat), .slice y2.q.a y2.q.n y2.q.cap] : Array Value)[k]? := fun k hk => by
                              rw [hcc (j * 2 + k) (by omega), flat_at dyCells 2 dyCells_len ys1 j k hjy hk, hy2]
                              match k, hk with
                              | 0, _ => rfl
                              | 1, _ => rfl
                            have z0 : wr.cell? ⟨ge, j * 2, none⟩ = some (.int .i64 (y2.n : Nat)) := hz 0 (by omega)
                            have HZ := Lib.hid hz
                            have HY2 : Hid (∃ hl : j < ys1.length, ys1[j] = y2) := Lib.hid ⟨hjy, hy2⟩
                            obtain ⟨m, hm⟩ : ∃ m, y2.n = m := ⟨_, rfl⟩
                            rw [hm] at z0
                            have HMM := Lib.hid hm
                            clear hz hcc hy2 hjy hm
                            by_cases hmg : m = g + 1
                            · have q1 : ((m : Int) != (g : Int) + 1) = false := by simp; omega
                              have q2 : ((m : Int) == (g : Int) + 1) = true := by simp; omega
                              have HFIN : Hid (∀ d, DFiltI w B db base vo1 ve1 cs5 (gotSt sb g E).acked xs1 ys1 (g + 1) (.slice (some ⟨gr, 0, none⟩) (n2 + 1) cap) (n2 + 1) (qs ++ [y.q]) (j + 1) u9 (wr.drewN d)) := Lib.hid (fun d => by
                                have h := HJ3.out.bel (below_drewN (Below.refl _ _) d)
                                obtain ⟨hl, hy2⟩ := HY2.out
                                unfold DFiltI at h ⊢
                                rw [filt_step hl, if_pos (by rw [hy2, HMM.out]; exact hmg), List.append_nil]
                                exact h)
                              clear hmg
                              go_upto_region 27 with fail
                              go_quiet (fail)
                              go_wp2_with fail
                              go_roundw
                              case rel => exact ⟨j + 1, by omega, by go_num, Lib.hid (HFIN.out _)⟩
                              case measure => simp [intOf]; omega
                            · have q1 : ((m : Int) != (g : Int) + 1) = true := by simp; omega
                              have q2 : ((m : Int) == (g : Int) + 1) = false := by simp; omega
                              have HMG := Lib.hid hmg
                              clear hmg
                              go_upto_region 27 with fail
                              go_quiet (fail)
                              go_upto_region 28 with fail
                              obtain ⟨wz, hwz⟩ : ∃ wz, wr.drewN nq = wz := ⟨_, rfl⟩
                              rw [hwz]
                              have hbz : Below wr.heap.size wr wz := by rw [← hwz]; exact below_drewN (Below.refl _ _) _
                              have HJz := HJ3.out.bel hbz
                              obtain ⟨hl, hy2⟩ := HY2.out
                              have hfl : ((ys1.take j).filter (fun y => y.n != g + 1)).length ≤ 64 := Nat.le_trans (List.length_filter_le _ _) (by rw [List.length_take]; omega)
                              obtain ⟨gr2, cap2, w5, hrun, hL5, hg5, hv5, hr5⟩ := early_next HJz.2.2.2.1 (by omega) HJz.2.2.2.2 (m : Int) y2.q
                              have HFIN := Lib.hid (HJz.next HWB.out.1 HAW3.out (by have := H0.out.lt; omega) hl (by rw [hy2, HMM.out]; exact HMG.out) (by
                                have e1 : ys1[j].n = m := by rw [hy2]; exact HMM.out
                                have e2 : ys1[j].q = y2.q := by rw [hy2]
                                rw [e1, e2]
                                exact hL5) hg5 hv5 hr5)
                              have n9 : w5.cell? ⟨db, 9, none⟩ = some (.slice (some ⟨ge, 0, none⟩) YL ce) := by
                                have h9 := (HFIN.out.1.box.cell 9).trans HC5.out.2.1
                                rw [HVE1.out.1] at h9
                                exact h9
                              have d9 : wz.cell? ⟨db, 9, none⟩ = some (.slice (some ⟨ge, 0, none⟩) YL ce) := by rw [← hwz]; exact c9
                              have HZd : Hid (∀ k, k < 2 → wz.cell? ⟨ge, j * 2 + k, none⟩ = (#[.int .i64 (m : Int), .slice y2.q.a y2.q.n y2.q.cap] : Array Value)[k]?) := Lib.hid (by rw [← hwz, ← HMM.out]; exact HZ.out)
                              generalize ((ys1.take j).filter (fun y => y.n != g + 1)).length = FL at hrun HFIN hfl
                              clear hL5 hg5 hv5 hr5 HJz hbz hy2 hl hwz c9 c7 z0 q1 q2
                              go_wp2_with (first
                                | (refine wpList_load_part rfl 93 _ rfl ge (j * 2) rfl #[.int .i64 (m : Int), .slice y2.q.a y2.q.n y2.q.cap] _ HZd.out Try.underlying93 rfl (by kernel_rfl) ?_)
                                | (at_builtin; refine wpList_append_run (by rfl) _ _ _ (by rfl) _ _ (by rfl) (by rfl) hrun ?_))
                              go_roundw
                              case rel => exact ⟨j + 1, by omega, by go_num, HFIN⟩
                              case measure => simp [intOf]; omega
                        · obtain rfl : j = YL := by omega
                          obtain ⟨hP, hM, hL, hF, -⟩ := HJ3.out
                          have htk : ys1.take j = ys1 := by rw [← HVE1.out.2.1, List.take_length]
                          rw [htk] at hF
                          obtain ⟨ea, ec, hu9⟩ := hF.shape
                          have hnu : NoU u9 := by rw [hu9]; exact noU_slice _ _ _
                          have hP2 := hP.ears HWB.out.2 hF (fun y hy => hP.ry y (List.mem_filter.1 hy).1)
                          obtain ⟨hP3, hM3⟩ := hP2.set (cs' := dCells W Sp R (gotSt sb (g + 1) (dropQ E (g + 1))) vo1 u9) (j := 9) hnu (by rw [← HC5.out.1]; rfl)
                          obtain ⟨w10, hw10⟩ : ∃ w10, wr.setCell ⟨db, 9, none⟩ u9 = w10 := ⟨_, rfl⟩
                          rw [hw10] at hP3 hM3
                          have hL10 : ListR .u8 37 w10 w.heap.size (.slice (some ⟨gr, 0, none⟩) (n2 + 1) cap) (n2 + 1) (qs ++ [y.q]) := listR_kept hL (fun g e => by
                            obtain ⟨cs, hb, _⟩ := hL.all g e
                            exact (hM3.box g _ cs hb (by decide) (by decide) (by decide)).trans hb.symm) hM3.rows
                          have hA10 : DLk w10 db base W Sp R (gotSt sb (g + 1) (dropQ E (g + 1))) := by
                            have hgd := HJA.out.2.1.good
                            exact ⟨_, _, _, _, hP3.done HVE1.out.2.2.2.1 (by rw [filt_drop, HVE1.out.2.2.1]; rfl) ⟨hgd.pm, hgd.room, hgd.sent, hgd.ages, HFS.out.2.2.next, hgd.ep⟩⟩
                          have HFIN : Hid (DTakeI w db base W Sp R sb E0 (.slice (some ⟨gr, 0, none⟩) (n2 + 1) cap) w10) := Lib.hid (dtake_next HJN.out.1 HJN.out.2.1 HJN.out.2.2.1 HJN.out.2.2.2 HFS.out.2.1 HYQ.out hL10 hA10 (hM.trans hM3))
                          generalize (List.filter (fun y => y.n != g + 1) ys1).length = l9 at hu9
                          have f9 : wr.frozen? ⟨db, 9, none⟩ = false := hP.box.frozen 9
                          clear hP hM hL hF hnu hP2 hP3 hM3 hL10 hA10 htk HJ3
                          subst hu9
                          go_wp2_with fail
                          try rw [hw10]
                          go_roundw
                          case rel => exact HFIN
                          case measure => simp only [lenV]; omega

end Go.Proofs.Ytkinbngikmcpeaa
