import Derived.Test.YtoeihigdndkjeaaGreatDoorJ15
/-
  A token's way through all layers; the first error of tokens; Feed.
-/
namespace Go.Proofs.YtoeihigdndkjeaaGreatDoor
open Go.RowKit Go.Shelf
set_option linter.unusedVariables false

/-- a run as it stands: in block r, of the model m, its map in block mb -/
structure RunAt (w : World) (r m mb : Nat) (s : Sz) (p n N : Nat) (K : KF8) : Prop where
  box : Box w r 91 #[.pointer (some ⟨m, 0, none⟩), .int .i64 p, .map (some mb)]
  map : ∃ D, OwnK w mb N D ∧ KeptD w s.l s.w p n K D
theorem RunAt.bel {w w' : World} {r m mb p n N : Nat} {s : Sz} {K : KF8} (h : RunAt w r m mb s p n N K) (hb : Below w.heap.size w w') : RunAt w' r m mb s p n N K :=
  ⟨h.box.bel hb, let ⟨D, h1, h2⟩ := h.map; ⟨D, h1.bel hb, h2.bel hb⟩⟩

/-- a cell of whatever kind but a number of 64 bits, where such a number is stored -/
theorem cell_r {w : World} {r o : Nat} {z : Int} (h : w.cell? ⟨r, o, none⟩ = some (.int .i64 z)) (u : Value) {q : Addr} {v : Value} (hq : w.cell? q = some v) (hs : q.spot = none) (hv : ∀ y, v ≠ .int .i64 y) : (w.setCell ⟨r, o, none⟩ u).cell? q = some v := by
  by_cases e : q.block = r
  · have ho : q.off ≠ o := by
      intro e2
      obtain ⟨qb, qo, qs⟩ := q
      simp only at e e2 hs
      subst e e2 hs
      rw [h] at hq
      cases hq
      exact hv z rfl
    obtain ⟨qb, qo, qs⟩ := q
    simp only at e hs ho
    subst e hs
    rw [World.cell?_setCell_other w ⟨qb, o, none⟩ ⟨qb, qo, none⟩ u (by simp)]
    exact hq
  · exact cell_set hq u e
theorem elems_r {kd : IntKind} (hk : kd ≠ .i64) {w : World} {r o : Nat} {z : Int} (h : w.cell? ⟨r, o, none⟩ = some (.int .i64 z)) (u : Value) {a : Option Addr} {n : Nat} {xs : List Int} (hE : Elems kd w a n xs) : Elems kd (w.setCell ⟨r, o, none⟩ u) a n xs :=
  ⟨hE.1, hE.2.1, hE.2.2.1, fun hn => let ⟨b, off, ha, hc⟩ := hE.2.2.2 hn; ⟨b, off, ha, fun i hi => cell_r h u (hc i hi) rfl (fun y e => by cases e; exact hk rfl)⟩⟩
theorem rw_r {kd : IntKind} (hk : kd ≠ .i64) {w : World} {r o : Nat} {z : Int} (h : w.cell? ⟨r, o, none⟩ = some (.int .i64 z)) (u : Value) {q : Rw} (hE : q.In kd w) : q.In kd (w.setCell ⟨r, o, none⟩ u) := ⟨elems_r hk h u hE.1, hE.2⟩
theorem gr_r {w : World} {r o : Nat} {z : Int} (h : w.cell? ⟨r, o, none⟩ = some (.int .i64 z)) (u : Value) {g : Gr} (hE : g.In8 w) : g.In8 (w.setCell ⟨r, o, none⟩ u) := ⟨elems_r (by decide) h u hE.1, hE.2⟩
theorem wt_r {w : World} {r : Nat} {a c : Value} {z : Int} {T : TypeId} (hb : Box w r T #[a, .int .i64 z, c]) (u : Value) {W : Wt7} (h : W.In w) : W.In (w.setCell ⟨r, 1, none⟩ u) := by
  have hc : w.cell? ⟨r, 1, none⟩ = some (.int .i64 z) := hb.cell 1
  obtain ⟨h1, h2, h3, ⟨k1, k2, k3, k4⟩, h5⟩ := h
  refine ⟨gr_r hc u h1, gr_r hc u h2, rw_r (by decide) hc u h3, ⟨k1, k2, fun x hx => ?_, fun hn => ?_⟩, h5⟩
  · obtain ⟨x1, x2, x3, x4, x5, x6, x7, x8⟩ := k3 x hx
    exact ⟨rw_r (by decide) hc u x1, rw_r (by decide) hc u x2, gr_r hc u x3, gr_r hc u x4, gr_r hc u x5, gr_r hc u x6, gr_r hc u x7, gr_r hc u x8⟩
  · obtain ⟨g, off, ha, hlt, hx⟩ := k4 hn
    have hne : g ≠ r := by
      rintro rfl
      have h9 := hx 0 hn 19 (by decide)
      rw [hb.cell, Array.getElem?_eq_none (by show 3 ≤ off + 0 * 20 + 19; omega)] at h9
      have h8 : (19 : Nat) < (W.bs.getD 0 default).cells.size := (by decide : 19 < 20)
      rw [Array.getElem?_eq_getElem h8] at h9
      cases h9
    refine ⟨g, off, ha, by simpa using hlt, fun i hi k hk => ?_⟩
    rw [World.cell?_of_block (w := w) (a := ⟨g, off + i * 20 + k, none⟩) (Below.heap_setCell w ⟨r, 1, none⟩ u g hne)]
    exact hx i hi k hk
theorem box_ne8 {w : World} {g g' : Nat} {T T' : TypeId} {cs cs' : Array Value} (h : Box w g T cs) (h' : Box w g' T' cs') (hne : T ≠ T') : g ≠ g' := by
  rintro rfl
  have := h.symm.trans h'
  simp at this
  exact hne this.2
theorem mod_r {w : World} {r m : Nat} {s : Sz} {W : Wt7} {a c : Value} {z : Int} (hb : Box w r 91 #[a, .int .i64 z, c]) (u : Value) (h : ModAt w m s W) : ModAt (w.setCell ⟨r, 1, none⟩ u) m s W :=
  ⟨h.box.other u (box_ne8 h.box hb (by decide)), wt_r hb u h.inn, h.l, h.w, h.h, h.i, h.v, h.p, h.whole⟩
theorem tab_r {w : World} {r : Nat} {a c : Value} {z : Int} {T : TypeId} (hb : Box w r T #[a, .int .i64 z, c]) (u : Value) (h : Tab w) : Tab (w.setCell ⟨r, 1, none⟩ u) := by
  intro i hi
  refine cell_set (h i hi) u ?_
  rintro rfl
  have := h 32 (by decide)
  rw [hb.cell, Array.getElem?_eq_none (by simp)] at this
  cases this
theorem stab_r {w : World} {r : Nat} {a c : Value} {z : Int} {T : TypeId} (hb : Box w r T #[a, .int .i64 z, c]) (u : Value) (h : STab w) : STab (w.setCell ⟨r, 1, none⟩ u) := fun i hi => cell_r (hb.cell 1) u (h i hi) rfl (fun y e => by cases e)
theorem rangeAt_box {w : World} {g : Nat} {T : TypeId} {cs : Array Value} (h : Box w g T cs) : w.rangeAt g 0 cs.toList := fun j v hv => by
  rw [Nat.zero_add, h.cell, ← Array.getElem?_toList]; exact hv
theorem yieldsIf_load_box {P : Program} {ops : Array Oper} {S : World → Prop} {op : Oper} {a : Act} (hw : Region.wanted op (yielded ops a.tmps) = true) (ty : TypeId) (x : Operand) (ho : op.op = .load ty x)
    (b : Nat) (hx : a.eval x = .pointer (some ⟨b, 0, none⟩)) (cs : Array Value) {d : TypeDesc} (hS : ∀ w, S w → w.rangeAt b 0 cs.toList)
    (hu : P.underlying ty = some d) (hd : d.isRow = true) (hi : (P.info? ty).map (·.size) = some cs.size) : YieldsIf P ops S op (.agg cs) a := by
  have := yieldsIf_load_mid (P := P) (ops := ops) (S := S) (a := a) hw ty x ho b 0 hx cs.toList d hS hu hd (by simpa using hi)
  simpa using this

theorem grown_tr {a b c : World} {q : Option Nat} (h : a.grownBy b q) (k : b.grownBy c q) : a.grownBy c q :=
  ⟨k.os.trans h.os, k.tape.trans h.tape, k.output.trans h.output, Nat.le_trans h.size k.size, fun i hi hne => (k.block i (Nat.lt_of_lt_of_le hi h.size) hne).trans (h.block i hi hne)⟩
theorem kcol_part (W : Wn8) (K : KF8) (p t k : Nat) : kcol (partK W K p t k) k p = (List.range p).map (K k) := by
  unfold kcol
  apply List.map_congr_left
  intro q hq
  have := List.mem_range.1 hq
  unfold partK
  rw [if_neg (by omega)]
theorem part_next (W : Wn8) (K : KF8) (p t k : Nat) : (fun l' q => if q = p ∧ l' = k then kvO W.s (W.bs.getD k default) p (layO W K p t k) else partK W K p t k l' q) = partK W K p t (k + 1) := by
  funext l' q
  unfold partK newO
  by_cases e : q = p ∧ l' = k
  · obtain ⟨rfl, rfl⟩ := e
    rw [if_pos ⟨rfl, rfl⟩, if_pos ⟨rfl, by omega⟩]
  · rw [if_neg e]
    by_cases e2 : q = p ∧ l' < k
    · rw [if_pos e2, if_pos ⟨e2.1, by omega⟩]
    · rw [if_neg e2, if_neg (by omega)]

set_option maxHeartbeats 8000000 in
set_option maxRecDepth 100000 in
theorem through8 (r m mb p t N : Nat) (K : KF8) (s : Sz) (ok : s.Ok) (W : Wt7) (w : World) (hr : RunAt w r m mb s p 0 N K) (hm : ModAt w m s W) (ht : t < s.v) (hN : N + 16 ≤ 10000) (hp : p ≤ 199) (hT : Tab w) (hS : STab w) :
    Calls Tryz.prog 35 #[.pointer (some ⟨r, 0, none⟩), .int .i64 t] w fun e w' => GivesS .i32 s.w (layO (W.nums s) K p t s.l) e w' ∧ RunAt w' r m mb s (p + 1) 0 (N + s.l) (stepK (W.nums s) K p t) ∧ ModAt w' m s W ∧ Tab w' ∧ STab w' ∧
      (∀ k, k < w.heap.size → k ≠ r → k ≠ mb → w'.heap[k]? = w.heap[k]?) ∧ w'.os = w.os ∧ w'.tape = w.tape ∧ w'.output = w.output ∧ w.heap.size ≤ w'.heap.size := by
  have hl16 : s.l ≤ 16 := ok.bd.1.2
  obtain ⟨e1, _, _, hbn, hbks⟩ := wtB_yes hm.whole
  have cE := embedded8 m t s ok ht W w hm
  have c0 : w.cell? ⟨r, 0, none⟩ = some (.pointer (some ⟨m, 0, none⟩)) := hr.box.cell 0
  have OK := Lib.hid ok
  have HR := Lib.hid hr
  have HM := Lib.hid hm
  have HBN := Lib.hid hbn
  have HBKS := Lib.hid hbks
  have HT := Lib.hid hT
  have HS := Lib.hid hS
  obtain ⟨Wn, hWn⟩ : ∃ Wn, W.nums s = Wn := ⟨_, rfl⟩
  have HWN := Lib.hid hWn
  have HL0 : Hid (embO Wn t = layO Wn K p t 0) := Lib.hid rfl
  rw [hWn] at cE ⊢
  rw [HL0.out] at cE
  clear hr hm hbn hbks hT hS ok e1 hWn
  go_enter Tryz.func35, Tryz.ntmps35
  go_wp2_with fail
  refine cE.mono ?_
  rintro e wa ⟨⟨g0, cc0, rfl, hE0, z1, z2⟩, hba⟩
  have c0a := cell_kept6 hba c0
  have HMa := Lib.hid (HM.out.bel hba)
  have c9 : wa.cell? ⟨m, 9, none⟩ = some (.slice W.ba s.l W.bcap) := by rw [HMa.out.box.cell 9, ← HBN.out]; rfl
  have HRa : Hid (RunAt wa r m mb s p 0 (N + 0) (partK Wn K p t 0)) := Lib.hid (by
    have e : partK Wn K p t 0 = K := by funext l q; unfold partK; rw [if_neg (by omega)]
    rw [e]; exact HR.out.bel hba)
  have HTa := Lib.hid (HT.out.below hba)
  have HSa := Lib.hid (HS.out.below hba)
  have HGa : Hid (w.grownBy wa (some mb)) := Lib.hid ⟨hba.os, hba.tape, hba.output, hba.size, fun k hk _ => hba.block k hk⟩
  have HE0 := Lib.hid hE0
  clear cE hE0 hba HR HM HT HS c0
  go_wp2
  go_loopw [5, 23] (fun x i wr => ∃ (k g c : Nat), k ≤ s.l ∧ i = .int .i64 k ∧ x = .slice (some ⟨g, 0, none⟩) s.w c ∧ s.w ≤ c ∧ c ≤ 9223372036854775807 ∧ Hid (Elems .i32 wr (some ⟨g, 0, none⟩) s.w (layO Wn K p t k)) ∧ Hid (RunAt wr r m mb s p k (N + k) (partK Wn K p t k)) ∧ Hid (ModAt wr m s W) ∧ Hid (Tab wr) ∧ Hid (STab wr) ∧ Hid (w.grownBy wr (some mb))) (fun _ i _ => s.l - (intOf i).toNat)
  case atStart => exact ⟨0, g0, cc0, by omega, rfl, rfl, z1, z2, HE0, HRa, HMa, HTa, HSa, HGa⟩
  case round =>
    clear c0a c9 HRa HMa HTa HSa HGa HE0 z1 z2
    obtain ⟨k, g, c, hk, rfl, rfl, z1, z2, hE, hR, hM, hTr, hSr, hGr⟩ := hrel
    by_cases hlt : k < s.l
    · obtain ⟨bg, bo, b, hba, hbg, hcb, hbk, hinr⟩ := hM.out.inn.2.2.2.1.at_ (i := k) (by rw [HBN.out]; exact hlt)
      have hbm : b ∈ W.bs := by
        rw [← hbk.out, List.getD_eq_getElem?_getD, List.getElem?_eq_getElem (by rw [hM.out.inn.2.2.2.1.1, HBN.out]; exact hlt)]
        exact List.getElem_mem _
      have HBK := Lib.hid (HBKS.out b hbm)
      have hbn : Hid (Wn.bs.getD k default = b.blk) := Lib.hid (by
        rw [← HWN.out]
        show (W.bs.map Bk7.blk).getD k default = _
        rw [← hbk.out, List.getD_eq_getElem?_getD, List.getElem?_map, List.getD_eq_getElem?_getD, List.getElem?_eq_getElem (by rw [hM.out.inn.2.2.2.1.1, HBN.out]; exact hlt)]
        rfl)
      have hsW : Hid (Wn.s = s) := Lib.hid (by rw [← HWN.out]; rfl)
      have HCB := Lib.hid hcb
      rw [hba]
      clear hcb hbk hbm
      go_upto_region 5 with (first
        | (refine wpList_load_part (o := ⟨some 27, _, _, _, _, _⟩) rfl 66 _ rfl bg (bo + k * 20) rfl b.cells _ HCB.out Tryz.underlying66 rfl (by kernel_rfl) ?_)
        | (refine wpList_store_row (o := ⟨none, .store _ _ _, _, _, _, _⟩) rfl 66 _ _ rfl wr.heap.size b.cells rfl rfl 66 _ (box_new _ _ _) (by kernel_rfl) rfl (bk_one b) ?_))
      simp only [Act.put]
      generalize hwA : World.setRow _ _ _ = wA
      have XB : Box wA wr.heap.size 66 b.cells := by rw [← hwA]; exact (box_new _ _ _).setRow
      have hbA : Below wr.heap.size wr wA := by rw [← hwA]; exact below_setRow ((Below.refl _ _).alloc (Nat.le_refl _) _) (Nat.le_refl _) (by simp)
      clear hwA
      have hbd : Below wr.heap.size wr wA.drew := hbA.drew
      have XBd : Box wA.drew wr.heap.size 66 b.cells := XB
      have R0 : wA.drew.rangeAt wr.heap.size 0 b.cells.toList := rangeAt_box XBd
      obtain ⟨D, hO, hD⟩ := hR.out.map
      have hob := hO.bel hbd
      have hinb := hinr.bel hbd
      have hXb := (hE.out.below hbd)
      have hkeq := kcol_part Wn K p t k
      have cAt := attended8 r m mb k p (N + k) (partK Wn K p t k) D s OK.out W b (some ⟨g, 0, none⟩) c (layO Wn K p t k) wA.drew (hR.out.box.bel hbd) (hM.out.bel hbd) HBK.out hinb hXb hob (by omega) (hD.bel hbd) hlt hp (hTr.out.below hbd) (hSr.out.below hbd)
      rw [hkeq] at cAt
      have HRB := Lib.hid (hR.out.box.bel hbd)
      have HMd := Lib.hid (hM.out.bel hbd)
      have HTd := Lib.hid (hTr.out.below hbd)
      have HSd := Lib.hid (hSr.out.below hbd)
      have HBd := Lib.hid hbd
      clear hO hD hinr hE hR hM hTr hSr hXb hkeq hbA XB hbd
      refine wp_region_held_drew (S := (fun w' => w'.rangeAt wr.heap.size 0 b.cells.toList)) (by kernel_rfl) ?_ (fun hHeld => ?_)
      · exact R0
      refine wpAnyH_take (i := 0) (oi := ⟨some 28, _, _, _, _, _⟩) (v := .agg b.cells) rfl (by kernel_rfl) (by kernel_rfl) (by kernel_rfl) (fun _ _ _ h => h) (yieldsIf_load_box (by rfl) 66 _ rfl wr.heap.size rfl b.cells (fun _ h => h) Tryz.underlying66 rfl (by kernel_rfl)) hHeld ?_
      simp only [Act.put, List.setIfInBounds_toArray, List.set_cons_zero, List.set_cons_succ]
      refine wpAnyH_take (i := 1) (oi := ⟨some 29, _, _, _, _, _⟩) (v := ?_) rfl (by kernel_rfl) (by kernel_rfl) (by kernel_rfl) (fun _ _ _ h => h) (Or.inl ⟨by rfl, ?hy2⟩) hHeld ?rest2
      case hy2 => (intro W hSw; (try dsimp only at hSw); go_simp; (try with_reducible rfl))
      simp only [Act.put, List.setIfInBounds_toArray, List.set_cons_zero, List.set_cons_succ]
      refine wpAnyH_take (i := 2) (oi := ⟨some 30, _, _, _, _, _⟩) (v := ?_) rfl (by kernel_rfl) (by kernel_rfl) (by kernel_rfl) (fun _ _ _ h => h) (Or.inl ⟨by rfl, ?hy3⟩) hHeld ?rest3
      case hy3 => (intro W hSw; (try dsimp only at hSw); go_simp; (try with_reducible rfl))
      simp only [Act.put, List.setIfInBounds_toArray, List.set_cons_zero, List.set_cons_succ]
      refine wpAnyH_take (i := 3) (oi := ⟨some 31, _, _, _, _, _⟩) (v := .agg b.cells) rfl (by kernel_rfl) (by kernel_rfl) (by kernel_rfl) (fun _ _ _ h => h) (yieldsIf_load_box (by rfl) 66 _ rfl wr.heap.size rfl b.cells (fun _ h => h) Tryz.underlying66 rfl (by kernel_rfl)) hHeld ?_
      simp only [Act.put, List.setIfInBounds_toArray, List.set_cons_zero, List.set_cons_succ]
      refine wpAnyH_take (i := 4) (oi := ⟨some 32, _, _, _, _, _⟩) (v := ?_) rfl (by kernel_rfl) (by kernel_rfl) (by kernel_rfl) (fun _ _ _ h => h) (Or.inl ⟨by rfl, ?hy5⟩) hHeld ?rest5
      case hy5 => (intro W hSw; (try dsimp only at hSw); go_simp; (try with_reducible rfl))
      simp only [Act.put, List.setIfInBounds_toArray, List.set_cons_zero, List.set_cons_succ]
      refine wpAnyH_ready (rs := [5]) (by kernel_rfl) (by simp) ?_
      refine AllReadyH.cons (o := ⟨some 33, _, _, _, _, _⟩) rfl (fun K hK => ?_) AllReadyH.nil
      go_simp
      (go_at_call 63; (with_reducible refine cAt.mono ?_); rintro e wc ⟨⟨g2, c2, rfl, hE2, x1, x2⟩, hg2, D2, hO2, hD2⟩)
      have XB2 := box_map hob hg2 XBd
      have R1 := rangeAt_box XB2
      have hcm := fun q v h => cells_map (p := q) (v := v) hob hg2 h
      have hin2 := hinb.cellsK hcm
      have cG := gated8 s OK.out b HBK.out (some ⟨g2, 0, none⟩) c2 _ wc hin2 hE2
      (try go_wp2_with fail)
      refine hK.out _ _ ?_ (fun hNew => ?_)
      · ((try dsimp only); (first | exact R0 | exact R1 | exact R2))
      clear hK K hHeld
      have hHeld := hNew
      clear hNew
      try simp only [Act.put, List.setIfInBounds_toArray, List.set_cons_zero, List.set_cons_succ]
      refine wpAnyH_ready (rs := [6]) (by kernel_rfl) (by simp) ?_
      refine AllReadyH.cons (o := ⟨some 34, _, _, _, _, _⟩) rfl (fun K hK => ?_) AllReadyH.nil
      go_simp
      (go_at_call 62; (with_reducible refine cG.mono ?_); rintro e wd ⟨⟨g3, c3, rfl, hE3, x3, x4⟩, hb3⟩)
      have R2 := rangeAt_box (XB2.bel hb3)
      (try go_wp2_with fail)
      refine hK.out _ _ ?_ (fun hNew => ?_)
      · ((try dsimp only); (first | exact R0 | exact R1 | exact R2))
      clear hK K hHeld
      have hHeld := hNew
      clear hNew
      try simp only [Act.put, List.setIfInBounds_toArray, List.set_cons_zero, List.set_cons_succ]
      refine wpAnyH_take (i := 7) (oi := ⟨some 5, _, _, _, _, _⟩) (v := ?_) rfl (by kernel_rfl) (by kernel_rfl) (by kernel_rfl) (fun _ _ _ h => h) (Or.inl ⟨by rfl, ?hy6⟩) hHeld ?rest6
      case hy6 => (intro W hSw; (try dsimp only at hSw); go_simp; (try with_reducible rfl))
      simp only [Act.put, List.setIfInBounds_toArray, List.set_cons_zero, List.set_cons_succ]
      refine wpAnyH_done (by kernel_rfl) ?_ _
      have hgr : Hid (w.grownBy wd (some mb)) := Lib.hid (grown_bel (grown_tr hGr.out (bel_grown HBd.out hg2)) hb3)
      have hlay : Hid (layO Wn K p t (k + 1) = gateO s b.blk (attO s b.blk p (layO Wn K p t k) ((List.range p).map (K k) ++ [kvO s b.blk p (layO Wn K p t k)]))) := Lib.hid (by
        show gateO Wn.s (Wn.bs.getD k default) (attO Wn.s (Wn.bs.getD k default) p (layO Wn K p t k) ((List.range p).map (K k) ++ [kvO Wn.s (Wn.bs.getD k default) p (layO Wn K p t k)])) = _
        rw [hsW.out, hbn.out])
      have hpart : (fun l' q => if q = p ∧ l' = k then kvO s b.blk p (layO Wn K p t k) else partK Wn K p t k l' q) = partK Wn K p t (k + 1) := by
        have := part_next Wn K p t k
        rw [hsW.out, hbn.out] at this
        exact this
      rw [hpart] at hD2
      have HR3 : Hid (RunAt wd r m mb s p (k + 1) (N + (k + 1)) (partK Wn K p t (k + 1))) := Lib.hid ⟨(box_map hob hg2 HRB.out).bel hb3, D2, hO2.bel hb3, hD2.bel hb3⟩
      have HM3 := Lib.hid ((HMd.out.mapped hob hg2 hcm).bel hb3)
      have HT3 : Hid (Tab wd) := Lib.hid (Tab.below (fun i hi => hcm _ _ (HTd.out i hi)) hb3)
      have HS3 : Hid (STab wd) := Lib.hid (STab.below (fun i hi => hcm _ _ (HSd.out i hi)) hb3)
      have HE3 := Lib.hid hE3
      rw [← hlay.out] at HE3
      clear hD2 hO2 hob hg2 hcm hin2 hE2 hE3 hb3 XB2 R0 R1 R2 cAt cG XBd hinb HRB HMd HTd HSd HBd hGr hpart hlay hHeld
      go_wp2
      go_roundw
      case rel => exact ⟨k + 1, g3, c3, by omega, by go_num, rfl, x3, x4, HE3, HR3, HM3, HT3, HS3, hgr⟩
      case measure => simp [intOf]; omega
    · obtain rfl : k = s.l := by omega
      have hb := hR.out.box
      have y0 : wr.cell? ⟨r, 0, none⟩ = some (.pointer (some ⟨m, 0, none⟩)) := hb.cell 0
      have y1 : wr.cell? ⟨r, 1, none⟩ = some (.int .i64 p) := hb.cell 1
      have yf := hb.frozen 1
      have hrw : ∀ u : Value, ∀ q : Rw, q.In .i8 wr → q.In .i8 (wr.setCell ⟨r, 1, none⟩ u) := fun u q hq => rw_r (by decide) y1 u hq
      obtain ⟨D, hO, hD⟩ := hR.out.map
      have hne : r ≠ mb := by
        rintro rfl
        have := hO.cell 0
        rw [hb.cell] at this
        cases this
      have HB1 : Hid (Box (wr.setCell ⟨r, 1, none⟩ (.int .i64 ((p : Int) + 1))) r 91 #[.pointer (some ⟨m, 0, none⟩), .int .i64 ((p + 1 : Nat) : Int), .map (some mb)]) := Lib.hid (by
        have := hb.set 1 (.int .i64 ((p : Int) + 1))
        simpa using this)
      have HR1 : Hid (RunAt (wr.setCell ⟨r, 1, none⟩ (.int .i64 ((p : Int) + 1))) r m mb s (p + 1) 0 (N + s.l) (stepK Wn K p t)) := Lib.hid ⟨HB1.out, D, hO.kept (grownBy_setCell _ r 1 _) (by simpa using fun e => hne e.symm), by
        have hsW : Wn.s = s := by rw [← HWN.out]; rfl
        unfold stepK
        rw [hsW]
        exact (hD.next).kept (hrw _)⟩
      have HM1 := Lib.hid (mod_r hb (.int .i64 ((p : Int) + 1)) hM.out)
      have HT1 := Lib.hid (tab_r hb (.int .i64 ((p : Int) + 1)) hTr.out)
      have HS1 := Lib.hid (stab_r hb (.int .i64 ((p : Int) + 1)) hSr.out)
      have HE1 := Lib.hid (elems_r (by decide) y1 (.int .i64 ((p : Int) + 1)) hE.out)
      have HF : Hid (∀ k, k < w.heap.size → k ≠ r → k ≠ mb → (wr.setCell ⟨r, 1, none⟩ (.int .i64 ((p : Int) + 1))).heap[k]? = w.heap[k]?) := Lib.hid (fun k hk h1 h2 => (Below.heap_setCell wr ⟨r, 1, none⟩ _ k h1).trans (hGr.out.block k hk (by simpa using h2)))
      have HSZ : Hid (w.heap.size ≤ (wr.setCell ⟨r, 1, none⟩ (.int .i64 ((p : Int) + 1))).heap.size) := Lib.hid (by simpa using hGr.out.size)
      clear hb hrw hO hD hne hR hM hTr hSr hE HB1
      go_wp2
      go_ret
      exact ⟨⟨g, c, rfl, HE1.out, z1, z2⟩, HR1.out, HM1.out, HT1.out, HS1.out, HF.out, hGr.out.os, hGr.out.tape, hGr.out.output, HSZ.out⟩

end Go.Proofs.YtoeihigdndkjeaaGreatDoor
