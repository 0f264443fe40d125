/-
  The document's store: Put.
-/
import Derived.Test.YtolmejaedldeeaaDoc12
import Derived.Test.YtolmejaedldeeaaLitCopy
import Derived.Test.YtolmejaedldeeaaRegZ
namespace Go.Proofs.Ytolmejaedldeeaa
open Go.RowKit Go.Maps
set_option linter.unusedVariables false

theorem FindR.has {L : List Ent} {r l p x : Int} (h : FindR L r l p x) : (0 ≤ x ↔ hasE L r l p = true) ∧ (x < 0 ↔ hasE L r l p = false) := by
  rcases h with ⟨rfl, h⟩ | ⟨k, hk, rfl, e1, e2, e3⟩
  · rw [h]; simp
  · have : hasE L r l p = true := hasE_iff.2 ⟨_, List.getElem_mem hk, e1, e2, e3⟩
    rw [this]; exact ⟨⟨fun _ => rfl, fun _ => by omega⟩, ⟨fun h => by omega, fun h => by cases h⟩⟩
theorem FindR.at_ {D : List De} {r l p x : Int} (h : FindR (docL D) r l p x) (hG : GoodE (docL D)) (hx : 0 ≤ x) : ∃ (k : Nat) (hk : k < D.length), x = (k : Int) ∧ findE (docL D) r l p = some D[k].e := by
  rcases h with ⟨rfl, h⟩ | ⟨k, hk, rfl, e1, e2, e3⟩
  · omega
  · have hk2 : k < D.length := by rw [docL_len] at hk; exact hk
    have e : (docL D)[k] = D[k].e := by simp [docL]
    refine ⟨k, hk2, rfl, ?_⟩
    rw [← e]
    have := hG.find (List.getElem_mem hk)
    rw [e1, e2, e3] at this
    exact this

/-- no row of a list lies in block b -/
def DocOff (D : List De) (b : Nat) : Prop := ∀ y ∈ D, RowOff b y.k ∧ RowOff b y.v
/-- what the document's Put leaves -/
def DPutR (room base db : Nat) (D : List De) (e : Ent) (w w' : World) : Prop :=
  (∃ v' D', DocAt w' db room base v' D' ∧ docL D' = (putE room (docL D) e).2 ∧ ∀ b, b < w.heap.size → DocOff D b → DocOff D' b) ∧ KeptD w w' ∧ Below db w w'
theorem dput_same {room base db : Nat} {D : List De} {e : Ent} {w w' : World} {v : Value} (h : DocAt w db room base v D) (hb : Below w.heap.size w w') (he : (putE room (docL D) e).2 = docL D) : DPutR room base db D e w w' :=
  ⟨⟨v, D, h.bel hb, he.symm, fun _ _ h => h⟩, KeptD.of_bel hb, hb.mono (Nat.le_of_lt (Nat.lt_of_lt_of_le h.lt h.le))⟩

theorem infoRowD : (Try.prog.info? 46).map (fun i => (i.zero, i.size, i.bytes)) = some (some (.agg #[.int .i64 0, .int .i64 0, .int .i64 0, .slice none 0 0, .slice none 0 0]), 5, 72) := by kernel_rfl
/-- what an entry more leaves, stored -/
def NextD (db room base : Nat) (D : List De) (x : De) (v : Value) (gr cap : Nat) (wz w3 : World) : Prop :=
  Box w3 db 31 #[.int .i64 room, v] ∧ (∀ g T cs, Box wz g T cs → T ≠ 46 → Box w3 g T cs) ∧
    DocAt (w3.setCell ⟨db, 1, none⟩ (.slice (some ⟨gr, 0, none⟩) (D.length + 1) cap)) db room base (.slice (some ⟨gr, 0, none⟩) (D.length + 1) cap) (D ++ [x]) ∧
    KeptD wz (w3.setCell ⟨db, 1, none⟩ (.slice (some ⟨gr, 0, none⟩) (D.length + 1) cap)) ∧ Below db wz (w3.setCell ⟨db, 1, none⟩ (.slice (some ⟨gr, 0, none⟩) (D.length + 1) cap))
theorem dput_row {wz : World} {db room base : Nat} {v : Value} {D : List De} (h : DocAt wz db room base v D) (hl : D.length ≤ 1048576) (x : De) (hR : RowsE wz x.e x.k x.v) :
    ∃ gr cap w3, Sem.run Try.prog (Builtin.append_ #[29, 29] 29 #[v, .slice (some ⟨wz.heap.size, 0, none⟩) 1 1]) (wz.alloc (.cells #[.int .i64 x.e.r, .int .i64 x.e.l, .int .i64 x.e.p, .slice x.k.a x.k.n x.k.cap, .slice x.v.a x.v.n x.v.cap] 46)) =
      .ok (.slice (some ⟨gr, 0, none⟩) (D.length + 1) cap) w3 ∧ NextD db room base D x v gr cap wz w3 := by
  have h8 : ∀ u ∈ deCells x, No8 u := fun u hu => deCells_no8 [x] u (by simpa using hu)
  obtain ⟨gr, cap, w3, hr, ho, hA, hg, hv, hc1, hc2⟩ := append_c (P := Try.prog) (ok := No8) wz base 29 46 _ 5 72 Try.underlying29 infoRowD rfl (by omega) (by omega) (by omega)
    (by intro u hu; simp [Value.cells] at hu; rcases hu with rfl | rfl <;> first | exact no8_i64 _ | exact no8_slice _ _ _) v D.length _ (deCells x) h.row.own h.row.all (by omega) rfl h8 (by intro u hu; simp only [deCells, List.mem_cons, List.not_mem_nil, or_false] at hu; rcases hu with rfl | rfl | rfl | rfl | rfl <;> rfl) h.le
  refine ⟨gr, cap, w3, hr, ?_⟩
  have hdl : db < wz.heap.size := Nat.lt_of_lt_of_le h.lt h.le
  have hbox : ∀ g T cs, Box wz g T cs → T ≠ 46 → Box w3 g T cs := fun g T cs hb hT => hb.kept hg (fun e => (h.row.all g e.symm).box_ne hb hT rfl)
  have hdb := hbox _ _ _ h.box (by decide)
  have hne : db ≠ gr := hA.box_ne hdb (by decide)
  obtain ⟨w4, hw4⟩ : ∃ w4, w3.setCell ⟨db, 1, none⟩ (.slice (some ⟨gr, 0, none⟩) (D.length + 1) cap) = w4 := ⟨_, rfl⟩
  have hg4 : w3.grownBy w4 (some db) := by rw [← hw4]; exact ⟨rfl, rfl, rfl, by simp, fun i hi hne => by rw [heap_setCell_other w3 ⟨db, 1, none⟩ i _ (fun e => hne (by rw [e]))]⟩
  have hno : AllC No8 w3 31 db := let ⟨cs, hb, hc⟩ := h.noBox; ⟨cs, hbox _ _ _ hb (by decide), hc⟩
  have hK : KeptD wz w4 := (KeptD.of_row hg (fun g e => .inl (h.row.all g e))).trans (KeptD.of_row hg4 (fun g e => by cases e; exact .inr hno))
  have hB : Below db wz w4 := by
    rw [← hw4]
    exact ((Below.refl db wz).grown hg (Nat.le_of_lt hdl) (fun k hk => by have := (h.row.own.lt k hk).1; have := h.lt; omega)).setCell (p := ⟨db, 1, none⟩) (Nat.le_refl _) _
  have hD : DocAt w4 db room base (.slice (some ⟨gr, 0, none⟩) (D.length + 1) cap) (D ++ [x]) := by
    refine ⟨?_, ?_, fun y hy => ?_, h.lt, Nat.le_trans h.le hK.size⟩
    · rw [← hw4]; exact hdb.set 1 _
    · have hL : ListAt No8 w3 base 46 5 (.slice (some ⟨gr, 0, none⟩) (D.length + 1) cap) (D.length + 1) (D.flatMap deCells ++ deCells x) := ⟨ho, fun g e => by simp only [Value.ownBlock, Option.some.injEq] at e; subst e; exact hA⟩
      have := hL.kept hg4 (fun g e x => by simp only [Value.ownBlock, Option.some.injEq] at e; subst e; exact hne (Option.some.inj x))
      simpa [List.flatMap_append] using this
    · have hy2 : RowsE wz y.e y.k y.v := by
        rcases List.mem_append.1 hy with hy | hy
        · exact h.ent y hy
        · rw [List.mem_singleton] at hy; subst hy; exact hR
      exact ⟨hK.rw _ hy2.1, hK.rw _ hy2.2.1, hy2.2.2⟩
  unfold NextD
  rw [hw4]
  exact ⟨hdb, hbox, hD, hK, hB⟩

theorem dput_fin {room base db : Nat} {D : List De} {x : De} {v v0 : Value} {gr cap : Nat} {w wd wz w3 : World} {n : Int} (hp : putE room (docL D) x.e = (n, docL D ++ [x.e])) (hb : Below w.heap.size w wd) (h : DocAt w db room base v0 D) (hz : Below wd.heap.size wd wz) (hN : NextD db room base D x v gr cap wz w3) (hk : ∀ y, x.k.a = some y → wd.heap.size ≤ y.block) (hv : ∀ y, x.v.a = some y → wd.heap.size ≤ y.block) :
    DPutR room base db D x.e w (w3.setCell ⟨db, 1, none⟩ (.slice (some ⟨gr, 0, none⟩) (D.length + 1) cap)) := by
  obtain ⟨_, _, h1, h2, h3⟩ := hN
  have hbz := below_two hb hz
  have hlt : db < w.heap.size := Nat.lt_of_lt_of_le h.lt h.le
  have hs := hb.size
  exact ⟨⟨_, _, h1, by rw [hp]; simp [docL], fun b hb0 ho y hy => by
    rcases List.mem_append.1 hy with hy | hy
    · exact ho y hy
    · rw [List.mem_singleton] at hy
      subst hy
      exact ⟨fun a ha _ e => by have := hk a ha; omega, fun a ha _ e => by have := hv a ha; omega⟩⟩, (KeptD.of_bel hbz).trans h2, (hbz.mono (Nat.le_of_lt hlt)).trans h3⟩
set_option maxHeartbeats 6400000 in
set_option maxRecDepth 100000 in
theorem dput12 {w : World} {db room base : Nat} {v : Value} {D : List De} (h : DocAt w db room base v D) (hG : GoodE (docL D)) (hroom : D.length ≤ room ∧ room ≤ 1048576) (e : Ent) (k q : Rw) (hR : RowsE w e k q) (hw : w64 e.r ∧ w64 e.l ∧ w64 e.p) :
    Calls Try.prog 8 #[.pointer (some ⟨db, 0, none⟩), spotV e.r e.l e.p, .slice k.a k.n k.cap, .slice q.a q.n q.cap] w fun en w' => en = .returned (.int .i64 (putE room (docL D) e).1) ∧ DPutR room base db D e w w' := by
  obtain ⟨va, vc, rfl⟩ := h.row.shape
  have hkl : k.n = e.k.length := by rw [← hR.2.2.1]; exact hR.1.1.1.symm
  have hvl : q.n = e.v.length := by rw [← hR.2.2.2.1]; exact hR.2.1.1.1.symm
  have hal : ∀ o, Below w.heap.size w (w.alloc o) := fun o => (Below.refl _ _).alloc (Nat.le_refl _) o
  by_cases h0 : e.r < 0 ∨ e.l < 0 ∨ e.p < 0
  · have hfin := fun o => dput_same (e := e) h (hal o) (by rw [putE_arg h0])
    rw [putE_arg h0]
    have HF := Lib.hid hfin
    obtain ⟨r, l, p, K0, V⟩ := e
    simp only at h0 ⊢
    unfold spotV
    clear hkl hvl h hG hR hw hfin
    by_cases a1 : r < 0
    · go_enter Try.func8, Try.ntmps8
      go_wp2
      go_ret
      exact ⟨rfl, HF.out _⟩
    · by_cases a2 : l < 0
      · go_enter Try.func8, Try.ntmps8
        go_wp2
        go_ret
        exact ⟨rfl, HF.out _⟩
      · have a3 : p < 0 := by omega
        go_enter Try.func8, Try.ntmps8
        go_wp2
        go_ret
        exact ⟨rfl, HF.out _⟩
  have h0 : 0 ≤ e.r ∧ 0 ≤ e.l ∧ 0 ≤ e.p := by omega
  by_cases hs : e.k.length = e.v.length
  rotate_left
  · have hfin := fun o => dput_same (e := e) h (hal o) (by rw [putE_shape h0 hs])
    rw [putE_shape h0 hs]
    have HF := Lib.hid hfin
    obtain ⟨r, l, p, K0, V⟩ := e
    simp only at h0 hs hkl hvl ⊢
    unfold spotV
    obtain ⟨a1, a2, a3⟩ := h0
    have b1 : ¬ r < 0 := by omega
    have b2 : ¬ l < 0 := by omega
    have b3 : ¬ p < 0 := by omega
    have b4 : ((k.n : Int) != (q.n : Int)) = true := by simp; omega
    clear h hR hw hfin hkl hvl hs a1 a2 a3
    go_enter Try.func8, Try.ntmps8
    go_wp2
    go_ret
    exact ⟨rfl, HF.out _⟩
  have b4 : ((k.n : Int) != (q.n : Int)) = false := by simp; omega
  have b1 : ¬ e.r < 0 := by omega
  have b2 : ¬ e.l < 0 := by omega
  have b3 : ¬ e.p < 0 := by omega
  have HD := Lib.hid h
  have HG := Lib.hid hG
  have HRM := Lib.hid hroom
  have HR := Lib.hid hR
  have HW := Lib.hid hw
  have HS := Lib.hid (And.intro h0 hs)
  have HSAME : Hid (∀ W, Below w.heap.size w W → (putE room (docL D) e).2 = docL D → DPutR room base db D e w W) := Lib.hid (fun W hW he => dput_same h hW he)
  have hX : Box (w.alloc (.cells #[.int .i64 e.r, .int .i64 e.l, .int .i64 e.p] 33)) w.heap.size 33 #[.int .i64 e.r, .int .i64 e.l, .int .i64 e.p] := box_new _ _ _
  have HX : Hid (Below w.heap.size w (w.alloc (.cells #[.int .i64 e.r, .int .i64 e.l, .int .i64 e.p] 33)) ∧ Box (w.alloc (.cells #[.int .i64 e.r, .int .i64 e.l, .int .i64 e.p] 33)) w.heap.size 33 #[.int .i64 e.r, .int .i64 e.l, .int .i64 e.p]) := Lib.hid ⟨hal _, hX⟩
  have hlen : D.length ≤ 1048576 := Nat.le_trans hroom.1 hroom.2
  have cF := fun W (hW : Below w.heap.size w W) r l p => find12 (h.bel hW) hlen r l p
  have hpw := hw.2.2
  have hp1 : 0 < e.p → IntKind.i64.wrap (e.p - 1) = e.p - 1 := fun h => IntWalk.i64_in _ (by have := w64_bd.1 hpw; omega)
  have HP1 := Lib.hid hp1
  have HCF := Lib.hid cF
  obtain ⟨r, l, p, K0, V⟩ := e
  simp only at b1 b2 b3 ⊢
  unfold spotV at cF ⊢
  clear h hG hR hw h0 hs hX hlen cF hpw hp1 hroom hkl hvl hal
  go_enter Try.func8, Try.ntmps8
  go_upto_region 5 with (fail)
  generalize hwa : World.alloc _ _ = wa at HX ⊢
  go_cut [43] from 28 (fun v wx => v = .bool (!(aheadE (docL D) r l p)) ∧ Hid (Below w.heap.size w wx ∧ Box wx w.heap.size 33 #[.int .i64 r, .int .i64 l, .int .i64 p]))
  case first =>
    have x0 : wa.cell? ⟨w.heap.size, 0, none⟩ = some (.int .i64 r) := HX.out.2.cell 0
    have x1 : wa.cell? ⟨w.heap.size, 1, none⟩ = some (.int .i64 l) := HX.out.2.cell 1
    have x2 : wa.cell? ⟨w.heap.size, 2, none⟩ = some (.int .i64 p) := HX.out.2.cell 2
    by_cases hp : p = 0
    · subst hp
      have hA : Hid (aheadE (docL D) r l 0 = true) := Lib.hid (by unfold aheadE; simp)
      go_wp2
      go_meet
      case rel => exact ⟨by rw [hA.out]; rfl, HX⟩
    · have hp2 : decide (0 < p) = true := by simp; omega
      have hpw : IntKind.i64.wrap (p - 1) = p - 1 := HP1.out (by simp only; omega)
      have cA := HCF.out wa HX.out.1 r l (p - 1)
      unfold spotV at cA
      have HNP := Lib.hid hp
      clear hp
      go_wp2_with (with_reducible refine cA.mono ?_)
      (first | rintro en wb x rfl hx hb | rintro en wb ⟨x, rfl, hx⟩ hb | rintro en wb ⟨⟨x, rfl, hx⟩, hb⟩)
      have hv : Hid (decide (x < 0) = !(aheadE (docL D) r l p)) := Lib.hid (by
        have h1 := hx.has.2
        unfold aheadE
        rw [if_neg HNP.out, Bool.eq_iff_iff, decide_eq_true_eq, h1]
        simp)
      have HB := Lib.hid (And.intro (below_two HX.out.1 hb) (HX.out.2.bel hb))
      clear hx hb cA x0 x1 x2
      go_wp2
      go_meet
      case rel => exact ⟨by rw [← hv.out], HB⟩
  case rest =>
    obtain ⟨rfl, HC⟩ := hcut
    have x0 : wc.cell? ⟨w.heap.size, 0, none⟩ = some (.int .i64 r) := HC.out.2.cell 0
    have x1 : wc.cell? ⟨w.heap.size, 1, none⟩ = some (.int .i64 l) := HC.out.2.cell 1
    have x2 : wc.cell? ⟨w.heap.size, 2, none⟩ = some (.int .i64 p) := HC.out.2.cell 2
    clear HX
    cases hA : aheadE (docL D) r l p with
    | false =>
      have HPE : Hid (putE room (docL D) ⟨r, l, p, K0, V⟩ = (120, docL D)) := Lib.hid (putE_gap HS.out.1 HS.out.2 hA)
      clear hA
      go_wp2
      go_ret
      rw [HPE.out]
      exact ⟨rfl, HSAME.out _ HC.out.1 (by rw [HPE.out])⟩
    | true =>
      have HPE := Lib.hid (putE_on (room := room) (L := docL D) HS.out.1 HS.out.2 hA)
      have HA := Lib.hid hA
      have cA := HCF.out wc HC.out.1 r l p
      unfold spotV at cA
      clear hA
      go_wp2_with (with_reducible refine cA.mono ?_)
      (first | rintro en wb x rfl hx hb | rintro en wb ⟨x, rfl, hx⟩ hb | rintro en wb ⟨⟨x, rfl, hx⟩, hb⟩)
      have HB := Lib.hid (And.intro (below_two HC.out.1 hb) (HC.out.2.bel hb))
      have HF := Lib.hid hx
      clear hb cA x0 x1 x2 hx
      by_cases h0 : 0 ≤ x
      · obtain ⟨j, hj, rfl, hf⟩ := HF.out.at_ HG.out h0
        have HJ : Hid (findE (docL D) r l p = some D[j].e) := Lib.hid hf
        clear h0 hf
        have hDb := HD.out.bel HB.out.1
        obtain ⟨g, c', e, hc1, hc2, hg, hcells⟩ := hDb.cells (by omega)
        obtain ⟨-, -, -, z3, z4⟩ := hcells j hj
        have s1 : wb.cell? ⟨db, 1, none⟩ = some (.slice va D.length vc) := hDb.box.cell 1
        simp only [Value.slice.injEq] at e
        obtain ⟨rfl, -, rfl⟩ := e
        have hE := hDb.ent D[j] (List.getElem_mem hj)
        obtain ⟨de, hde⟩ : ∃ de, D[j] = de := ⟨_, rfl⟩
        rw [hde] at z3 z4 hE
        have HJ2 : Hid (findE (docL D) r l p = some de.e) := Lib.hid (by rw [HJ.out, hde])
        have hRb : RowsE wb ⟨r, l, p, K0, V⟩ k q := HR.out.bel HB.out.1
        have hj2 : (j : Int) < (D.length : Int) := by omega
        have cB1 := bytes_any de.k.a k.a de.k.n k.n de.k.cap k.cap de.k.v k.v wb hE.1.1 hRb.1.1
        have cB2 := fun W (hW : Below wb.heap.size wb W) => bytes_any de.v.a q.a de.v.n q.n de.v.cap q.cap de.v.v q.v W (hE.2.1.below hW).1 (hRb.2.1.below hW).1
        rw [hE.2.2.1, hRb.2.2.1] at cB1
        rw [hE.2.2.2.1, hRb.2.2.2.1] at cB2
        have HCL : Hid (∀ W, Below wb.heap.size wb W → W.cell? ⟨db, 1, none⟩ = some (.slice (some ⟨g, 0, none⟩) D.length vc) ∧ W.cell? ⟨g, j * 5 + 4, none⟩ = some (.slice de.v.a de.v.n de.v.cap)) := Lib.hid (fun W hW =>
          ⟨(hDb.bel hW).box.cell 1, (hW.cell (p := ⟨g, j * 5 + 4, none⟩) hg).trans z4⟩)
        have hm := HPE.out
        simp only [HJ2.out] at hm
        have HM := Lib.hid hm
        have HC2 := Lib.hid cB2
        clear hDb hcells hc1 hc2 hg hE hde hRb HJ z4 HPE HF hm cB2
        by_cases hK : de.e.k = K0
        · rw [decide_eq_true hK] at cB1
          have HK := Lib.hid hK
          clear hK
          go_wp2_with (with_reducible refine cB1.mono ?_)
          (first | rintro en wd rfl hb | rintro en wd ⟨rfl, hb⟩)
          obtain ⟨s2, z5⟩ := HCL.out wd hb
          have cB3 := HC2.out wd hb
          have HBd := Lib.hid (below_two HB.out.1 hb)
          clear hb cB1 s1 z3
          by_cases hV : de.e.v = V
          · rw [decide_eq_true hV] at cB3
            have hm := HM.out
            rw [if_pos ⟨HK.out, hV⟩] at hm
            have HM2 := Lib.hid hm
            clear hV hm HM
            go_wp2_with (with_reducible refine cB3.mono ?_)
            (first | rintro en we rfl hb | rintro en we ⟨rfl, hb⟩)
            have HBe := Lib.hid (below_two HBd.out hb)
            clear hb cB3 s2 z5
            go_wp2
            go_ret
            rw [HM2.out]
            exact ⟨rfl, HSAME.out _ HBe.out (by rw [HM2.out])⟩
          · rw [decide_eq_false hV] at cB3
            have hm := HM.out
            rw [if_neg (fun x => hV x.2)] at hm
            have HM2 := Lib.hid hm
            clear hV hm HM
            go_wp2_with (with_reducible refine cB3.mono ?_)
            (first | rintro en we rfl hb | rintro en we ⟨rfl, hb⟩)
            have HBe := Lib.hid (below_two HBd.out hb)
            clear hb cB3 s2 z5
            go_wp2
            go_ret
            rw [HM2.out]
            exact ⟨rfl, HSAME.out _ HBe.out (by rw [HM2.out])⟩
        · rw [decide_eq_false hK] at cB1
          have hm := HM.out
          rw [if_neg (fun x => hK x.1)] at hm
          have HM2 := Lib.hid hm
          clear hK hm HM HC2
          go_wp2_with (with_reducible refine cB1.mono ?_)
          (first | rintro en wd rfl hb | rintro en wd ⟨rfl, hb⟩)
          have HBd := Lib.hid (below_two HB.out.1 hb)
          clear hb cB1 s1 z3 HCL
          go_wp2
          go_ret
          rw [HM2.out]
          exact ⟨rfl, HSAME.out _ HBd.out (by rw [HM2.out])⟩
      · have hx0 : ¬ 0 ≤ x := h0
        have hno : findE (docL D) r l p = none := by
          have h1 := HF.out.has.2.1 (by omega)
          cases hf : findE (docL D) r l p with
          | none => rfl
          | some y => obtain ⟨h2, h3⟩ := findE_some hf; exact absurd h3 (hasE_no.1 h1 y h2)
        have hm := HPE.out
        simp only [hno, docL_len] at hm
        have HNO := Lib.hid hno
        have hDb := HD.out.bel HB.out.1
        have s0 : wb.cell? ⟨db, 0, none⟩ = some (.int .i64 room) := hDb.box.cell 0
        have s1 : wb.cell? ⟨db, 1, none⟩ = some (.slice va D.length vc) := hDb.box.cell 1
        have HDb := Lib.hid hDb
        clear h0 hno hDb HPE HF
        by_cases hfull : room ≤ D.length
        · have hfull2 : (room : Int) ≤ (D.length : Int) := by omega
          rw [if_pos hfull] at hm
          have HM2 := Lib.hid hm
          clear hfull hm
          go_wp2
          go_region
          go_wp2
          go_ret
          rw [HM2.out]
          exact ⟨rfl, HSAME.out _ HB.out.1.drew (by rw [HM2.out])⟩
        · have hfull2 : ¬ (room : Int) ≤ (D.length : Int) := by omega
          rw [if_neg hfull] at hm
          have HM2 := Lib.hid hm
          have HFL := Lib.hid hfull
          clear hfull hm
          go_wp2
          go_region
          go_upto_region 14 with (fail)
          generalize hwd : World.drew wb = wd
          have hbd : Below wb.heap.size wb wd := by rw [← hwd]; exact (Below.refl _ _).drew
          have HBd := Lib.hid (And.intro (below_two HB.out.1 hbd) (HB.out.2.bel hbd))
          have HDd := Lib.hid (HDb.out.bel hbd)
          have HRd := Lib.hid ((HR.out.bel HB.out.1).bel hbd)
          have s1 : wd.cell? ⟨db, 1, none⟩ = some (.slice va D.length vc) := HDd.out.box.cell 1
          have x0 : wd.cell? ⟨w.heap.size, 0, none⟩ = some (.int .i64 r) := HBd.out.2.cell 0
          have x1 : wd.cell? ⟨w.heap.size, 1, none⟩ = some (.int .i64 l) := HBd.out.2.cell 1
          have x2 : wd.cell? ⟨w.heap.size, 2, none⟩ = some (.int .i64 p) := HBd.out.2.cell 2
          clear hwd hbd HB HDb s0
          have HLN : Hid (D.length < room ∧ room ≤ 1048576) := Lib.hid ⟨by have := HFL.out; omega, HRM.out.2⟩
          refine wp_region_noPanic ?_
          refine wp_region_Z (S := (fun W => W.cell? ⟨db, 1, none⟩ = some (.slice va D.length vc) ∧ W.cell? ⟨w.heap.size, 0, none⟩ = some (.int .i64 r) ∧ W.cell? ⟨w.heap.size, 1, none⟩ = some (.int .i64 l) ∧ W.cell? ⟨w.heap.size, 2, none⟩ = some (.int .i64 p))) 17 (by kernel_rfl) ?_ (fun hHeld => ?_)
          · (first | go_keep | (go_split_ands; refine ⟨?_, ?_, ?_, ?_⟩ <;> assumption))
          refine wpAnyZ_take (i := 0) (oi := ⟨some 81, _, _, _, _, _⟩) (v := ?_) rfl (by kernel_rfl) (by kernel_rfl) (by kernel_rfl) (by kernel_rfl) (fun _ _ _ h => h) (Or.inl ⟨by rfl, ?hy1⟩) hHeld ?rest1
          case hy1 => (intro W hSw; (try dsimp only at hSw); go_simp; (try with_reducible rfl))
          simp only [Act.put, List.setIfInBounds_toArray, List.set_cons_zero, List.set_cons_succ]
          refine wpAnyZ_take (i := 1) (oi := ⟨some 82, _, _, _, _, _⟩) (v := ?_) rfl (by kernel_rfl) (by kernel_rfl) (by kernel_rfl) (by kernel_rfl) (fun _ _ _ h => h) (Or.inl ⟨by rfl, ?hy2⟩) hHeld ?rest2
          case hy2 => (intro W hSw; (try dsimp only at hSw); go_simp; (try with_reducible rfl))
          simp only [Act.put, List.setIfInBounds_toArray, List.set_cons_zero, List.set_cons_succ]
          refine wpAnyZ_take (i := 2) (oi := ⟨some 83, _, _, _, _, _⟩) (v := ?_) rfl (by kernel_rfl) (by kernel_rfl) (by kernel_rfl) (by kernel_rfl) (fun _ _ _ h => h) (Or.inl ⟨by rfl, ?hy3⟩) hHeld ?rest3
          case hy3 => (intro W hSw; (try dsimp only at hSw); go_simp; (try with_reducible rfl))
          simp only [Act.put, List.setIfInBounds_toArray, List.set_cons_zero, List.set_cons_succ]
          refine wpAnyZ_take (i := 3) (oi := ⟨some 84, _, _, _, _, _⟩) (v := ?_) rfl (by kernel_rfl) (by kernel_rfl) (by kernel_rfl) (by kernel_rfl) (fun _ _ _ h => h) (Or.inl ⟨by rfl, ?hy4⟩) hHeld ?rest4
          case hy4 => (intro W hSw; (try dsimp only at hSw); go_simp; (try with_reducible rfl))
          simp only [Act.put, List.setIfInBounds_toArray, List.set_cons_zero, List.set_cons_succ]
          refine wpAnyZ_take (i := 4) (oi := ⟨some 85, _, _, _, _, _⟩) (v := ?_) rfl (by kernel_rfl) (by kernel_rfl) (by kernel_rfl) (by kernel_rfl) (fun _ _ _ h => h) (Or.inl ⟨by rfl, ?hy5⟩) hHeld ?rest5
          case hy5 => (intro W hSw; (try dsimp only at hSw); go_simp; (try with_reducible rfl))
          simp only [Act.put, List.setIfInBounds_toArray, List.set_cons_zero, List.set_cons_succ]
          refine wpAnyZ_take (i := 5) (oi := ⟨some 86, _, _, _, _, _⟩) (v := ?_) rfl (by kernel_rfl) (by kernel_rfl) (by kernel_rfl) (by kernel_rfl) (fun _ _ _ h => h) (Or.inl ⟨by rfl, ?hy6⟩) hHeld ?rest6
          case hy6 => (intro W hSw; (try dsimp only at hSw); go_simp; (try with_reducible rfl))
          simp only [Act.put, List.setIfInBounds_toArray, List.set_cons_zero, List.set_cons_succ]
          refine wpAnyZ_take (i := 7) (oi := ⟨some 88, _, _, _, _, _⟩) (v := ?_) rfl (by kernel_rfl) (by kernel_rfl) (by kernel_rfl) (by kernel_rfl) (fun _ _ _ h => h) (Or.inl ⟨by rfl, ?hy7⟩) hHeld ?rest7
          case hy7 => (intro W hSw; (try dsimp only at hSw); go_simp; (try with_reducible rfl))
          simp only [Act.put, List.setIfInBounds_toArray, List.set_cons_zero, List.set_cons_succ]
          refine wpAnyZ_take (i := 10) (oi := ⟨some 91, _, _, _, _, _⟩) (v := ?_) rfl (by kernel_rfl) (by kernel_rfl) (by kernel_rfl) (by kernel_rfl) (fun _ _ _ h => h) (Or.inl ⟨by rfl, ?hy8⟩) hHeld ?rest8
          case hy8 => (intro W hSw; (try dsimp only at hSw); go_simp; (try with_reducible rfl))
          simp only [Act.put, List.setIfInBounds_toArray, List.set_cons_zero, List.set_cons_succ]
          refine wpAnyZ_ready (rs := [6, 9]) (by kernel_rfl) (by simp) ?_
          refine (AllReadyZ.cons (o := ⟨some 87, _, _, _, _, _⟩) rfl (fun K hK => ?_) (AllReadyZ.cons (o := ⟨some 90, _, _, _, _, _⟩) rfl (fun K hK => ?_) AllReadyZ.nil))
          · go_simp
            refine hK.out _ _ ?_ (fun hNew => ?_)
            · ((try dsimp only); (first | go_keep | (go_split_ands; refine ⟨?_, ?_, ?_, ?_⟩ <;> assumption)))
            clear hK K hHeld
            have hHeld := hNew
            clear hNew
            try simp only [Act.put, List.setIfInBounds_toArray, List.set_cons_zero, List.set_cons_succ]
            refine wpAnyZ_ready (rs := [8, 9]) (by kernel_rfl) (by simp) ?_
            refine (AllReadyZ.cons (o := ⟨some 89, _, _, _, _, _⟩) rfl (fun K hK => ?_) (AllReadyZ.cons (o := ⟨some 90, _, _, _, _, _⟩) rfl (fun K hK => ?_) AllReadyZ.nil))
            · refine step_append_lit2 rfl (.tmp 87) (.tmp 88) 34 rfl rfl .i8 39 1 (by omega) Try.underlying34 info_i8 wd k HRd.out.1 HRd.out.2.2.2.2.1 _ rfl rfl ?_ ?_ ?_ ?_
              · (first
                | exact Box.drew (box_new _ _ _)
                | exact Box.drew (Box.alloc (box_new _ _ _) _)
                | exact Box.drew (box_at (World.size_alloc _ _).symm _ _)
                | exact box_new _ _ _
                | exact HX2.out _ (Box.drew (box_new _ _ _))
                | exact HX2.out _ (Box.drew (Box.alloc (box_new _ _ _) _))
                | exact HX2.out _ (Box.drew (box_at (World.size_alloc _ _).symm _ _)))
              · (first
                | exact ((Below.refl _ _).alloc (Nat.le_refl _) _).drew
                | exact (((Below.refl _ _).alloc (Nat.le_refl _) _).alloc (by simp) _).drew
                | exact HB2.out
                | exact HB2.out.alloc HB2.out.size _)
              · (first
                | exact Nat.le_refl _
                | exact Nat.le_succ _
                | exact HB2.out.size)
              intro g w1 hL hb1 ha1
              have HB1 := Lib.hid hb1
              have HA1 := Lib.hid ha1
              have HX1 : Hid (∀ b, Box _ b 39 #[] → Box w1 b 39 #[]) := Lib.hid (fun b h => h.bel hL.2.2.2.2.1)
              have HL1 := Lib.hid (And.intro hL.1 (And.intro hL.2.1 hL.2.2.1))
              have HK1 : Hid (∀ q : Rw, q.In .i8 _ → q.In .i8 w1) := Lib.hid (fun q h => h.below hL.2.2.2.2.1)
              have v1 : w1.cell? ⟨db, 1, none⟩ = some (.slice va D.length vc) := (HDd.out.bel hb1).box.cell 1
              have v2 : w1.cell? ⟨w.heap.size, 0, none⟩ = some (.int .i64 r) := (HBd.out.2.bel hb1).cell 0
              have v3 : w1.cell? ⟨w.heap.size, 1, none⟩ = some (.int .i64 l) := (HBd.out.2.bel hb1).cell 1
              have v4 : w1.cell? ⟨w.heap.size, 2, none⟩ = some (.int .i64 p) := (HBd.out.2.bel hb1).cell 2
              clear hL hb1 ha1
              refine hK.out _ _ ?_ (fun hNew => ?_)
              · ((try dsimp only); (first | go_keep | (go_split_ands; refine ⟨?_, ?_, ?_, ?_⟩ <;> assumption)))
              clear hK K hHeld
              have hHeld := hNew
              clear hNew
              try simp only [Act.put, List.setIfInBounds_toArray, List.set_cons_zero, List.set_cons_succ]
              refine wpAnyZ_ready (rs := [9]) (by kernel_rfl) (by simp) ?_
              refine (AllReadyZ.cons (o := ⟨some 90, _, _, _, _, _⟩) rfl (fun K hK => ?_) AllReadyZ.nil)
              go_simp
              refine hK.out _ _ ?_ (fun hNew => ?_)
              · ((try dsimp only); (first | go_keep | (go_split_ands; refine ⟨?_, ?_, ?_, ?_⟩ <;> assumption)))
              clear hK K hHeld
              have hHeld := hNew
              clear hNew
              try simp only [Act.put, List.setIfInBounds_toArray, List.set_cons_zero, List.set_cons_succ]
              refine wpAnyZ_ready (rs := [11]) (by kernel_rfl) (by simp) ?_
              refine (AllReadyZ.cons (o := ⟨some 92, _, _, _, _, _⟩) rfl (fun K hK => ?_) AllReadyZ.nil)
              refine step_append_lit2 rfl (.tmp 90) (.tmp 91) 34 rfl rfl .i8 39 1 (by omega) Try.underlying34 info_i8 wd q HRd.out.2.1 HRd.out.2.2.2.2.2 _ rfl rfl ?_ ?_ ?_ ?_
              · (first
                | exact Box.drew (box_new _ _ _)
                | exact Box.drew (Box.alloc (box_new _ _ _) _)
                | exact Box.drew (box_at (World.size_alloc _ _).symm _ _)
                | exact box_new _ _ _
                | exact HX1.out _ (Box.drew (box_new _ _ _))
                | exact HX1.out _ (Box.drew (Box.alloc (box_new _ _ _) _))
                | exact HX1.out _ (Box.drew (box_at (World.size_alloc _ _).symm _ _)))
              · (first
                | exact ((Below.refl _ _).alloc (Nat.le_refl _) _).drew
                | exact (((Below.refl _ _).alloc (Nat.le_refl _) _).alloc (by simp) _).drew
                | exact HB1.out
                | exact HB1.out.alloc HB1.out.size _)
              · (first
                | exact Nat.le_refl _
                | exact Nat.le_succ _
                | exact HB1.out.size)
              intro h w2 hL hb2 ha2
              have HB2 := Lib.hid hb2
              have HA2 := Lib.hid ha2
              have HX2 : Hid (∀ b, Box _ b 39 #[] → Box w2 b 39 #[]) := Lib.hid (fun b h => h.bel hL.2.2.2.2.1)
              have HL2 := Lib.hid (And.intro hL.1 (And.intro hL.2.1 hL.2.2.1))
              have HK2 : Hid (∀ q : Rw, q.In .i8 _ → q.In .i8 w2) := Lib.hid (fun q h => h.below hL.2.2.2.2.1)
              have v1 : w2.cell? ⟨db, 1, none⟩ = some (.slice va D.length vc) := (HDd.out.bel hb2).box.cell 1
              have v2 : w2.cell? ⟨w.heap.size, 0, none⟩ = some (.int .i64 r) := (HBd.out.2.bel hb2).cell 0
              have v3 : w2.cell? ⟨w.heap.size, 1, none⟩ = some (.int .i64 l) := (HBd.out.2.bel hb2).cell 1
              have v4 : w2.cell? ⟨w.heap.size, 2, none⟩ = some (.int .i64 p) := (HBd.out.2.bel hb2).cell 2
              clear hL hb2 ha2
              have HRL : Hid (RowsE w2 ⟨r, l, p, K0, V⟩ g h) := Lib.hid (by
                have h1 := HL1.out
                have h2 := HL2.out
                have h3 := HRd.out
                exact ⟨(by first | exact HK2.out _ h1.1 | exact HK2.out _ (h1.1.below ((Below.refl _ _).alloc (Nat.le_refl _) _))), h2.1, h1.2.1.trans h3.2.2.1, h2.2.1.trans h3.2.2.2.1, by rw [h1.2.2]; exact h3.2.2.2.2.1, by rw [h2.2.2]; exact h3.2.2.2.2.2⟩)
              obtain ⟨gr, cap, w3, hrun, hN⟩ := dput_row (HDd.out.bel HB2.out) (by have := HLN.out; omega) ⟨⟨r, l, p, K0, V⟩, g, h⟩ HRL.out
              have HN := Lib.hid hN
              have HWZ := Lib.hid HB2.out
              have t1 : w3.cell? ⟨db, 1, none⟩ = some (.slice va D.length vc) := hN.1.cell 1
              have tf : w3.frozen? ⟨db, 1, none⟩ = false := hN.1.frozen 1
              have hq3 := hN.2.1 _ _ _ (HBd.out.2.bel HB2.out) (by decide)
              have t2 : w3.cell? ⟨w.heap.size, 0, none⟩ = some (.int .i64 r) := hq3.cell 0
              have t3 : w3.cell? ⟨w.heap.size, 1, none⟩ = some (.int .i64 l) := hq3.cell 1
              have t4 : w3.cell? ⟨w.heap.size, 2, none⟩ = some (.int .i64 p) := hq3.cell 2
              clear hN hq3
              refine hK.out _ _ ?_ (fun hNew => ?_)
              · ((try dsimp only); (first | go_keep | (go_split_ands; refine ⟨?_, ?_, ?_, ?_⟩ <;> assumption)))
              clear hK K hHeld
              have hHeld := hNew
              clear hNew
              try simp only [Act.put, List.setIfInBounds_toArray, List.set_cons_zero, List.set_cons_succ]
              refine wpAnyZ_take (i := 12) (oi := ⟨some 93, _, _, _, _, _⟩) (v := ?_) rfl (by kernel_rfl) (by kernel_rfl) (by kernel_rfl) (by kernel_rfl) (fun _ _ _ h => h) (Or.inl ⟨by rfl, ?hy9⟩) hHeld ?rest9
              case hy9 => (intro W hSw; (try dsimp only at hSw); go_simp; (try with_reducible rfl))
              simp only [Act.put, List.setIfInBounds_toArray, List.set_cons_zero, List.set_cons_succ]
              refine wpAnyZ_ready (rs := [13]) (by kernel_rfl) (by simp) ?_
              refine (AllReadyZ.cons (o := ⟨some 94, _, _, _, _, _⟩) rfl (fun K hK => ?_) AllReadyZ.nil)
              go_simp
              refine hK.out _ _ ?_ (fun hNew => ?_)
              · ((try dsimp only); (first | go_keep | (go_split_ands; refine ⟨?_, ?_, ?_, ?_⟩ <;> assumption)))
              clear hK K hHeld
              have hHeld := hNew
              clear hNew
              try simp only [Act.put, List.setIfInBounds_toArray, List.set_cons_zero, List.set_cons_succ]
              refine wpAnyZ_ready (rs := [14]) (by kernel_rfl) (by simp) ?_
              refine (AllReadyZ.cons (o := ⟨some 95, _, _, _, _, _⟩) rfl (fun K hK => ?_) AllReadyZ.nil)
              ((with_reducible refine step_append_run ?_ (.tmp 85) (.tmp 94) 29 ?_ _ _ ?_ ?_ hrun ?_); rfl; rfl; rfl; rfl)
              refine hK.out _ _ ?_ (fun hNew => ?_)
              · ((try dsimp only); (first | go_keep | (go_split_ands; refine ⟨?_, ?_, ?_, ?_⟩ <;> assumption)))
              clear hK K hHeld
              have hHeld := hNew
              clear hNew
              try simp only [Act.put, List.setIfInBounds_toArray, List.set_cons_zero, List.set_cons_succ]
              refine wpAnyZ_ready (rs := [15]) (by kernel_rfl) (by simp) ?_
              refine (AllReadyZ.cons (o := ⟨some 96, _, _, _, _, _⟩) rfl (fun K hK => ?_) AllReadyZ.nil)
              go_simp
              refine hK.out _ _ ?_ (fun hNew => ?_)
              · ((try dsimp only); (first | go_keep | (go_split_ands; refine ⟨?_, ?_, ?_, ?_⟩ <;> assumption)))
              clear hK K hHeld
              have hHeld := hNew
              clear hNew
              try simp only [Act.put, List.setIfInBounds_toArray, List.set_cons_zero, List.set_cons_succ]
              refine wpAnyZ_take (i := 16) (oi := ⟨some 97, _, _, _, _, _⟩) (v := ?_) rfl (by kernel_rfl) (by kernel_rfl) (by kernel_rfl) (by kernel_rfl) (fun _ _ _ h => h) (Or.inl ⟨by rfl, ?hy10⟩) hHeld ?rest10
              case hy10 => (intro W hSw; (try dsimp only at hSw); go_simp; (try with_reducible rfl))
              simp only [Act.put, List.setIfInBounds_toArray, List.set_cons_zero, List.set_cons_succ]
              refine wpAnyZ_ready (rs := [17]) (by kernel_rfl) (by simp) ?_
              refine AllReadyZ.last (o := ⟨none, _, _, _, _, _⟩) rfl (fun K hK => ?_) AllReadyZ.nil
              go_simp
              refine hK.out _ _ ?_
              clear hK K hHeld
              try simp only [Act.put, List.setIfInBounds_toArray, List.set_cons_zero, List.set_cons_succ]
              refine wpAnyZ_done (by kernel_rfl) ?_ _
              refine NoPanic.normal ?_
              have HOUT : Hid (DPutR room base db D ⟨r, l, p, K0, V⟩ w _) := Lib.hid (dput_fin HM2.out HBd.out.1 HD.out HWZ.out HN.out HA1.out HA2.out)
              clear hrun
              go_wp2_with fail
              go_ret
              rw [HM2.out]
              exact ⟨rfl, HOUT.out⟩
            · go_simp
              refine hK.out _ _ ?_ (fun hNew => ?_)
              · ((try dsimp only); (first | go_keep | (go_split_ands; refine ⟨?_, ?_, ?_, ?_⟩ <;> assumption)))
              clear hK K hHeld
              have hHeld := hNew
              clear hNew
              try simp only [Act.put, List.setIfInBounds_toArray, List.set_cons_zero, List.set_cons_succ]
              refine wpAnyZ_ready (rs := [8]) (by kernel_rfl) (by simp) ?_
              refine (AllReadyZ.cons (o := ⟨some 89, _, _, _, _, _⟩) rfl (fun K hK => ?_) AllReadyZ.nil)
              refine step_append_lit2 rfl (.tmp 87) (.tmp 88) 34 rfl rfl .i8 39 1 (by omega) Try.underlying34 info_i8 wd k HRd.out.1 HRd.out.2.2.2.2.1 _ rfl rfl ?_ ?_ ?_ ?_
              · (first
                | exact Box.drew (box_new _ _ _)
                | exact Box.drew (Box.alloc (box_new _ _ _) _)
                | exact Box.drew (box_at (World.size_alloc _ _).symm _ _)
                | exact box_new _ _ _
                | exact HX2.out _ (Box.drew (box_new _ _ _))
                | exact HX2.out _ (Box.drew (Box.alloc (box_new _ _ _) _))
                | exact HX2.out _ (Box.drew (box_at (World.size_alloc _ _).symm _ _)))
              · (first
                | exact ((Below.refl _ _).alloc (Nat.le_refl _) _).drew
                | exact (((Below.refl _ _).alloc (Nat.le_refl _) _).alloc (by simp) _).drew
                | exact HB2.out
                | exact HB2.out.alloc HB2.out.size _)
              · (first
                | exact Nat.le_refl _
                | exact Nat.le_succ _
                | exact HB2.out.size)
              intro g w1 hL hb1 ha1
              have HB1 := Lib.hid hb1
              have HA1 := Lib.hid ha1
              have HX1 : Hid (∀ b, Box _ b 39 #[] → Box w1 b 39 #[]) := Lib.hid (fun b h => h.bel hL.2.2.2.2.1)
              have HL1 := Lib.hid (And.intro hL.1 (And.intro hL.2.1 hL.2.2.1))
              have HK1 : Hid (∀ q : Rw, q.In .i8 _ → q.In .i8 w1) := Lib.hid (fun q h => h.below hL.2.2.2.2.1)
              have v1 : w1.cell? ⟨db, 1, none⟩ = some (.slice va D.length vc) := (HDd.out.bel hb1).box.cell 1
              have v2 : w1.cell? ⟨w.heap.size, 0, none⟩ = some (.int .i64 r) := (HBd.out.2.bel hb1).cell 0
              have v3 : w1.cell? ⟨w.heap.size, 1, none⟩ = some (.int .i64 l) := (HBd.out.2.bel hb1).cell 1
              have v4 : w1.cell? ⟨w.heap.size, 2, none⟩ = some (.int .i64 p) := (HBd.out.2.bel hb1).cell 2
              clear hL hb1 ha1
              refine hK.out _ _ ?_ (fun hNew => ?_)
              · ((try dsimp only); (first | go_keep | (go_split_ands; refine ⟨?_, ?_, ?_, ?_⟩ <;> assumption)))
              clear hK K hHeld
              have hHeld := hNew
              clear hNew
              try simp only [Act.put, List.setIfInBounds_toArray, List.set_cons_zero, List.set_cons_succ]
              refine wpAnyZ_ready (rs := [11]) (by kernel_rfl) (by simp) ?_
              refine (AllReadyZ.cons (o := ⟨some 92, _, _, _, _, _⟩) rfl (fun K hK => ?_) AllReadyZ.nil)
              refine step_append_lit2 rfl (.tmp 90) (.tmp 91) 34 rfl rfl .i8 39 1 (by omega) Try.underlying34 info_i8 wd q HRd.out.2.1 HRd.out.2.2.2.2.2 _ rfl rfl ?_ ?_ ?_ ?_
              · (first
                | exact Box.drew (box_new _ _ _)
                | exact Box.drew (Box.alloc (box_new _ _ _) _)
                | exact Box.drew (box_at (World.size_alloc _ _).symm _ _)
                | exact box_new _ _ _
                | exact HX1.out _ (Box.drew (box_new _ _ _))
                | exact HX1.out _ (Box.drew (Box.alloc (box_new _ _ _) _))
                | exact HX1.out _ (Box.drew (box_at (World.size_alloc _ _).symm _ _)))
              · (first
                | exact ((Below.refl _ _).alloc (Nat.le_refl _) _).drew
                | exact (((Below.refl _ _).alloc (Nat.le_refl _) _).alloc (by simp) _).drew
                | exact HB1.out
                | exact HB1.out.alloc HB1.out.size _)
              · (first
                | exact Nat.le_refl _
                | exact Nat.le_succ _
                | exact HB1.out.size)
              intro h w2 hL hb2 ha2
              have HB2 := Lib.hid hb2
              have HA2 := Lib.hid ha2
              have HX2 : Hid (∀ b, Box _ b 39 #[] → Box w2 b 39 #[]) := Lib.hid (fun b h => h.bel hL.2.2.2.2.1)
              have HL2 := Lib.hid (And.intro hL.1 (And.intro hL.2.1 hL.2.2.1))
              have HK2 : Hid (∀ q : Rw, q.In .i8 _ → q.In .i8 w2) := Lib.hid (fun q h => h.below hL.2.2.2.2.1)
              have v1 : w2.cell? ⟨db, 1, none⟩ = some (.slice va D.length vc) := (HDd.out.bel hb2).box.cell 1
              have v2 : w2.cell? ⟨w.heap.size, 0, none⟩ = some (.int .i64 r) := (HBd.out.2.bel hb2).cell 0
              have v3 : w2.cell? ⟨w.heap.size, 1, none⟩ = some (.int .i64 l) := (HBd.out.2.bel hb2).cell 1
              have v4 : w2.cell? ⟨w.heap.size, 2, none⟩ = some (.int .i64 p) := (HBd.out.2.bel hb2).cell 2
              clear hL hb2 ha2
              have HRL : Hid (RowsE w2 ⟨r, l, p, K0, V⟩ g h) := Lib.hid (by
                have h1 := HL1.out
                have h2 := HL2.out
                have h3 := HRd.out
                exact ⟨(by first | exact HK2.out _ h1.1 | exact HK2.out _ (h1.1.below ((Below.refl _ _).alloc (Nat.le_refl _) _))), h2.1, h1.2.1.trans h3.2.2.1, h2.2.1.trans h3.2.2.2.1, by rw [h1.2.2]; exact h3.2.2.2.2.1, by rw [h2.2.2]; exact h3.2.2.2.2.2⟩)
              obtain ⟨gr, cap, w3, hrun, hN⟩ := dput_row (HDd.out.bel HB2.out) (by have := HLN.out; omega) ⟨⟨r, l, p, K0, V⟩, g, h⟩ HRL.out
              have HN := Lib.hid hN
              have HWZ := Lib.hid HB2.out
              have t1 : w3.cell? ⟨db, 1, none⟩ = some (.slice va D.length vc) := hN.1.cell 1
              have tf : w3.frozen? ⟨db, 1, none⟩ = false := hN.1.frozen 1
              have hq3 := hN.2.1 _ _ _ (HBd.out.2.bel HB2.out) (by decide)
              have t2 : w3.cell? ⟨w.heap.size, 0, none⟩ = some (.int .i64 r) := hq3.cell 0
              have t3 : w3.cell? ⟨w.heap.size, 1, none⟩ = some (.int .i64 l) := hq3.cell 1
              have t4 : w3.cell? ⟨w.heap.size, 2, none⟩ = some (.int .i64 p) := hq3.cell 2
              clear hN hq3
              refine hK.out _ _ ?_ (fun hNew => ?_)
              · ((try dsimp only); (first | go_keep | (go_split_ands; refine ⟨?_, ?_, ?_, ?_⟩ <;> assumption)))
              clear hK K hHeld
              have hHeld := hNew
              clear hNew
              try simp only [Act.put, List.setIfInBounds_toArray, List.set_cons_zero, List.set_cons_succ]
              refine wpAnyZ_take (i := 12) (oi := ⟨some 93, _, _, _, _, _⟩) (v := ?_) rfl (by kernel_rfl) (by kernel_rfl) (by kernel_rfl) (by kernel_rfl) (fun _ _ _ h => h) (Or.inl ⟨by rfl, ?hy11⟩) hHeld ?rest11
              case hy11 => (intro W hSw; (try dsimp only at hSw); go_simp; (try with_reducible rfl))
              simp only [Act.put, List.setIfInBounds_toArray, List.set_cons_zero, List.set_cons_succ]
              refine wpAnyZ_ready (rs := [13]) (by kernel_rfl) (by simp) ?_
              refine (AllReadyZ.cons (o := ⟨some 94, _, _, _, _, _⟩) rfl (fun K hK => ?_) AllReadyZ.nil)
              go_simp
              refine hK.out _ _ ?_ (fun hNew => ?_)
              · ((try dsimp only); (first | go_keep | (go_split_ands; refine ⟨?_, ?_, ?_, ?_⟩ <;> assumption)))
              clear hK K hHeld
              have hHeld := hNew
              clear hNew
              try simp only [Act.put, List.setIfInBounds_toArray, List.set_cons_zero, List.set_cons_succ]
              refine wpAnyZ_ready (rs := [14]) (by kernel_rfl) (by simp) ?_
              refine (AllReadyZ.cons (o := ⟨some 95, _, _, _, _, _⟩) rfl (fun K hK => ?_) AllReadyZ.nil)
              ((with_reducible refine step_append_run ?_ (.tmp 85) (.tmp 94) 29 ?_ _ _ ?_ ?_ hrun ?_); rfl; rfl; rfl; rfl)
              refine hK.out _ _ ?_ (fun hNew => ?_)
              · ((try dsimp only); (first | go_keep | (go_split_ands; refine ⟨?_, ?_, ?_, ?_⟩ <;> assumption)))
              clear hK K hHeld
              have hHeld := hNew
              clear hNew
              try simp only [Act.put, List.setIfInBounds_toArray, List.set_cons_zero, List.set_cons_succ]
              refine wpAnyZ_ready (rs := [15]) (by kernel_rfl) (by simp) ?_
              refine (AllReadyZ.cons (o := ⟨some 96, _, _, _, _, _⟩) rfl (fun K hK => ?_) AllReadyZ.nil)
              go_simp
              refine hK.out _ _ ?_ (fun hNew => ?_)
              · ((try dsimp only); (first | go_keep | (go_split_ands; refine ⟨?_, ?_, ?_, ?_⟩ <;> assumption)))
              clear hK K hHeld
              have hHeld := hNew
              clear hNew
              try simp only [Act.put, List.setIfInBounds_toArray, List.set_cons_zero, List.set_cons_succ]
              refine wpAnyZ_take (i := 16) (oi := ⟨some 97, _, _, _, _, _⟩) (v := ?_) rfl (by kernel_rfl) (by kernel_rfl) (by kernel_rfl) (by kernel_rfl) (fun _ _ _ h => h) (Or.inl ⟨by rfl, ?hy12⟩) hHeld ?rest12
              case hy12 => (intro W hSw; (try dsimp only at hSw); go_simp; (try with_reducible rfl))
              simp only [Act.put, List.setIfInBounds_toArray, List.set_cons_zero, List.set_cons_succ]
              refine wpAnyZ_ready (rs := [17]) (by kernel_rfl) (by simp) ?_
              refine AllReadyZ.last (o := ⟨none, _, _, _, _, _⟩) rfl (fun K hK => ?_) AllReadyZ.nil
              go_simp
              refine hK.out _ _ ?_
              clear hK K hHeld
              try simp only [Act.put, List.setIfInBounds_toArray, List.set_cons_zero, List.set_cons_succ]
              refine wpAnyZ_done (by kernel_rfl) ?_ _
              refine NoPanic.normal ?_
              have HOUT : Hid (DPutR room base db D ⟨r, l, p, K0, V⟩ w _) := Lib.hid (dput_fin HM2.out HBd.out.1 HD.out HWZ.out HN.out HA1.out HA2.out)
              clear hrun
              go_wp2_with fail
              go_ret
              rw [HM2.out]
              exact ⟨rfl, HOUT.out⟩
          · go_simp
            refine hK.out _ _ ?_ (fun hNew => ?_)
            · ((try dsimp only); (first | go_keep | (go_split_ands; refine ⟨?_, ?_, ?_, ?_⟩ <;> assumption)))
            clear hK K hHeld
            have hHeld := hNew
            clear hNew
            try simp only [Act.put, List.setIfInBounds_toArray, List.set_cons_zero, List.set_cons_succ]
            refine wpAnyZ_ready (rs := [6]) (by kernel_rfl) (by simp) ?_
            refine (AllReadyZ.cons (o := ⟨some 87, _, _, _, _, _⟩) rfl (fun K hK => ?_) AllReadyZ.nil)
            go_simp
            refine hK.out _ _ ?_ (fun hNew => ?_)
            · ((try dsimp only); (first | go_keep | (go_split_ands; refine ⟨?_, ?_, ?_, ?_⟩ <;> assumption)))
            clear hK K hHeld
            have hHeld := hNew
            clear hNew
            try simp only [Act.put, List.setIfInBounds_toArray, List.set_cons_zero, List.set_cons_succ]
            refine wpAnyZ_ready (rs := [8]) (by kernel_rfl) (by simp) ?_
            refine (AllReadyZ.cons (o := ⟨some 89, _, _, _, _, _⟩) rfl (fun K hK => ?_) AllReadyZ.nil)
            refine step_append_lit2 rfl (.tmp 87) (.tmp 88) 34 rfl rfl .i8 39 1 (by omega) Try.underlying34 info_i8 wd k HRd.out.1 HRd.out.2.2.2.2.1 _ rfl rfl ?_ ?_ ?_ ?_
            · (first
              | exact Box.drew (box_new _ _ _)
              | exact Box.drew (Box.alloc (box_new _ _ _) _)
              | exact Box.drew (box_at (World.size_alloc _ _).symm _ _)
              | exact box_new _ _ _
              | exact HX2.out _ (Box.drew (box_new _ _ _))
              | exact HX2.out _ (Box.drew (Box.alloc (box_new _ _ _) _))
              | exact HX2.out _ (Box.drew (box_at (World.size_alloc _ _).symm _ _)))
            · (first
              | exact ((Below.refl _ _).alloc (Nat.le_refl _) _).drew
              | exact (((Below.refl _ _).alloc (Nat.le_refl _) _).alloc (by simp) _).drew
              | exact HB2.out
              | exact HB2.out.alloc HB2.out.size _)
            · (first
              | exact Nat.le_refl _
              | exact Nat.le_succ _
              | exact HB2.out.size)
            intro g w1 hL hb1 ha1
            have HB1 := Lib.hid hb1
            have HA1 := Lib.hid ha1
            have HX1 : Hid (∀ b, Box _ b 39 #[] → Box w1 b 39 #[]) := Lib.hid (fun b h => h.bel hL.2.2.2.2.1)
            have HL1 := Lib.hid (And.intro hL.1 (And.intro hL.2.1 hL.2.2.1))
            have HK1 : Hid (∀ q : Rw, q.In .i8 _ → q.In .i8 w1) := Lib.hid (fun q h => h.below hL.2.2.2.2.1)
            have v1 : w1.cell? ⟨db, 1, none⟩ = some (.slice va D.length vc) := (HDd.out.bel hb1).box.cell 1
            have v2 : w1.cell? ⟨w.heap.size, 0, none⟩ = some (.int .i64 r) := (HBd.out.2.bel hb1).cell 0
            have v3 : w1.cell? ⟨w.heap.size, 1, none⟩ = some (.int .i64 l) := (HBd.out.2.bel hb1).cell 1
            have v4 : w1.cell? ⟨w.heap.size, 2, none⟩ = some (.int .i64 p) := (HBd.out.2.bel hb1).cell 2
            clear hL hb1 ha1
            refine hK.out _ _ ?_ (fun hNew => ?_)
            · ((try dsimp only); (first | go_keep | (go_split_ands; refine ⟨?_, ?_, ?_, ?_⟩ <;> assumption)))
            clear hK K hHeld
            have hHeld := hNew
            clear hNew
            try simp only [Act.put, List.setIfInBounds_toArray, List.set_cons_zero, List.set_cons_succ]
            refine wpAnyZ_ready (rs := [11]) (by kernel_rfl) (by simp) ?_
            refine (AllReadyZ.cons (o := ⟨some 92, _, _, _, _, _⟩) rfl (fun K hK => ?_) AllReadyZ.nil)
            refine step_append_lit2 rfl (.tmp 90) (.tmp 91) 34 rfl rfl .i8 39 1 (by omega) Try.underlying34 info_i8 wd q HRd.out.2.1 HRd.out.2.2.2.2.2 _ rfl rfl ?_ ?_ ?_ ?_
            · (first
              | exact Box.drew (box_new _ _ _)
              | exact Box.drew (Box.alloc (box_new _ _ _) _)
              | exact Box.drew (box_at (World.size_alloc _ _).symm _ _)
              | exact box_new _ _ _
              | exact HX1.out _ (Box.drew (box_new _ _ _))
              | exact HX1.out _ (Box.drew (Box.alloc (box_new _ _ _) _))
              | exact HX1.out _ (Box.drew (box_at (World.size_alloc _ _).symm _ _)))
            · (first
              | exact ((Below.refl _ _).alloc (Nat.le_refl _) _).drew
              | exact (((Below.refl _ _).alloc (Nat.le_refl _) _).alloc (by simp) _).drew
              | exact HB1.out
              | exact HB1.out.alloc HB1.out.size _)
            · (first
              | exact Nat.le_refl _
              | exact Nat.le_succ _
              | exact HB1.out.size)
            intro h w2 hL hb2 ha2
            have HB2 := Lib.hid hb2
            have HA2 := Lib.hid ha2
            have HX2 : Hid (∀ b, Box _ b 39 #[] → Box w2 b 39 #[]) := Lib.hid (fun b h => h.bel hL.2.2.2.2.1)
            have HL2 := Lib.hid (And.intro hL.1 (And.intro hL.2.1 hL.2.2.1))
            have HK2 : Hid (∀ q : Rw, q.In .i8 _ → q.In .i8 w2) := Lib.hid (fun q h => h.below hL.2.2.2.2.1)
            have v1 : w2.cell? ⟨db, 1, none⟩ = some (.slice va D.length vc) := (HDd.out.bel hb2).box.cell 1
            have v2 : w2.cell? ⟨w.heap.size, 0, none⟩ = some (.int .i64 r) := (HBd.out.2.bel hb2).cell 0
            have v3 : w2.cell? ⟨w.heap.size, 1, none⟩ = some (.int .i64 l) := (HBd.out.2.bel hb2).cell 1
            have v4 : w2.cell? ⟨w.heap.size, 2, none⟩ = some (.int .i64 p) := (HBd.out.2.bel hb2).cell 2
            clear hL hb2 ha2
            have HRL : Hid (RowsE w2 ⟨r, l, p, K0, V⟩ g h) := Lib.hid (by
              have h1 := HL1.out
              have h2 := HL2.out
              have h3 := HRd.out
              exact ⟨(by first | exact HK2.out _ h1.1 | exact HK2.out _ (h1.1.below ((Below.refl _ _).alloc (Nat.le_refl _) _))), h2.1, h1.2.1.trans h3.2.2.1, h2.2.1.trans h3.2.2.2.1, by rw [h1.2.2]; exact h3.2.2.2.2.1, by rw [h2.2.2]; exact h3.2.2.2.2.2⟩)
            obtain ⟨gr, cap, w3, hrun, hN⟩ := dput_row (HDd.out.bel HB2.out) (by have := HLN.out; omega) ⟨⟨r, l, p, K0, V⟩, g, h⟩ HRL.out
            have HN := Lib.hid hN
            have HWZ := Lib.hid HB2.out
            have t1 : w3.cell? ⟨db, 1, none⟩ = some (.slice va D.length vc) := hN.1.cell 1
            have tf : w3.frozen? ⟨db, 1, none⟩ = false := hN.1.frozen 1
            have hq3 := hN.2.1 _ _ _ (HBd.out.2.bel HB2.out) (by decide)
            have t2 : w3.cell? ⟨w.heap.size, 0, none⟩ = some (.int .i64 r) := hq3.cell 0
            have t3 : w3.cell? ⟨w.heap.size, 1, none⟩ = some (.int .i64 l) := hq3.cell 1
            have t4 : w3.cell? ⟨w.heap.size, 2, none⟩ = some (.int .i64 p) := hq3.cell 2
            clear hN hq3
            refine hK.out _ _ ?_ (fun hNew => ?_)
            · ((try dsimp only); (first | go_keep | (go_split_ands; refine ⟨?_, ?_, ?_, ?_⟩ <;> assumption)))
            clear hK K hHeld
            have hHeld := hNew
            clear hNew
            try simp only [Act.put, List.setIfInBounds_toArray, List.set_cons_zero, List.set_cons_succ]
            refine wpAnyZ_take (i := 12) (oi := ⟨some 93, _, _, _, _, _⟩) (v := ?_) rfl (by kernel_rfl) (by kernel_rfl) (by kernel_rfl) (by kernel_rfl) (fun _ _ _ h => h) (Or.inl ⟨by rfl, ?hy13⟩) hHeld ?rest13
            case hy13 => (intro W hSw; (try dsimp only at hSw); go_simp; (try with_reducible rfl))
            simp only [Act.put, List.setIfInBounds_toArray, List.set_cons_zero, List.set_cons_succ]
            refine wpAnyZ_ready (rs := [13]) (by kernel_rfl) (by simp) ?_
            refine (AllReadyZ.cons (o := ⟨some 94, _, _, _, _, _⟩) rfl (fun K hK => ?_) AllReadyZ.nil)
            go_simp
            refine hK.out _ _ ?_ (fun hNew => ?_)
            · ((try dsimp only); (first | go_keep | (go_split_ands; refine ⟨?_, ?_, ?_, ?_⟩ <;> assumption)))
            clear hK K hHeld
            have hHeld := hNew
            clear hNew
            try simp only [Act.put, List.setIfInBounds_toArray, List.set_cons_zero, List.set_cons_succ]
            refine wpAnyZ_ready (rs := [14]) (by kernel_rfl) (by simp) ?_
            refine (AllReadyZ.cons (o := ⟨some 95, _, _, _, _, _⟩) rfl (fun K hK => ?_) AllReadyZ.nil)
            ((with_reducible refine step_append_run ?_ (.tmp 85) (.tmp 94) 29 ?_ _ _ ?_ ?_ hrun ?_); rfl; rfl; rfl; rfl)
            refine hK.out _ _ ?_ (fun hNew => ?_)
            · ((try dsimp only); (first | go_keep | (go_split_ands; refine ⟨?_, ?_, ?_, ?_⟩ <;> assumption)))
            clear hK K hHeld
            have hHeld := hNew
            clear hNew
            try simp only [Act.put, List.setIfInBounds_toArray, List.set_cons_zero, List.set_cons_succ]
            refine wpAnyZ_ready (rs := [15]) (by kernel_rfl) (by simp) ?_
            refine (AllReadyZ.cons (o := ⟨some 96, _, _, _, _, _⟩) rfl (fun K hK => ?_) AllReadyZ.nil)
            go_simp
            refine hK.out _ _ ?_ (fun hNew => ?_)
            · ((try dsimp only); (first | go_keep | (go_split_ands; refine ⟨?_, ?_, ?_, ?_⟩ <;> assumption)))
            clear hK K hHeld
            have hHeld := hNew
            clear hNew
            try simp only [Act.put, List.setIfInBounds_toArray, List.set_cons_zero, List.set_cons_succ]
            refine wpAnyZ_take (i := 16) (oi := ⟨some 97, _, _, _, _, _⟩) (v := ?_) rfl (by kernel_rfl) (by kernel_rfl) (by kernel_rfl) (by kernel_rfl) (fun _ _ _ h => h) (Or.inl ⟨by rfl, ?hy14⟩) hHeld ?rest14
            case hy14 => (intro W hSw; (try dsimp only at hSw); go_simp; (try with_reducible rfl))
            simp only [Act.put, List.setIfInBounds_toArray, List.set_cons_zero, List.set_cons_succ]
            refine wpAnyZ_ready (rs := [17]) (by kernel_rfl) (by simp) ?_
            refine AllReadyZ.last (o := ⟨none, _, _, _, _, _⟩) rfl (fun K hK => ?_) AllReadyZ.nil
            go_simp
            refine hK.out _ _ ?_
            clear hK K hHeld
            try simp only [Act.put, List.setIfInBounds_toArray, List.set_cons_zero, List.set_cons_succ]
            refine wpAnyZ_done (by kernel_rfl) ?_ _
            refine NoPanic.normal ?_
            have HOUT : Hid (DPutR room base db D ⟨r, l, p, K0, V⟩ w _) := Lib.hid (dput_fin HM2.out HBd.out.1 HD.out HWZ.out HN.out HA1.out HA2.out)
            clear hrun
            go_wp2_with fail
            go_ret
            rw [HM2.out]
            exact ⟨rfl, HOUT.out⟩

end Go.Proofs.Ytolmejaedldeeaa
