import Derived.Test.YtoeihigdndkjeaaGreatDoorP26
import Derived.Test.YtoeihigdndkjeaaGreatDoorJ03
import Derived.Test.YtoeihigdndkjeaaGreatDoorJ05
import Derived.Deep.RegionHeld3
import Derived.Deep.CutRange
/-
  The document's run: a token goes through.
-/
namespace Go.Proofs.YtoeihigdndkjeaaGreatDoor
open Go.RowKit Go.Shelf
set_option linter.unusedVariables false

set_option maxHeartbeats 16000000 in
set_option maxRecDepth 100000 in
theorem one8 (r t p : Nat) (lv : Value) (s : Sz) (ok : s.Ok) (W : Wt7) (K : KF8) (w : World) (h : DocS w r lv s W p K) (hsix : W.l = s.l ∧ W.w = s.w ∧ W.h = s.h ∧ W.i = s.i ∧ W.v = s.v ∧ W.p = s.p) (hwt : wtB s W = true) (ht : t < s.v) (hp : p ≤ 199) :
    Calls Tryz.prog 22 #[.pointer (some ⟨r, 0, none⟩), .int .i64 t] w fun e w' => (∃ a c, e = .returned (.slice a s.v c) ∧ Elems .i32 w' a s.v (outO (W.nums s) (layO (W.nums s) K p t s.l))) ∧ (∃ lv', DocS w' r lv' s W (p + 1) (stepK (W.nums s) K p t) ∧ (lv'.ownBlock = lv.ownBlock ∨ ∃ b, lv'.ownBlock = some b ∧ w.heap.size ≤ b)) ∧ AwayO w w' r lv.ownBlock := by
  have bd := ok.bd
  obtain ⟨⟨e1, e2, e3⟩, ⟨d1, d2, d3⟩, hlast, hbn, hbks⟩ := wtB_yes hwt
  obtain ⟨ps, hl⟩ := h.l
  obtain ⟨la, lc, rfl⟩ := hl.form
  have hbox := h.box
  have hin := h.inn
  have l1 : 1 ≤ s.l := bd.1.1
  have l16 : s.l ≤ 16 := bd.1.2
  have w2 : 2 ≤ s.w := bd.2.2.1.1
  have w128 : s.w ≤ 128 := bd.2.2.1.2
  have v1 : 1 ≤ s.v := bd.2.2.2.2.1.1
  have v512 : s.v ≤ 512 := bd.2.2.2.2.1.2
  have i1 : 1 ≤ s.i := bd.2.2.2.1.1
  have i256 : s.i ≤ 256 := bd.2.2.2.1.2
  have h1 : 1 ≤ s.h := bd.2.1.1
  have h16 : s.h ≤ 16 := bd.2.1.2
  have OK := Lib.hid ok
  have HH := Lib.hid (sz_heads ok)
  obtain ⟨hw, hhw⟩ : ∃ hw, s.w / s.h = hw := ⟨_, rfl⟩
  have HHW := Lib.hid hhw
  rw [hhw] at HH
  have hw2 : 2 ≤ hw := HH.out.2.2.1
  have hw128 : hw ≤ 128 := HH.out.2.2.2
  have HC : Hid (dcells W (.slice la p lc) = #[.int .i64 s.l, .int .i64 s.w, .int .i64 s.h, .int .i64 s.i, .int .i64 s.v, .int .i64 s.p, .int .i64 W.e.r, .int .i64 W.e.c, .slice W.e.a W.e.n W.e.cap, .slice W.ba W.bn W.bcap, .slice W.t.a W.t.n W.t.cap, .int .i64 W.hd.r, .int .i64 W.hd.c, .slice W.hd.a W.hd.n W.hd.cap, .slice la p lc]) := Lib.hid (by
    obtain ⟨e1, e2, e3, e4, e5, e6⟩ := hsix; unfold dcells; rw [e1, e2, e3, e4, e5, e6])
  obtain ⟨Wn, hWn⟩ : ∃ Wn, W.nums s = Wn := ⟨_, rfl⟩
  have HWN := Lib.hid hWn
  have HBN := Lib.hid hbn
  have HBKS := Lib.hid hbks
  have HR := Lib.hid hbox
  have HL := Lib.hid hl
  have HIN := Lib.hid hin
  have HDO := Lib.hid h
  have HE3 := Lib.hid e3
  have HLAST := Lib.hid hlast
  have HD := Lib.hid (And.intro d1 (And.intro d2 d3))
  have HSIX := Lib.hid hsix
  have H6 : Hid (∀ k, k < (#[Value.int .i64 s.l, .int .i64 s.w, .int .i64 s.h, .int .i64 s.i, .int .i64 s.v, .int .i64 s.p] : Array Value).size → w.cell? ⟨r, 0 + k, none⟩ = (#[Value.int .i64 s.l, .int .i64 s.w, .int .i64 s.h, .int .i64 s.i, .int .i64 s.v, .int .i64 s.p] : Array Value)[k]?) := Lib.hid (by
    intro k hk
    have hX := hbox
    rw [HC.out] at hX
    rw [hX.cell, Nat.zero_add]
    match k, hk with
    | 0, _ => rfl
    | 1, _ => rfl
    | 2, _ => rfl
    | 3, _ => rfl
    | 4, _ => rfl
    | 5, _ => rfl)
  rw [hWn]
  clear hwt bd ok e1 e2 e3 d1 d2 d3 hlast hbn hbks hsix hWn h hl hin hhw hbox
  go_enter Tryz.func22, Tryz.ntmps22
  go_upto_region 2 with (first
    | (refine wpList_load_part rfl 45 _ rfl r 0 rfl #[.int .i64 s.l, .int .i64 s.w, .int .i64 s.h, .int .i64 s.i, .int .i64 s.v, .int .i64 s.p] _ H6.out Tryz.underlying45 rfl (by kernel_rfl) ?_)
    | (refine wpList_store_row (o := ⟨none, .store _ _ _, _, _, _, _⟩) rfl 45 _ _ rfl w.heap.size (#[.int .i64 s.l, .int .i64 s.w, .int .i64 s.h, .int .i64 s.i, .int .i64 s.v, .int .i64 s.p]) rfl rfl 45 _ (box_new _ _ _) (by kernel_rfl) rfl (by simp [Value.oneCell']) ?_))
  generalize hwa : World.setRow _ _ _ = wa
  have SB : Box wa w.heap.size 45 #[.int .i64 s.l, .int .i64 s.w, .int .i64 s.h, .int .i64 s.i, .int .i64 s.v, .int .i64 s.p] := by rw [← hwa]; exact (box_new _ _ _).setRow
  have hBa : Below w.heap.size w wa := by rw [← hwa]; exact below_setRow ((Below.refl _ _).alloc (Nat.le_refl _) _) (Nat.le_refl _) (by simp)
  have HBA := Lib.hid hBa
  have HSB := Lib.hid SB
  have y1 : wa.cell? ⟨w.heap.size, 1, none⟩ = some (.int .i64 s.w) := SB.cell 1
  have y2 : wa.cell? ⟨w.heap.size, 2, none⟩ = some (.int .i64 s.h) := SB.cell 2
  have x14 : wa.cell? ⟨r, 14, none⟩ = some (.slice la p lc) := (HR.out.bel hBa).cell 14
  have nzh : ¬ (s.h : Int) = 0 := by omega
  clear hwa hBa SB H6
  go_upto_region 4 with (fail)
  have hdiv : wrap64 ((s.w : Int) / (s.h : Int)) = (hw : Int) := by
    have e : (s.w : Int) / (s.h : Int) = (hw : Int) := by rw [← HHW.out]; push_cast; rfl
    rw [e]; unfold wrap64; omega
  rw [hdiv]
  clear hdiv y1 y2 x14 nzh
  have HE0 := HIN.out.1.1
  rw [HE3.out] at HE0
  have hpos : 0 < s.v * s.w := Nat.mul_pos (by omega) (by omega)
  have hrow : ∀ i, i < s.w → t * s.w + i < s.v * s.w := fun i hi => row_lt ht hi
  have hle : s.v * s.w ≤ 65536 := Nat.le_trans (Nat.mul_le_mul v512 w128) (by decide)
  obtain ⟨eb, eo, hea, hec⟩ := HE0.2.2.2 hpos
  have HEM : Hid (embO Wn t = (rowOf W.e.v s.w t).map (· * 16)) := Lib.hid (by rw [← HWN.out]; rfl)
  have HE0 := Lib.hid HE0
  have HRW := Lib.hid hrow
  have hel : (rowOf W.e.v s.w t).length = s.w := rowOf_length HE0.out.1 ht
  obtain ⟨es, hes⟩ : ∃ es, (rowOf W.e.v s.w t).map (· * 16) = es := ⟨_, rfl⟩
  have HES := Lib.hid hes
  have HELN : Hid (es.length = s.w) := Lib.hid (by rw [← hes, List.length_map]; exact hel)
  rw [hea] at HE0
  clear hes hec hrow hel
  go_wp2_with fail
  go_loopw [8, 9] (fun o i wr => ∃ k : Nat, k ≤ s.w ∧ i = .int .i64 k ∧ Hid (wr.ownsRow wa.heap.size 21 1 o k ((es.take k).map (.int .i32))) ∧ Hid (Below wa.heap.size wa wr)) (fun _ i _ => s.w - (intOf i).toNat)
  case atStart => exact ⟨0, by omega, rfl, Lib.hid (own_nil _ _ _), Lib.hid (Below.refl _ _)⟩
  case round =>
    obtain ⟨k, hk, rfl, ho, hb⟩ := hrel
    have SBr := HSB.out.bel hb.out
    have y1 : wr.cell? ⟨w.heap.size, 1, none⟩ = some (.int .i64 s.w) := SBr.cell 1
    by_cases hlt : k < s.w
    ·
      --<A
      as_aux_lemma =>
        have RBr := (HR.out.bel HBA.out).bel hb.out
        have x8 : wr.cell? ⟨r, 8, none⟩ = some (.slice (some ⟨eb, eo, none⟩) (s.v * s.w) W.e.cap) := by rw [RBr.cell 8, ← hea, ← HE3.out]; rfl
        have hlt2 := HRW.out k hlt
        obtain ⟨b', o', y, he, hc, hy, wy⟩ := ((HE0.out.below HBA.out).below hb.out).at_ hlt2
        cases he
        obtain ⟨q, hq⟩ : ∃ q, q = t * s.w := ⟨_, rfl⟩
        have eq1 : (t : Int) * (s.w : Int) = (q : Int) := by rw [hq]; push_cast; rfl
        obtain ⟨q2, hq2⟩ : ∃ q2, q2 = q + k := ⟨_, rfl⟩
        have eq2 : (q : Int) + (k : Int) = (q2 : Int) := by rw [hq2]; push_cast; rfl
        obtain ⟨len, hlen⟩ : ∃ len, len = s.v * s.w := ⟨_, rfl⟩
        have z0 : (0 : Int) ≤ (q2 : Int) := by omega
        have z1 : (q2 : Int) < (len : Int) := by rw [← hq] at hlt2; omega
        have w1 : IntKind.i64.wrap (q : Int) = (q : Int) := IntWalk.i64_in _ (by omega)
        have w2' : IntKind.i64.wrap (q2 : Int) = (q2 : Int) := IntWalk.i64_in _ (by omega)
        rw [← hq, ← hq2] at hc
        rw [← hlen] at x8
        obtain ⟨yb1, yb2⟩ := wf8 wy
        have v1' : IntKind.i32.wrap y = y := by unfold IntKind.wrap; simp [IntKind.bits, IntKind.signed]; omega
        have v2' : IntKind.i32.wrap (16 * y) = 16 * y := by unfold IntKind.wrap; simp [IntKind.bits, IntKind.signed]; omega
        obtain ⟨g, cap3, w3, hrun0, hown3, hgr3, hlt3'⟩ := run_append_one wr.drew wa.heap.size u8 k (es.take k) (16 * y) ho.out (by omega) (by show wa.heap.size ≤ wr.heap.size; exact hb.out.size)
        have hrun : Sem.run Tryz.prog (Builtin.append_ #[36, 36] 36 #[u8, .slice (some ⟨wr.heap.size, 0, none⟩) 1 1]) ((wr.alloc (.cells #[.int .i32 (16 * y)] 21)).drew) = .ok (.slice (some ⟨g, 0, none⟩) (k + 1) cap3) w3 := hrun0
        have HB3 := Lib.hid ((hb.out.drew).grown hgr3 (by show wa.heap.size ≤ wr.heap.size; exact hb.out.size) (fun j hj => (ho.out.lt j hj).1))
        have HO3 : Hid (w3.ownsRow wa.heap.size 21 1 (.slice (some ⟨g, 0, none⟩) (k + 1) cap3) (k + 1) ((es.take (k + 1)).map (.int .i32))) := Lib.hid (by
          have e : es.take (k + 1) = es.take k ++ [16 * y] := by
            rw [List.take_add_one, List.getElem?_eq_getElem (by rw [HELN.out]; exact hlt)]
            congr 1
            have h9 : es[k]? = some (16 * y) := by
              rw [← HES.out, List.getElem?_map]
              have h8 : (rowOf W.e.v s.w t).getD k 0 = y := by rw [rowOf_at _ _ _ _ hlt, hy.out]
              have h7 : k < (rowOf W.e.v s.w t).length := by rw [rowOf_length HE0.out.1 ht]; exact hlt
              rw [List.getD_eq_getElem?_getD, List.getElem?_eq_getElem h7] at h8
              rw [List.getElem?_eq_getElem h7]
              simp only [Option.getD_some] at h8
              rw [h8, Option.map_some, Int.mul_comm]
            rw [List.getElem?_eq_getElem (by rw [HELN.out]; exact hlt)] at h9
            simpa using h9
          rw [e]
          exact hown3)
        have m1 : w3.cell? ⟨w.heap.size, 1, none⟩ = some (.int .i64 s.w) := (HSB.out.bel HB3.out).cell 1
        have m8 : w3.cell? ⟨r, 8, none⟩ = some (.slice (some ⟨eb, eo, none⟩) len W.e.cap) := by rw [((HR.out.bel HBA.out).bel HB3.out).cell 8, ← hea, hlen, ← HE3.out]; rfl
        have mc : w3.cell? ⟨eb, eo + q2, none⟩ = some (.int .i8 y) := by
          obtain ⟨b', o', y', he, hc', hy', _⟩ := ((HE0.out.below HBA.out).below HB3.out).at_ (HRW.out k hlt)
          cases he
          rw [hq2, hq, hc', ← hy'.out, hy.out]
        clear ho hb hlt2 hy wy hq hq2 hlen hown3 hgr3 hrun0 hlt3' SBr RBr yb1 yb2
        go_wp2_with fail
        go_region_held3 (fun w' => w'.cell? ⟨w.heap.size, 1, none⟩ = some (.int .i64 s.w) ∧ w'.cell? ⟨r, 8, none⟩ = some (.slice (some ⟨eb, eo, none⟩) len W.e.cap) ∧ w'.cell? ⟨eb, eo + q2, none⟩ = some (.int .i8 y))
          (first | go_keep | (go_split_ands; refine ⟨?_, ?_, ?_⟩ <;> assumption))
          (first | ((with_reducible refine step_append_run (o := ⟨some 68, _, _, _, _, _⟩) ?_ (.tmp 50) (.tmp 67) 36 ?_ _ _ ?_ ?_ hrun ?_); rfl; rfl; rfl; rfl))
        clear hrun
        go_wp2
        go_roundw
        case rel => exact ⟨k + 1, by omega, by go_num, HO3, HB3⟩
        case measure => simp [intOf]; omega
      -->A
    · obtain rfl : k = s.w := by omega
      have RBr := (HR.out.bel HBA.out).bel hb.out
      have LAr := (HL.out.bel HBA.out).bel hb.out
      have RT : IsT wr r 53 := ⟨_, _, RBr⟩
      have x14 : wr.cell? ⟨r, 14, none⟩ = some (.slice la p lc) := RBr.cell 14
      have ho2 := ho.out
      rw [List.take_of_length_le (by rw [HELN.out]; exact Nat.le_refl _)] at ho2
      obtain ⟨lb, lcap, w2, hrun, hown2, hsl2, hgr2, hlb⟩ := place_next wr (.slice la p lc) p (lvals ps) LAr.own LAr.sl (by omega)
      have KT : ∀ k, Value.ownBlock (.slice la p lc) = some k → IsT wr k 56 := fun k hk => own_isT LAr.own hk
      have hB2 : ∀ k X, IsT wr k X → X ≠ 56 → w2.heap[k]? = wr.heap[k]? := fun k X hk hX => hgr2.block k hk.lt (fun e => hk.ne (KT k e.symm) hX rfl)
      have RB2 : Box w2 r 53 (dcells W (.slice la p lc)) := (hB2 r _ RT (by decide)).trans RBr
      have m14 : w2.cell? ⟨r, 14, none⟩ = some (.slice la p lc) := RB2.cell 14
      have f14 : w2.frozen? ⟨r, 14, none⟩ = false := RB2.frozen 14
      go_upto_region 10 with (at_builtin; refine wpList_append_at (by rfl) _ _ _ (by rfl) _ _ (by rfl) (by rfl) hrun ?_)
      generalize hw9 : World.setCell _ _ _ = w9
      have hblk9 : ∀ k, k ≠ r → w9.heap[k]? = w2.heap[k]? := fun k hk => by rw [← hw9]; exact Below.heap_setCell w2 ⟨r, 14, none⟩ _ k hk
      have HR9 : Hid (Box w9 r 53 (dcells W (.slice (some ⟨lb, 0, none⟩) (p + 1) lcap))) := Lib.hid (by rw [← hw9]; exact RB2.set 14 _)
      have hsz9 : w9.heap.size = w2.heap.size := by rw [← hw9]; simp
      have hb9 : ∀ k X, IsT wr k X → X ≠ 56 → X ≠ 53 → w9.heap[k]? = wr.heap[k]? := fun k X hk h1 h2 => (hblk9 k (hk.ne RT h2)).trans (hB2 k X hk h1)
      have hBr : Below w.heap.size w wr := HBA.out.trans (hb.out.mono HBA.out.size)
      have HAW9 : Hid (AwayO w w9 r (Value.ownBlock (.slice la p lc))) := Lib.hid (by
        refine ⟨?_, ?_, ?_, ?_, ?_⟩
        · rw [← hw9]; exact hgr2.os.trans hBr.os
        · rw [← hw9]; exact hgr2.tape.trans hBr.tape
        · rw [← hw9]; exact hgr2.output.trans hBr.output
        · rw [hsz9]; exact Nat.le_trans hBr.size hgr2.size
        · intro k hk h1 h2
          exact ((hblk9 k h1).trans (hgr2.block k (Nat.lt_of_lt_of_le hk hBr.size) h2)).trans (hBr.block k hk))
      have HST9 := Lib.hid (HDO.out.stays HR9.out HAW9.out)
      have HRT : IsT w r 53 := ⟨_, _, HR.out⟩
      have HKT : ∀ k, Value.ownBlock (.slice la p lc) = some k → IsT w k 56 := fun k hk => own_isT HL.out.own hk
      have HIN9 : Hid (W.In w9) := Lib.hid (HST9.out.wt HIN.out HAW9.out.size (fun g off ha hn => by
        obtain ⟨q1, q2⟩ := wt_ne HIN.out ha hn
        obtain ⟨_, _, _, ⟨_, _, _, k4⟩, _⟩ := HIN.out
        obtain ⟨g', off', ha', hlt', _⟩ := k4 hn
        rw [ha] at ha'
        cases ha'
        exact HAW9.out.block g hlt' (q2 r _ _ HR.out (by simp [dcells])) (fun e => q1 _ _ (HL.out.sl g e.symm) rfl)))
      have HPL9 : Hid (∀ x ∈ ps, HdT w9 0 x.kv s.l s.w x.kr ∧ HdT w9 0 x.vv s.l s.w x.vr) := Lib.hid (fun x hx =>
        ⟨(HL.out.pl x hx).1.away HAW9.out HRT HKT (by decide) (by decide) (by decide) (by decide), (HL.out.pl x hx).2.away HAW9.out HRT HKT (by decide) (by decide) (by decide) (by decide)⟩)
      have HSB9 : Hid (Box w9 w.heap.size 45 #[.int .i64 s.l, .int .i64 s.w, .int .i64 s.h, .int .i64 s.i, .int .i64 s.v, .int .i64 s.p]) := Lib.hid (by
        have q := HSB.out.bel hb.out
        exact (hb9 w.heap.size _ ⟨_, _, q⟩ (by decide) (by decide)).trans q)
      obtain ⟨xa, xcap, hu8, hE8⟩ := own_form (own_blk (w' := w9) ho2 (fun k hk => hb9 k _ (own_isT ho2 hk) (by decide) (by decide))) (by omega) (by
        intro c hc
        rw [← HES.out] at hc
        obtain ⟨y, hy, rfl⟩ := List.mem_map.1 hc
        have h9 := wf8 (HE0.out.2.2.1 y (List.mem_of_mem_drop (List.mem_of_mem_take hy)))
        exact WalkArith.wf_i32 (by omega))
      have HX9 : Hid (Elems .i32 w9 xa s.w (layO Wn K p t 0)) := Lib.hid (by
        show Elems .i32 w9 xa s.w (embO Wn t)
        rw [HEM.out, HES.out]; exact hE8)
      have hlbT : IsT w2 lb 56 := hsl2.isT
      have hlbr : lb ≠ r := hlbT.ne ⟨_, _, RB2⟩ (by decide)
      have HLO : Hid (LoopO w9 w9 lb lcap p s (newO Wn K p t) ps 0 0 default) := Lib.hid (by
        refine ⟨rfl, rfl, rfl, Nat.le_refl _, fun _ _ _ => rfl, by rw [hsz9]; exact hlbT.lt, ?_, hsl2.blk (hblk9 lb hlbr), ⟨own_nil _ _ _, (by intro q hq; cases hq), (by intro q hq; cases hq)⟩, ⟨own_nil _ _ _, (by intro q hq; cases hq), (by intro q hq; cases hq)⟩, (by intro g hg; cases hg), (by intro l hl; omega), (by intro l hl; omega)⟩
        rw [lvals_app]
        exact own_blk hown2 (fun k hk => by cases hk; exact hblk9 lb hlbr))
      have HLB : Hid (Value.ownBlock (.slice la p lc) = some lb ∨ w.heap.size ≤ lb) := Lib.hid (hlb.imp id (fun e => by have := hBr.size; omega))
      have HSL9 := Lib.hid (hsl2.blk (hblk9 lb hlbr))
      have HLN := Lib.hid HL.out.num
      have HPLN := Lib.hid HL.out.len
      subst hu8
      clear x14 ho ho2 hb hE8 hlbT hlbr hown2 hsl2 hgr2 hlb hrun RBr LAr RT KT hB2 RB2 m14 f14 hblk9 hsz9 hb9 hBr HRT HKT hw9 y1 HR HL HIN HDO HSB HE0 HRW HEM HES HELN hea hpos hle HBA
      go_wp2_with fail
      go_loopw [8, 10] (fun x i wr => ∃ (n : Nat) (xa : Option Addr) (xcap : Nat) (pl : Pl8), n ≤ s.l ∧ i = .int .i64 n ∧ x = .slice xa s.w xcap ∧ Hid (Elems .i32 wr xa s.w (layO Wn K p t n)) ∧ Hid (LoopO w9 wr lb lcap p s (newO Wn K p t) ps n n pl)) (fun _ i _ => s.l - (intOf i).toNat)
      case atStart => exact ⟨0, xa, xcap, default, by omega, rfl, rfl, HX9, HLO⟩
      case round =>
        clear HX9 HLO
        obtain ⟨n, xa, xcap, pl, hn, rfl, rfl, hx, hlo⟩ := hrel
        obtain ⟨w0, hw0⟩ : ∃ w0, w0 = wr := ⟨_, rfl⟩
        subst hw0
        have KPr := Lib.hid (hlo.out.keep HSL9.out)
        have y0 : w0.cell? ⟨w.heap.size, 0, none⟩ = some (.int .i64 s.l) := (KPr.out.box HSB9.out (by decide) (by decide)).cell 0
        by_cases hlt : n < s.l
        · have hWr := hlo.out.wt HSL9.out HIN9.out
          obtain ⟨bg, bo, b, hba, hbg, hcb, hbk, hinr⟩ := hWr.2.2.2.1.at_ (i := n) (by rw [HBN.out]; exact hlt)
          have hbm : b ∈ W.bs := by
            rw [← hbk.out, List.getD_eq_getElem?_getD, List.getElem?_eq_getElem (by rw [hWr.2.2.2.1.1, HBN.out]; exact hlt)]
            exact List.getElem_mem _
          obtain ⟨n1, n2, m3, m4, m5, m6, m7, m8⟩ := bkB_yes (HBKS.out b hbm)
          have HM3 := Lib.hid m3
          have HM4 := Lib.hid m4
          have HM5 := Lib.hid m5
          have HM6 := Lib.hid m6
          have HM7 := Lib.hid m7
          have HM8 := Lib.hid m8
          have HN1 := Lib.hid n1
          have HN2 := Lib.hid n2
          have hbn : Hid (Wn.bs.getD n default = b.blk) := Lib.hid (by
            rw [← HWN.out]
            show (W.bs.map Bk7.blk).getD n default = _
            rw [← hbk.out, List.getD_eq_getElem?_getD, List.getElem?_map, List.getD_eq_getElem?_getD, List.getElem?_eq_getElem (by rw [hWr.2.2.2.1.1, HBN.out]; exact hlt)]
            rfl)
          have hsW : Hid (Wn.s = s) := Lib.hid (by rw [← HWN.out]; rfl)
          have HCB := Lib.hid hcb
          have x9 : w0.cell? ⟨r, 9, none⟩ = some (.slice (some ⟨bg, bo, none⟩) s.l W.bcap) := by rw [(KPr.out.box HR9.out (by decide) (by decide)).cell 9, ← hba, ← HBN.out]; rfl
          have HIB := Lib.hid hinr
          clear hcb hbk hbm hinr hWr n1 n2 m3 m4 m5 m6 m7 m8 hba
          go_upto_region 13 with (fail)
          go_cut [11] from 85 to 92 (fun v wx => v = .pointer (some ⟨w0.heap.size, 0, none⟩) ∧ Hid (Box wx w0.heap.size 66 b.cells) ∧ Hid (Below w0.heap.size w0 wx))
          case first =>
            --<B
            as_aux_lemma =>
              go_wp2_with (first
                | (refine wpList_load_part (o := ⟨some 92, _, _, _, _, _⟩) rfl 66 _ rfl bg (bo + n * 20) rfl b.cells _ HCB.out Tryz.underlying66 rfl (by kernel_rfl) ?_)
                | (refine wpList_store_row (o := ⟨none, .store _ _ _, _, _, _, _⟩) rfl 66 _ _ rfl w0.heap.size b.cells rfl rfl 66 _ (box_new _ _ _) (by kernel_rfl) rfl (bk_one b) ?_))
              go_meet
              case rel => exact ⟨rfl, Lib.hid (box_new _ _ _).setRow, Lib.hid (below_setRow ((Below.refl _ _).alloc (Nat.le_refl _) _) (Nat.le_refl _) (by simp))⟩
            -->B
          case rest =>
            obtain ⟨rfl, HXB, HBA⟩ := hcut
            obtain ⟨wA, rfl⟩ : ∃ wA, wA = wc := ⟨_, rfl⟩
            obtain ⟨z0, _⟩ := box_bk HXB.out
            rw [HN1.out] at z0
            have hx1 := hx.out.below HBA.out
            have ix := HIB.out.1.1.below HBA.out
            rw [HN1.out] at ix
            obtain ⟨xs, hxs⟩ : ∃ xs, layO Wn K p t n = xs := ⟨_, rfl⟩
            rw [hxs] at hx hx1
            have HXS := Lib.hid hxs
            have cN := ref_norm b.x.a xa s.w b.x.cap xcap b.x.v xs (invO xs) wA ix hx1 (by omega) (invO_is xs)
            clear x9 y0 ix hx1 HCB hxs
            go_upto_region 14 with (fail)
            go_cut [12] from 93 to 96 (fun v wx => ∃ ga gac, v = .slice ga s.w gac ∧ Hid (Elems .i8 wx ga s.w (normO b.x.v xs s.w)) ∧ Hid (Below wA.heap.size wA wx))
            case first =>
              --<C
              as_aux_lemma =>
                go_wp2_with (first
                  | (refine cN.mono ?_
                     rintro e wB ⟨⟨ga, gac, rfl, hEa⟩, hbB⟩))
                go_meet
                case rel => exact ⟨ga, gac, rfl, Lib.hid hEa, Lib.hid hbB⟩
              -->C
            case rest =>
              obtain ⟨ga, gac, rfl, HEA, HBB⟩ := hcut
              obtain ⟨wB, rfl⟩ : ∃ wB, wB = wc := ⟨_, rfl⟩
              have HBAB := Lib.hid (below_two HBA.out HBB.out)
              clear cN z0
              have HNEW : Hid (newO Wn K p t n = kvO s b.blk p xs) := Lib.hid (by unfold newO; rw [hsW.out, hbn.out, HXS.out])
              have HQN : Hid (qO s b.blk p xs = headsO s.h hw p (smallO b.q.v (normO b.x.v xs s.w) s.w s.w)) := Lib.hid (by unfold qO; rw [HHW.out]; rfl)
              have HK1 : Hid ((kvO s b.blk p xs).1 = headsO s.h hw p (smallO b.k.v (normO b.x.v xs s.w) s.w s.w)) := Lib.hid (by unfold kvO; rw [HHW.out]; rfl)
              have HWW : Hid (s.w * s.w ≤ 1048576) := Lib.hid (Nat.le_trans (Nat.mul_le_mul w128 w128) (by decide))
              have cT : ∀ V a c v, RowT V ⟨a, s.w, c, v⟩ → Calls Tryz.prog 45 #[.int .i64 p, .int .i64 hw, .slice a s.w c] V fun e w' => GivesT (headsO s.h hw p v) s.w w' e ∧ Below V.heap.size V w' := fun V a c v hT => by
                have h9 := turnedD p s.h hw h1 h16 hw2 hw128 HH.out.2.1 ⟨a, s.w, c, v⟩ (by show s.w = s.h * hw; rw [HH.out.1]) V hT.1
                rw [HH.out.1] at h9
                exact h9.mono (fun e w' h => ⟨h.1.t, h.2⟩)
              have CT := Lib.hid cT
              clear cT
              obtain ⟨_, _, z2, z3, z4, _⟩ := box_bk (HXB.out.bel HBB.out)
              have cQ : Calls Tryz.prog 46 #[.agg #[.int .i64 b.q.r, .int .i64 b.q.c, .slice b.q.a b.q.n b.q.cap], .slice ga s.w gac] wB fun e w' => GivesT (smallO b.q.v (normO b.x.v xs s.w) s.w s.w) s.w w' e ∧ Below wB.heap.size wB w' :=
                (quantsD b.q ga gac _ s.w s.w HM3.out.1 HM3.out.2.1 HM3.out.2.2 (by omega) (by omega) HWW.out wB (HIB.out.2.2.1.bel HBAB.out) HEA.out).mono (fun e w' h => ⟨h.1.t, h.2⟩)
              go_upto_region 15 with (fail)
              go_cut [13] from 97 to 103 (fun v wx => ∃ qa qcap, v = .slice qa s.w qcap ∧ Hid (RowT wx ⟨qa, s.w, qcap, qO s b.blk p xs⟩) ∧ Hid (Below wB.heap.size wB wx))
              case first =>
                --<D
                as_aux_lemma =>
                  go_wp2_with (first
                    | (go_at_call 46; (with_reducible refine cQ.mono ?_); rintro e wD ⟨⟨a1, c1, rfl, hT1⟩, hb1⟩)
                    | (go_at_call 45; (with_reducible refine (CT.out wD a1 c1 _ hT1).mono ?_); rintro e wE ⟨⟨a2, c2, rfl, hT2⟩, hb2⟩))
                  go_meet
                  case rel => exact ⟨a2, c2, rfl, Lib.hid (by rw [HQN.out]; exact hT2), Lib.hid (below_two hb1 hb2)⟩
                -->D
              case rest =>
                obtain ⟨qa, qcap, rfl, HQ, HBC⟩ := hcut
                obtain ⟨wC, rfl⟩ : ∃ wC, wC = wc := ⟨_, rfl⟩
                have HBAC := Lib.hid (below_two HBAB.out HBC.out)
                have HLC := Lib.hid (hlo.out.bel HBAC.out)
                have HEC := Lib.hid (HEA.out.below HBC.out)
                have HXC := Lib.hid (HXB.out.bel (below_two HBB.out HBC.out))
                obtain ⟨p1, hp1⟩ : ∃ p1, p + 1 = p1 := ⟨_, rfl⟩
                have HP1 := Lib.hid hp1
                have HRC : Hid (Box wC r 53 (dcells W (.slice (some ⟨lb, 0, none⟩) (p + 1) lcap))) := Lib.hid ((HLC.out.keep HSL9.out).box HR9.out (by decide) (by decide))
                have lp1 : p < p1 := by omega
                clear cQ z2 z3 z4 hp1 HBA HBB HBAB HEA HXB
                have x14 : wC.cell? ⟨r, 14, none⟩ = some (.slice (some ⟨lb, 0, none⟩) p1 lcap) := by rw [HRC.out.cell 14, ← HP1.out]; rfl
                obtain ⟨_, _, _, _, _, z5, z6, z7, _⟩ := box_bk HXC.out
                have hlx := (getD_end ps pl p).2 HPLN.out.symm
                have k0 : wC.cell? ⟨lb, p * 2, none⟩ = some pl.kv := by have h9 := (HLC.out.cells HPLN.out (Nat.le_refl p)).1; rwa [hlx] at h9
                have cK : ∀ V, Below wC.heap.size wC V → Calls Tryz.prog 46 #[.agg #[.int .i64 b.k.r, .int .i64 b.k.c, .slice b.k.a b.k.n b.k.cap], .slice ga s.w gac] V fun e w' => GivesT (smallO b.k.v (normO b.x.v xs s.w) s.w s.w) s.w w' e ∧ Below V.heap.size V w' := fun V hV =>
                  (quantsD b.k ga gac _ s.w s.w HM4.out.1 HM4.out.2.1 HM4.out.2.2 (by omega) (by omega) HWW.out V ((HIB.out.2.2.2.1.bel HBAC.out).bel hV) (HEC.out.below hV)).mono (fun e w' h => ⟨h.1.t, h.2⟩)
                have E0 : Below wC.heap.size wC wC.drew := (Below.refl _ _).drew
                go_upto_region 16 with (fail)
                go_cut [13] from 104 to 127 (fun v wx => v = .slice qa s.w qcap ∧ ∃ pl', Hid (LoopO w9 wx lb lcap p s (newO Wn K p t) ps (n + 1) n pl') ∧ Hid (Keep8 wC wx))
                case first =>
                  --<E
                  as_aux_lemma =>
                    have HS0 := And.intro x14 (And.intro z5 (And.intro z6 z7))
                    refine wp_region_held_drew (S := (fun w' => w'.cell? ⟨r, 14, none⟩ = some (.slice (some ⟨lb, 0, none⟩) p1 lcap) ∧ w'.cell? ⟨w0.heap.size, 5, none⟩ = some (.int .i64 b.k.r) ∧ w'.cell? ⟨w0.heap.size, 6, none⟩ = some (.int .i64 b.k.c) ∧ w'.cell? ⟨w0.heap.size, 7, none⟩ = some (.slice b.k.a b.k.n b.k.cap))) (by kernel_rfl) ?_ (fun hHeld => ?_)
                    · exact HS0
                    refine wpAnyH_take (i := 0) (oi := ⟨some 104, _, _, _, _, _⟩) (v := ?_) rfl (by kernel_rfl) (by kernel_rfl) (by kernel_rfl) (fun _ _ _ h => h) (Or.inl ⟨by rfl, ?hy1⟩) hHeld ?rest1
                    case hy1 => (intro W9 hSw; (try dsimp only at hSw); go_simp; (try with_reducible rfl))
                    simp only [Act.put, List.setIfInBounds_toArray, List.set_cons_zero, List.set_cons_succ]
                    refine wpAnyH_take (i := 1) (oi := ⟨some 105, _, _, _, _, _⟩) (v := ?_) rfl (by kernel_rfl) (by kernel_rfl) (by kernel_rfl) (fun _ _ _ h => h) (Or.inl ⟨by rfl, ?hy2⟩) hHeld ?rest2
                    case hy2 => (intro W9 hSw; (try dsimp only at hSw); go_simp; (try with_reducible rfl))
                    simp only [Act.put, List.setIfInBounds_toArray, List.set_cons_zero, List.set_cons_succ]
                    refine wpAnyH_take (i := 2) (oi := ⟨some 106, _, _, _, _, _⟩) (v := ?_) rfl (by kernel_rfl) (by kernel_rfl) (by kernel_rfl) (fun _ _ _ h => h) (Or.inl ⟨by rfl, ?hy3⟩) hHeld ?rest3
                    case hy3 => (intro W9 hSw; (try dsimp only at hSw); go_simp; (try with_reducible rfl))
                    simp only [Act.put, List.setIfInBounds_toArray, List.set_cons_zero, List.set_cons_succ]
                    refine wpAnyH_take (i := 3) (oi := ⟨some 107, _, _, _, _, _⟩) (v := ?_) rfl (by kernel_rfl) (by kernel_rfl) (by kernel_rfl) (fun _ _ _ h => h) (Or.inl ⟨by rfl, ?hy4⟩) hHeld ?rest4
                    case hy4 => (intro W9 hSw; (try dsimp only at hSw); go_simp; (try with_reducible rfl))
                    simp only [Act.put, List.setIfInBounds_toArray, List.set_cons_zero, List.set_cons_succ]
                    refine wpAnyH_take (i := 4) (oi := ⟨some 108, _, _, _, _, _⟩) (v := ?_) rfl (by kernel_rfl) (by kernel_rfl) (by kernel_rfl) (fun _ _ _ h => h) (Or.inl ⟨by rfl, ?hy5⟩) hHeld ?rest5
                    case hy5 => (intro W9 hSw; (try dsimp only at hSw); go_simp; (try with_reducible rfl))
                    simp only [Act.put, List.setIfInBounds_toArray, List.set_cons_zero, List.set_cons_succ]
                    refine wpAnyH_take (i := 5) (oi := ⟨some 109, _, _, _, _, _⟩) (v := ?_) rfl (by kernel_rfl) (by kernel_rfl) (by kernel_rfl) (fun _ _ _ h => h) (Or.inl ⟨by rfl, ?hy6⟩) hHeld ?rest6
                    case hy6 => (intro W9 hSw; (try dsimp only at hSw); go_simp; (try with_reducible rfl))
                    simp only [Act.put, List.setIfInBounds_toArray, List.set_cons_zero, List.set_cons_succ]
                    refine wpAnyH_take (i := 6) (oi := ⟨some 110, _, _, _, _, _⟩) (v := ?_) rfl (by kernel_rfl) (by kernel_rfl) (by kernel_rfl) (fun _ _ _ h => h) (Or.inl ⟨by rfl, ?hy7⟩) hHeld ?rest7
                    case hy7 => (intro W9 hSw; (try dsimp only at hSw); go_simp; (try with_reducible rfl))
                    simp only [Act.put, List.setIfInBounds_toArray, List.set_cons_zero, List.set_cons_succ]
                    refine wpAnyH_take (i := 7) (oi := ⟨some 111, _, _, _, _, _⟩) (v := ?_) rfl (by kernel_rfl) (by kernel_rfl) (by kernel_rfl) (fun _ _ _ h => h) (Or.inl ⟨by rfl, ?hy8⟩) hHeld ?rest8
                    case hy8 => (intro W9 hSw; (try dsimp only at hSw); go_simp; (try with_reducible rfl))
                    simp only [Act.put, List.setIfInBounds_toArray, List.set_cons_zero, List.set_cons_succ]
                    refine wpAnyH_take (i := 8) (oi := ⟨some 112, _, _, _, _, _⟩) (v := ?_) rfl (by kernel_rfl) (by kernel_rfl) (by kernel_rfl) (fun _ _ _ h => h) (Or.inl ⟨by rfl, ?hy9⟩) hHeld ?rest9
                    case hy9 => (intro W9 hSw; (try dsimp only at hSw); go_simp; (try with_reducible rfl))
                    simp only [Act.put, List.setIfInBounds_toArray, List.set_cons_zero, List.set_cons_succ]
                    refine wpAnyH_take (i := 9) (oi := ⟨some 113, _, _, _, _, _⟩) (v := ?_) rfl (by kernel_rfl) (by kernel_rfl) (by kernel_rfl) (fun _ _ _ h => h) (Or.inl ⟨by rfl, ?hy10⟩) hHeld ?rest10
                    case hy10 => (intro W9 hSw; (try dsimp only at hSw); go_simp; (try with_reducible rfl))
                    simp only [Act.put, List.setIfInBounds_toArray, List.set_cons_zero, List.set_cons_succ]
                    refine wpAnyH_take (i := 10) (oi := ⟨some 114, _, _, _, _, _⟩) (v := ?_) rfl (by kernel_rfl) (by kernel_rfl) (by kernel_rfl) (fun _ _ _ h => h) (Or.inl ⟨by rfl, ?hy11⟩) hHeld ?rest11
                    case hy11 => (intro W9 hSw; (try dsimp only at hSw); go_simp; (try with_reducible rfl))
                    simp only [Act.put, List.setIfInBounds_toArray, List.set_cons_zero, List.set_cons_succ]
                    refine wpAnyH_take (i := 11) (oi := ⟨some 115, _, _, _, _, _⟩) (v := ?_) rfl (by kernel_rfl) (by kernel_rfl) (by kernel_rfl) (fun _ _ _ h => h) (Or.inl ⟨by rfl, ?hy12⟩) hHeld ?rest12
                    case hy12 => (intro W9 hSw; (try dsimp only at hSw); go_simp; (try with_reducible rfl))
                    simp only [Act.put, List.setIfInBounds_toArray, List.set_cons_zero, List.set_cons_succ]
                    refine wpAnyH_take (i := 13) (oi := ⟨some 117, _, _, _, _, _⟩) (v := ?_) rfl (by kernel_rfl) (by kernel_rfl) (by kernel_rfl) (fun _ _ _ h => h) (Or.inl ⟨by rfl, ?hy13⟩) hHeld ?rest13
                    case hy13 => (intro W9 hSw; (try dsimp only at hSw); go_simp; (try with_reducible rfl))
                    simp only [Act.put, List.setIfInBounds_toArray, List.set_cons_zero, List.set_cons_succ]
                    refine wpAnyH_take (i := 14) (oi := ⟨some 118, _, _, _, _, _⟩) (v := ?_) rfl (by kernel_rfl) (by kernel_rfl) (by kernel_rfl) (fun _ _ _ h => h) (Or.inl ⟨by rfl, ?hy14⟩) hHeld ?rest14
                    case hy14 => (intro W9 hSw; (try dsimp only at hSw); go_simp; (try with_reducible rfl))
                    simp only [Act.put, List.setIfInBounds_toArray, List.set_cons_zero, List.set_cons_succ]
                    refine wpAnyH_take (i := 15) (oi := ⟨some 119, _, _, _, _, _⟩) (v := ?_) rfl (by kernel_rfl) (by kernel_rfl) (by kernel_rfl) (fun _ _ _ h => h) (Or.inl ⟨by rfl, ?hy15⟩) hHeld ?rest15
                    case hy15 => (intro W9 hSw; (try dsimp only at hSw); go_simp; (try with_reducible rfl))
                    simp only [Act.put, List.setIfInBounds_toArray, List.set_cons_zero, List.set_cons_succ]
                    refine wpAnyH_take (i := 16) (oi := ⟨some 120, _, _, _, _, _⟩) (v := ?_) rfl (by kernel_rfl) (by kernel_rfl) (by kernel_rfl) (fun _ _ _ h => h) (Or.inl ⟨by rfl, ?hy16⟩) hHeld ?rest16
                    case hy16 => (intro W9 hSw; (try dsimp only at hSw); go_simp; (try with_reducible rfl))
                    simp only [Act.put, List.setIfInBounds_toArray, List.set_cons_zero, List.set_cons_succ]
                    refine wpAnyH_take (i := 17) (oi := ⟨some 121, _, _, _, _, _⟩) (v := ?_) rfl (by kernel_rfl) (by kernel_rfl) (by kernel_rfl) (fun _ _ _ h => h) (Or.inl ⟨by rfl, ?hy17⟩) hHeld ?rest17
                    case hy17 => (intro W9 hSw; (try dsimp only at hSw); go_simp; (try with_reducible rfl))
                    simp only [Act.put, List.setIfInBounds_toArray, List.set_cons_zero, List.set_cons_succ]
                    refine wpAnyH_ready (rs := [12, 18]) (by kernel_rfl) (by simp) ?_
                    refine AllReadyH.cons (o := ⟨some 116, _, _, _, _, _⟩) rfl (fun K hK => ?_) (AllReadyH.cons (o := ⟨some 122, _, _, _, _, _⟩) rfl (fun K hK => ?_) AllReadyH.nil)
                    · go_simp
                      refine hK.out _ _ ?_ (fun hNew => ?_)
                      · ((try dsimp only); (refine ⟨?_, ?_, ?_, ?_⟩ <;> first | assumption | exact cell_alloc (by assumption) _))
                      clear hK K hHeld
                      have hHeld := hNew
                      clear hNew
                      try simp only [Act.put, List.setIfInBounds_toArray, List.set_cons_zero, List.set_cons_succ]
                      refine wpAnyH_ready (rs := [18]) (by kernel_rfl) (by simp) ?_
                      refine AllReadyH.cons (o := ⟨some 122, _, _, _, _, _⟩) rfl (fun K hK => ?_) AllReadyH.nil
                      go_simp
                      (go_at_call 46; (with_reducible refine (cK _ E0).mono ?_); rintro e wD ⟨⟨ka, kc, rfl, hTk⟩, hb3⟩)
                      have R3 := below_two E0 hb3
                      have ka1 := cell_kept6 R3 x14
                      have ka5 := cell_kept6 R3 z5
                      have ka6 := cell_kept6 R3 z6
                      have ka7 := cell_kept6 R3 z7
                      have k1 := cell_kept6 R3 k0
                      (try go_wp2_with fail)
                      refine hK.out _ _ ?_ (fun hNew => ?_)
                      · ((try dsimp only); (refine ⟨?_, ?_, ?_, ?_⟩ <;> first | assumption | exact cell_alloc (by assumption) _))
                      clear hK K hHeld
                      have hHeld := hNew
                      clear hNew
                      try simp only [Act.put, List.setIfInBounds_toArray, List.set_cons_zero, List.set_cons_succ]
                      refine wpAnyH_ready (rs := [19]) (by kernel_rfl) (by simp) ?_
                      refine AllReadyH.cons (o := ⟨some 123, _, _, _, _, _⟩) rfl (fun K hK => ?_) AllReadyH.nil
                      go_simp
                      (go_at_call 45; (with_reducible refine (CT.out wD ka kc _ hTk).mono ?_); rintro e wE ⟨⟨qa2, qc2, rfl, hTK⟩, hb4⟩)
                      have R4 := below_two R3 hb4
                      have kb1 := cell_kept6 R4 x14
                      have kb5 := cell_kept6 R4 z5
                      have kb6 := cell_kept6 R4 z6
                      have kb7 := cell_kept6 R4 z7
                      have k2 := cell_kept6 R4 k0
                      have k3 := fun o => cell_alloc k2 o
                      obtain ⟨gh, ch, w2, pl', hrun, hc2, hf2, hKp, hKp2, hL2⟩ := (HLC.out.bel R4).putK' HPLN.out qa2 qc2 _ hTK (by rw [HNEW.out, HK1.out]) (by omega)
                      have RBE := hKp.out.box (HRC.out.bel R4) (by decide) (by decide)
                      have XBE := hKp.out.box (HXC.out.bel R4) (by decide) (by decide)
                      have m1 : w2.cell? ⟨r, 14, none⟩ = some (.slice (some ⟨lb, 0, none⟩) p1 lcap) := by rw [RBE.cell 14, ← HP1.out]; rfl
                      obtain ⟨_, _, _, _, _, m5, m6, m7, _⟩ := box_bk XBE
                      have RBF := hKp2.out.box RBE (by decide) (by decide)
                      have XBF := hKp2.out.box XBE (by decide) (by decide)
                      have n1 := RBF.cell 14
                      rw [show (dcells W (.slice (some ⟨lb, 0, none⟩) (p + 1) lcap))[14]? = some (.slice (some ⟨lb, 0, none⟩) (p + 1) lcap) from rfl, HP1.out] at n1
                      obtain ⟨_, _, _, _, _, n5, n6, n7, _⟩ := box_bk XBF
                      clear RBE XBE RBF XBF
                      (try go_wp2_with fail)
                      refine hK.out _ _ ?_ (fun hNew => ?_)
                      · ((try dsimp only); (refine ⟨?_, ?_, ?_, ?_⟩ <;> first | assumption | exact cell_alloc (by assumption) _))
                      clear hK K hHeld
                      have hHeld := hNew
                      clear hNew
                      try simp only [Act.put, List.setIfInBounds_toArray, List.set_cons_zero, List.set_cons_succ]
                      refine wpAnyH_ready (rs := [20]) (by kernel_rfl) (by simp) ?_
                      refine AllReadyH.cons (o := ⟨some 124, _, _, _, _, _⟩) rfl (fun K hK => ?_) AllReadyH.nil
                      go_simp
                      refine hK.out _ _ ?_ (fun hNew => ?_)
                      · ((try dsimp only); (refine ⟨?_, ?_, ?_, ?_⟩ <;> first | assumption | exact cell_alloc (by assumption) _))
                      clear hK K hHeld
                      have hHeld := hNew
                      clear hNew
                      try simp only [Act.put, List.setIfInBounds_toArray, List.set_cons_zero, List.set_cons_succ]
                      refine wpAnyH_ready (rs := [21]) (by kernel_rfl) (by simp) ?_
                      refine AllReadyH.cons (o := ⟨some 125, _, _, _, _, _⟩) rfl (fun K hK => ?_) AllReadyH.nil
                      ((with_reducible refine step_append_run (o := ⟨some 125, _, _, _, _, _⟩) ?_ (.tmp 116) (.tmp 124) 54 ?_ _ _ ?_ ?_ hrun ?_); rfl; rfl; rfl; rfl)
                      refine hK.out _ _ ?_ (fun hNew => ?_)
                      · ((try dsimp only); (refine ⟨?_, ?_, ?_, ?_⟩ <;> first | assumption | exact cell_alloc (by assumption) _))
                      clear hK K hHeld
                      have hHeld := hNew
                      clear hNew
                      try simp only [Act.put, List.setIfInBounds_toArray, List.set_cons_zero, List.set_cons_succ]
                      refine wpAnyH_take (i := 22) (oi := ⟨some 126, _, _, _, _, _⟩) (v := ?_) rfl (by kernel_rfl) (by kernel_rfl) (by kernel_rfl) (fun _ _ _ h => h) (Or.inl ⟨by rfl, ?hy18⟩) hHeld ?rest18
                      case hy18 => (intro W9 hSw; (try dsimp only at hSw); go_simp; (try with_reducible rfl))
                      simp only [Act.put, List.setIfInBounds_toArray, List.set_cons_zero, List.set_cons_succ]
                      refine wpAnyH_take (i := 23) (oi := ⟨some 127, _, _, _, _, _⟩) (v := ?_) rfl (by kernel_rfl) (by kernel_rfl) (by kernel_rfl) (fun _ _ _ h => h) (Or.inl ⟨by rfl, ?hy19⟩) hHeld ?rest19
                      case hy19 => (intro W9 hSw; (try dsimp only at hSw); go_simp; (try with_reducible rfl))
                      simp only [Act.put, List.setIfInBounds_toArray, List.set_cons_zero, List.set_cons_succ]
                      refine wpAnyH_ready (rs := [24]) (by kernel_rfl) (by simp) ?_
                      refine AllReadyH.cons (o := ⟨none, _, _, _, _, _⟩) rfl (fun K hK => ?_) AllReadyH.nil
                      go_simp
                      refine hK.out _ _ ?_ (fun hNew => ?_)
                      · ((try dsimp only); (refine ⟨?_, ?_, ?_, ?_⟩ <;> first | assumption | exact cell_alloc (by assumption) _))
                      clear hK K hHeld
                      have hHeld := hNew
                      clear hNew
                      try simp only [Act.put, List.setIfInBounds_toArray, List.set_cons_zero, List.set_cons_succ]
                      refine wpAnyH_done (by kernel_rfl) ?_ _
                      go_wp2_with fail
                      go_meet
                      case rel => exact ⟨rfl, pl', hL2, Lib.hid (((Keep8.of_below R4).trans hKp.out).trans hKp2.out)⟩
                    · go_simp
                      (go_at_call 46; (with_reducible refine (cK _ E0).mono ?_); rintro e wD ⟨⟨ka, kc, rfl, hTk⟩, hb3⟩)
                      have R3 := below_two E0 hb3
                      have ka1 := cell_kept6 R3 x14
                      have ka5 := cell_kept6 R3 z5
                      have ka6 := cell_kept6 R3 z6
                      have ka7 := cell_kept6 R3 z7
                      have k1 := cell_kept6 R3 k0
                      (try go_wp2_with fail)
                      refine hK.out _ _ ?_ (fun hNew => ?_)
                      · ((try dsimp only); (refine ⟨?_, ?_, ?_, ?_⟩ <;> first | assumption | exact cell_alloc (by assumption) _))
                      clear hK K hHeld
                      have hHeld := hNew
                      clear hNew
                      try simp only [Act.put, List.setIfInBounds_toArray, List.set_cons_zero, List.set_cons_succ]
                      refine wpAnyH_ready (rs := [12, 19]) (by kernel_rfl) (by simp) ?_
                      refine AllReadyH.cons (o := ⟨some 116, _, _, _, _, _⟩) rfl (fun K hK => ?_) (AllReadyH.cons (o := ⟨some 123, _, _, _, _, _⟩) rfl (fun K hK => ?_) AllReadyH.nil)
                      · go_simp
                        refine hK.out _ _ ?_ (fun hNew => ?_)
                        · ((try dsimp only); (refine ⟨?_, ?_, ?_, ?_⟩ <;> first | assumption | exact cell_alloc (by assumption) _))
                        clear hK K hHeld
                        have hHeld := hNew
                        clear hNew
                        try simp only [Act.put, List.setIfInBounds_toArray, List.set_cons_zero, List.set_cons_succ]
                        refine wpAnyH_ready (rs := [19]) (by kernel_rfl) (by simp) ?_
                        refine AllReadyH.cons (o := ⟨some 123, _, _, _, _, _⟩) rfl (fun K hK => ?_) AllReadyH.nil
                        go_simp
                        (go_at_call 45; (with_reducible refine (CT.out wD ka kc _ hTk).mono ?_); rintro e wE ⟨⟨qa2, qc2, rfl, hTK⟩, hb4⟩)
                        have R4 := below_two R3 hb4
                        have kb1 := cell_kept6 R4 x14
                        have kb5 := cell_kept6 R4 z5
                        have kb6 := cell_kept6 R4 z6
                        have kb7 := cell_kept6 R4 z7
                        have k2 := cell_kept6 R4 k0
                        have k3 := fun o => cell_alloc k2 o
                        obtain ⟨gh, ch, w2, pl', hrun, hc2, hf2, hKp, hKp2, hL2⟩ := (HLC.out.bel R4).putK' HPLN.out qa2 qc2 _ hTK (by rw [HNEW.out, HK1.out]) (by omega)
                        have RBE := hKp.out.box (HRC.out.bel R4) (by decide) (by decide)
                        have XBE := hKp.out.box (HXC.out.bel R4) (by decide) (by decide)
                        have m1 : w2.cell? ⟨r, 14, none⟩ = some (.slice (some ⟨lb, 0, none⟩) p1 lcap) := by rw [RBE.cell 14, ← HP1.out]; rfl
                        obtain ⟨_, _, _, _, _, m5, m6, m7, _⟩ := box_bk XBE
                        have RBF := hKp2.out.box RBE (by decide) (by decide)
                        have XBF := hKp2.out.box XBE (by decide) (by decide)
                        have n1 := RBF.cell 14
                        rw [show (dcells W (.slice (some ⟨lb, 0, none⟩) (p + 1) lcap))[14]? = some (.slice (some ⟨lb, 0, none⟩) (p + 1) lcap) from rfl, HP1.out] at n1
                        obtain ⟨_, _, _, _, _, n5, n6, n7, _⟩ := box_bk XBF
                        clear RBE XBE RBF XBF
                        (try go_wp2_with fail)
                        refine hK.out _ _ ?_ (fun hNew => ?_)
                        · ((try dsimp only); (refine ⟨?_, ?_, ?_, ?_⟩ <;> first | assumption | exact cell_alloc (by assumption) _))
                        clear hK K hHeld
                        have hHeld := hNew
                        clear hNew
                        try simp only [Act.put, List.setIfInBounds_toArray, List.set_cons_zero, List.set_cons_succ]
                        refine wpAnyH_ready (rs := [20]) (by kernel_rfl) (by simp) ?_
                        refine AllReadyH.cons (o := ⟨some 124, _, _, _, _, _⟩) rfl (fun K hK => ?_) AllReadyH.nil
                        go_simp
                        refine hK.out _ _ ?_ (fun hNew => ?_)
                        · ((try dsimp only); (refine ⟨?_, ?_, ?_, ?_⟩ <;> first | assumption | exact cell_alloc (by assumption) _))
                        clear hK K hHeld
                        have hHeld := hNew
                        clear hNew
                        try simp only [Act.put, List.setIfInBounds_toArray, List.set_cons_zero, List.set_cons_succ]
                        refine wpAnyH_ready (rs := [21]) (by kernel_rfl) (by simp) ?_
                        refine AllReadyH.cons (o := ⟨some 125, _, _, _, _, _⟩) rfl (fun K hK => ?_) AllReadyH.nil
                        ((with_reducible refine step_append_run (o := ⟨some 125, _, _, _, _, _⟩) ?_ (.tmp 116) (.tmp 124) 54 ?_ _ _ ?_ ?_ hrun ?_); rfl; rfl; rfl; rfl)
                        refine hK.out _ _ ?_ (fun hNew => ?_)
                        · ((try dsimp only); (refine ⟨?_, ?_, ?_, ?_⟩ <;> first | assumption | exact cell_alloc (by assumption) _))
                        clear hK K hHeld
                        have hHeld := hNew
                        clear hNew
                        try simp only [Act.put, List.setIfInBounds_toArray, List.set_cons_zero, List.set_cons_succ]
                        refine wpAnyH_take (i := 22) (oi := ⟨some 126, _, _, _, _, _⟩) (v := ?_) rfl (by kernel_rfl) (by kernel_rfl) (by kernel_rfl) (fun _ _ _ h => h) (Or.inl ⟨by rfl, ?hy20⟩) hHeld ?rest20
                        case hy20 => (intro W9 hSw; (try dsimp only at hSw); go_simp; (try with_reducible rfl))
                        simp only [Act.put, List.setIfInBounds_toArray, List.set_cons_zero, List.set_cons_succ]
                        refine wpAnyH_take (i := 23) (oi := ⟨some 127, _, _, _, _, _⟩) (v := ?_) rfl (by kernel_rfl) (by kernel_rfl) (by kernel_rfl) (fun _ _ _ h => h) (Or.inl ⟨by rfl, ?hy21⟩) hHeld ?rest21
                        case hy21 => (intro W9 hSw; (try dsimp only at hSw); go_simp; (try with_reducible rfl))
                        simp only [Act.put, List.setIfInBounds_toArray, List.set_cons_zero, List.set_cons_succ]
                        refine wpAnyH_ready (rs := [24]) (by kernel_rfl) (by simp) ?_
                        refine AllReadyH.cons (o := ⟨none, _, _, _, _, _⟩) rfl (fun K hK => ?_) AllReadyH.nil
                        go_simp
                        refine hK.out _ _ ?_ (fun hNew => ?_)
                        · ((try dsimp only); (refine ⟨?_, ?_, ?_, ?_⟩ <;> first | assumption | exact cell_alloc (by assumption) _))
                        clear hK K hHeld
                        have hHeld := hNew
                        clear hNew
                        try simp only [Act.put, List.setIfInBounds_toArray, List.set_cons_zero, List.set_cons_succ]
                        refine wpAnyH_done (by kernel_rfl) ?_ _
                        go_wp2_with fail
                        go_meet
                        case rel => exact ⟨rfl, pl', hL2, Lib.hid (((Keep8.of_below R4).trans hKp.out).trans hKp2.out)⟩
                      · go_simp
                        (go_at_call 45; (with_reducible refine (CT.out wD ka kc _ hTk).mono ?_); rintro e wE ⟨⟨qa2, qc2, rfl, hTK⟩, hb4⟩)
                        have R4 := below_two R3 hb4
                        have kb1 := cell_kept6 R4 x14
                        have kb5 := cell_kept6 R4 z5
                        have kb6 := cell_kept6 R4 z6
                        have kb7 := cell_kept6 R4 z7
                        have k2 := cell_kept6 R4 k0
                        have k3 := fun o => cell_alloc k2 o
                        obtain ⟨gh, ch, w2, pl', hrun, hc2, hf2, hKp, hKp2, hL2⟩ := (HLC.out.bel R4).putK' HPLN.out qa2 qc2 _ hTK (by rw [HNEW.out, HK1.out]) (by omega)
                        have RBE := hKp.out.box (HRC.out.bel R4) (by decide) (by decide)
                        have XBE := hKp.out.box (HXC.out.bel R4) (by decide) (by decide)
                        have m1 : w2.cell? ⟨r, 14, none⟩ = some (.slice (some ⟨lb, 0, none⟩) p1 lcap) := by rw [RBE.cell 14, ← HP1.out]; rfl
                        obtain ⟨_, _, _, _, _, m5, m6, m7, _⟩ := box_bk XBE
                        have RBF := hKp2.out.box RBE (by decide) (by decide)
                        have XBF := hKp2.out.box XBE (by decide) (by decide)
                        have n1 := RBF.cell 14
                        rw [show (dcells W (.slice (some ⟨lb, 0, none⟩) (p + 1) lcap))[14]? = some (.slice (some ⟨lb, 0, none⟩) (p + 1) lcap) from rfl, HP1.out] at n1
                        obtain ⟨_, _, _, _, _, n5, n6, n7, _⟩ := box_bk XBF
                        clear RBE XBE RBF XBF
                        (try go_wp2_with fail)
                        refine hK.out _ _ ?_ (fun hNew => ?_)
                        · ((try dsimp only); (refine ⟨?_, ?_, ?_, ?_⟩ <;> first | assumption | exact cell_alloc (by assumption) _))
                        clear hK K hHeld
                        have hHeld := hNew
                        clear hNew
                        try simp only [Act.put, List.setIfInBounds_toArray, List.set_cons_zero, List.set_cons_succ]
                        refine wpAnyH_ready (rs := [12, 20]) (by kernel_rfl) (by simp) ?_
                        refine AllReadyH.cons (o := ⟨some 116, _, _, _, _, _⟩) rfl (fun K hK => ?_) (AllReadyH.cons (o := ⟨some 124, _, _, _, _, _⟩) rfl (fun K hK => ?_) AllReadyH.nil)
                        · go_simp
                          refine hK.out _ _ ?_ (fun hNew => ?_)
                          · ((try dsimp only); (refine ⟨?_, ?_, ?_, ?_⟩ <;> first | assumption | exact cell_alloc (by assumption) _))
                          clear hK K hHeld
                          have hHeld := hNew
                          clear hNew
                          try simp only [Act.put, List.setIfInBounds_toArray, List.set_cons_zero, List.set_cons_succ]
                          refine wpAnyH_ready (rs := [20]) (by kernel_rfl) (by simp) ?_
                          refine AllReadyH.cons (o := ⟨some 124, _, _, _, _, _⟩) rfl (fun K hK => ?_) AllReadyH.nil
                          go_simp
                          refine hK.out _ _ ?_ (fun hNew => ?_)
                          · ((try dsimp only); (refine ⟨?_, ?_, ?_, ?_⟩ <;> first | assumption | exact cell_alloc (by assumption) _))
                          clear hK K hHeld
                          have hHeld := hNew
                          clear hNew
                          try simp only [Act.put, List.setIfInBounds_toArray, List.set_cons_zero, List.set_cons_succ]
                          refine wpAnyH_ready (rs := [21]) (by kernel_rfl) (by simp) ?_
                          refine AllReadyH.cons (o := ⟨some 125, _, _, _, _, _⟩) rfl (fun K hK => ?_) AllReadyH.nil
                          ((with_reducible refine step_append_run (o := ⟨some 125, _, _, _, _, _⟩) ?_ (.tmp 116) (.tmp 124) 54 ?_ _ _ ?_ ?_ hrun ?_); rfl; rfl; rfl; rfl)
                          refine hK.out _ _ ?_ (fun hNew => ?_)
                          · ((try dsimp only); (refine ⟨?_, ?_, ?_, ?_⟩ <;> first | assumption | exact cell_alloc (by assumption) _))
                          clear hK K hHeld
                          have hHeld := hNew
                          clear hNew
                          try simp only [Act.put, List.setIfInBounds_toArray, List.set_cons_zero, List.set_cons_succ]
                          refine wpAnyH_take (i := 22) (oi := ⟨some 126, _, _, _, _, _⟩) (v := ?_) rfl (by kernel_rfl) (by kernel_rfl) (by kernel_rfl) (fun _ _ _ h => h) (Or.inl ⟨by rfl, ?hy22⟩) hHeld ?rest22
                          case hy22 => (intro W9 hSw; (try dsimp only at hSw); go_simp; (try with_reducible rfl))
                          simp only [Act.put, List.setIfInBounds_toArray, List.set_cons_zero, List.set_cons_succ]
                          refine wpAnyH_take (i := 23) (oi := ⟨some 127, _, _, _, _, _⟩) (v := ?_) rfl (by kernel_rfl) (by kernel_rfl) (by kernel_rfl) (fun _ _ _ h => h) (Or.inl ⟨by rfl, ?hy23⟩) hHeld ?rest23
                          case hy23 => (intro W9 hSw; (try dsimp only at hSw); go_simp; (try with_reducible rfl))
                          simp only [Act.put, List.setIfInBounds_toArray, List.set_cons_zero, List.set_cons_succ]
                          refine wpAnyH_ready (rs := [24]) (by kernel_rfl) (by simp) ?_
                          refine AllReadyH.cons (o := ⟨none, _, _, _, _, _⟩) rfl (fun K hK => ?_) AllReadyH.nil
                          go_simp
                          refine hK.out _ _ ?_ (fun hNew => ?_)
                          · ((try dsimp only); (refine ⟨?_, ?_, ?_, ?_⟩ <;> first | assumption | exact cell_alloc (by assumption) _))
                          clear hK K hHeld
                          have hHeld := hNew
                          clear hNew
                          try simp only [Act.put, List.setIfInBounds_toArray, List.set_cons_zero, List.set_cons_succ]
                          refine wpAnyH_done (by kernel_rfl) ?_ _
                          go_wp2_with fail
                          go_meet
                          case rel => exact ⟨rfl, pl', hL2, Lib.hid (((Keep8.of_below R4).trans hKp.out).trans hKp2.out)⟩
                        · go_simp
                          refine hK.out _ _ ?_ (fun hNew => ?_)
                          · ((try dsimp only); (refine ⟨?_, ?_, ?_, ?_⟩ <;> first | assumption | exact cell_alloc (by assumption) _))
                          clear hK K hHeld
                          have hHeld := hNew
                          clear hNew
                          try simp only [Act.put, List.setIfInBounds_toArray, List.set_cons_zero, List.set_cons_succ]
                          refine wpAnyH_ready (rs := [12]) (by kernel_rfl) (by simp) ?_
                          refine AllReadyH.cons (o := ⟨some 116, _, _, _, _, _⟩) rfl (fun K hK => ?_) AllReadyH.nil
                          go_simp
                          refine hK.out _ _ ?_ (fun hNew => ?_)
                          · ((try dsimp only); (refine ⟨?_, ?_, ?_, ?_⟩ <;> first | assumption | exact cell_alloc (by assumption) _))
                          clear hK K hHeld
                          have hHeld := hNew
                          clear hNew
                          try simp only [Act.put, List.setIfInBounds_toArray, List.set_cons_zero, List.set_cons_succ]
                          refine wpAnyH_ready (rs := [21]) (by kernel_rfl) (by simp) ?_
                          refine AllReadyH.cons (o := ⟨some 125, _, _, _, _, _⟩) rfl (fun K hK => ?_) AllReadyH.nil
                          ((with_reducible refine step_append_run (o := ⟨some 125, _, _, _, _, _⟩) ?_ (.tmp 116) (.tmp 124) 54 ?_ _ _ ?_ ?_ hrun ?_); rfl; rfl; rfl; rfl)
                          refine hK.out _ _ ?_ (fun hNew => ?_)
                          · ((try dsimp only); (refine ⟨?_, ?_, ?_, ?_⟩ <;> first | assumption | exact cell_alloc (by assumption) _))
                          clear hK K hHeld
                          have hHeld := hNew
                          clear hNew
                          try simp only [Act.put, List.setIfInBounds_toArray, List.set_cons_zero, List.set_cons_succ]
                          refine wpAnyH_take (i := 22) (oi := ⟨some 126, _, _, _, _, _⟩) (v := ?_) rfl (by kernel_rfl) (by kernel_rfl) (by kernel_rfl) (fun _ _ _ h => h) (Or.inl ⟨by rfl, ?hy24⟩) hHeld ?rest24
                          case hy24 => (intro W9 hSw; (try dsimp only at hSw); go_simp; (try with_reducible rfl))
                          simp only [Act.put, List.setIfInBounds_toArray, List.set_cons_zero, List.set_cons_succ]
                          refine wpAnyH_take (i := 23) (oi := ⟨some 127, _, _, _, _, _⟩) (v := ?_) rfl (by kernel_rfl) (by kernel_rfl) (by kernel_rfl) (fun _ _ _ h => h) (Or.inl ⟨by rfl, ?hy25⟩) hHeld ?rest25
                          case hy25 => (intro W9 hSw; (try dsimp only at hSw); go_simp; (try with_reducible rfl))
                          simp only [Act.put, List.setIfInBounds_toArray, List.set_cons_zero, List.set_cons_succ]
                          refine wpAnyH_ready (rs := [24]) (by kernel_rfl) (by simp) ?_
                          refine AllReadyH.cons (o := ⟨none, _, _, _, _, _⟩) rfl (fun K hK => ?_) AllReadyH.nil
                          go_simp
                          refine hK.out _ _ ?_ (fun hNew => ?_)
                          · ((try dsimp only); (refine ⟨?_, ?_, ?_, ?_⟩ <;> first | assumption | exact cell_alloc (by assumption) _))
                          clear hK K hHeld
                          have hHeld := hNew
                          clear hNew
                          try simp only [Act.put, List.setIfInBounds_toArray, List.set_cons_zero, List.set_cons_succ]
                          refine wpAnyH_done (by kernel_rfl) ?_ _
                          go_wp2_with fail
                          go_meet
                          case rel => exact ⟨rfl, pl', hL2, Lib.hid (((Keep8.of_below R4).trans hKp.out).trans hKp2.out)⟩
                  -->E
                case rest =>
                  obtain ⟨rfl, pl2, HLD, HKD⟩ := hcut
                  obtain ⟨wD, rfl⟩ : ∃ wD, wD = wc := ⟨_, rfl⟩
                  clear x14 z5 z6 z7 hlx k0 cK E0
                  have HED := Lib.hid (HKD.out.st.elems HEC.out)
                  have HXD := Lib.hid (HKD.out.box HXC.out (by decide) (by decide))
                  have HRD := Lib.hid (HKD.out.box HRC.out (by decide) (by decide))
                  have HIBD := Lib.hid (HKD.out.st.bk (HIB.out.bel HBAC.out))
                  have HQD := Lib.hid (HQ.out.keep HKD.out)
                  have HK2 : Hid ((kvO s b.blk p xs).2 = smallO b.v.v (normO b.x.v xs s.w) s.w s.w) := Lib.hid rfl
                  have x14 : wD.cell? ⟨r, 14, none⟩ = some (.slice (some ⟨lb, 0, none⟩) p1 lcap) := by rw [HRD.out.cell 14, ← HP1.out]; rfl
                  obtain ⟨_, _, _, _, _, _, _, _, z8, z9, z10, _⟩ := box_bk HXD.out
                  have hlx := (getD_end ps pl2 p).2 HPLN.out.symm
                  have k0 : wD.cell? ⟨lb, p * 2 + 1, none⟩ = some pl2.vv := by have h9 := (HLD.out.cells HPLN.out (Nat.le_refl p)).2; rwa [hlx] at h9
                  have cV : ∀ V, Below wD.heap.size wD V → Calls Tryz.prog 46 #[.agg #[.int .i64 b.v.r, .int .i64 b.v.c, .slice b.v.a b.v.n b.v.cap], .slice ga s.w gac] V fun e w' => GivesT (smallO b.v.v (normO b.x.v xs s.w) s.w s.w) s.w w' e ∧ Below V.heap.size V w' := fun V hV =>
                    (quantsD b.v ga gac _ s.w s.w HM5.out.1 HM5.out.2.1 HM5.out.2.2 (by omega) (by omega) HWW.out V (HIBD.out.2.2.2.2.1.bel hV) (HED.out.below hV)).mono (fun e w' h => ⟨h.1.t, h.2⟩)
                  have E0 : Below wD.heap.size wD wD.drew := (Below.refl _ _).drew
                  go_upto_region 17 with (fail)
                  go_cut [13] from 128 to 148 (fun v wx => v = .slice qa s.w qcap ∧ ∃ pl', Hid (LoopO w9 wx lb lcap p s (newO Wn K p t) ps (n + 1) (n + 1) pl') ∧ Hid (Keep8 wD wx))
                  case first =>
                    --<F
                    as_aux_lemma =>
                      have HS0 := And.intro x14 (And.intro z8 (And.intro z9 z10))
                      refine wp_region_held_drew (S := (fun w' => w'.cell? ⟨r, 14, none⟩ = some (.slice (some ⟨lb, 0, none⟩) p1 lcap) ∧ w'.cell? ⟨w0.heap.size, 8, none⟩ = some (.int .i64 b.v.r) ∧ w'.cell? ⟨w0.heap.size, 9, none⟩ = some (.int .i64 b.v.c) ∧ w'.cell? ⟨w0.heap.size, 10, none⟩ = some (.slice b.v.a b.v.n b.v.cap))) (by kernel_rfl) ?_ (fun hHeld => ?_)
                      · exact HS0
                      refine wpAnyH_take (i := 0) (oi := ⟨some 128, _, _, _, _, _⟩) (v := ?_) rfl (by kernel_rfl) (by kernel_rfl) (by kernel_rfl) (fun _ _ _ h => h) (Or.inl ⟨by rfl, ?hy26⟩) hHeld ?rest26
                      case hy26 => (intro W9 hSw; (try dsimp only at hSw); go_simp; (try with_reducible rfl))
                      simp only [Act.put, List.setIfInBounds_toArray, List.set_cons_zero, List.set_cons_succ]
                      refine wpAnyH_take (i := 1) (oi := ⟨some 129, _, _, _, _, _⟩) (v := ?_) rfl (by kernel_rfl) (by kernel_rfl) (by kernel_rfl) (fun _ _ _ h => h) (Or.inl ⟨by rfl, ?hy27⟩) hHeld ?rest27
                      case hy27 => (intro W9 hSw; (try dsimp only at hSw); go_simp; (try with_reducible rfl))
                      simp only [Act.put, List.setIfInBounds_toArray, List.set_cons_zero, List.set_cons_succ]
                      refine wpAnyH_take (i := 2) (oi := ⟨some 130, _, _, _, _, _⟩) (v := ?_) rfl (by kernel_rfl) (by kernel_rfl) (by kernel_rfl) (fun _ _ _ h => h) (Or.inl ⟨by rfl, ?hy28⟩) hHeld ?rest28
                      case hy28 => (intro W9 hSw; (try dsimp only at hSw); go_simp; (try with_reducible rfl))
                      simp only [Act.put, List.setIfInBounds_toArray, List.set_cons_zero, List.set_cons_succ]
                      refine wpAnyH_take (i := 3) (oi := ⟨some 131, _, _, _, _, _⟩) (v := ?_) rfl (by kernel_rfl) (by kernel_rfl) (by kernel_rfl) (fun _ _ _ h => h) (Or.inl ⟨by rfl, ?hy29⟩) hHeld ?rest29
                      case hy29 => (intro W9 hSw; (try dsimp only at hSw); go_simp; (try with_reducible rfl))
                      simp only [Act.put, List.setIfInBounds_toArray, List.set_cons_zero, List.set_cons_succ]
                      refine wpAnyH_take (i := 4) (oi := ⟨some 132, _, _, _, _, _⟩) (v := ?_) rfl (by kernel_rfl) (by kernel_rfl) (by kernel_rfl) (fun _ _ _ h => h) (Or.inl ⟨by rfl, ?hy30⟩) hHeld ?rest30
                      case hy30 => (intro W9 hSw; (try dsimp only at hSw); go_simp; (try with_reducible rfl))
                      simp only [Act.put, List.setIfInBounds_toArray, List.set_cons_zero, List.set_cons_succ]
                      refine wpAnyH_take (i := 5) (oi := ⟨some 133, _, _, _, _, _⟩) (v := ?_) rfl (by kernel_rfl) (by kernel_rfl) (by kernel_rfl) (fun _ _ _ h => h) (Or.inl ⟨by rfl, ?hy31⟩) hHeld ?rest31
                      case hy31 => (intro W9 hSw; (try dsimp only at hSw); go_simp; (try with_reducible rfl))
                      simp only [Act.put, List.setIfInBounds_toArray, List.set_cons_zero, List.set_cons_succ]
                      refine wpAnyH_take (i := 6) (oi := ⟨some 134, _, _, _, _, _⟩) (v := ?_) rfl (by kernel_rfl) (by kernel_rfl) (by kernel_rfl) (fun _ _ _ h => h) (Or.inl ⟨by rfl, ?hy32⟩) hHeld ?rest32
                      case hy32 => (intro W9 hSw; (try dsimp only at hSw); go_simp; (try with_reducible rfl))
                      simp only [Act.put, List.setIfInBounds_toArray, List.set_cons_zero, List.set_cons_succ]
                      refine wpAnyH_take (i := 7) (oi := ⟨some 135, _, _, _, _, _⟩) (v := ?_) rfl (by kernel_rfl) (by kernel_rfl) (by kernel_rfl) (fun _ _ _ h => h) (Or.inl ⟨by rfl, ?hy33⟩) hHeld ?rest33
                      case hy33 => (intro W9 hSw; (try dsimp only at hSw); go_simp; (try with_reducible rfl))
                      simp only [Act.put, List.setIfInBounds_toArray, List.set_cons_zero, List.set_cons_succ]
                      refine wpAnyH_take (i := 8) (oi := ⟨some 136, _, _, _, _, _⟩) (v := ?_) rfl (by kernel_rfl) (by kernel_rfl) (by kernel_rfl) (fun _ _ _ h => h) (Or.inl ⟨by rfl, ?hy34⟩) hHeld ?rest34
                      case hy34 => (intro W9 hSw; (try dsimp only at hSw); go_simp; (try with_reducible rfl))
                      simp only [Act.put, List.setIfInBounds_toArray, List.set_cons_zero, List.set_cons_succ]
                      refine wpAnyH_take (i := 9) (oi := ⟨some 137, _, _, _, _, _⟩) (v := ?_) rfl (by kernel_rfl) (by kernel_rfl) (by kernel_rfl) (fun _ _ _ h => h) (Or.inl ⟨by rfl, ?hy35⟩) hHeld ?rest35
                      case hy35 => (intro W9 hSw; (try dsimp only at hSw); go_simp; (try with_reducible rfl))
                      simp only [Act.put, List.setIfInBounds_toArray, List.set_cons_zero, List.set_cons_succ]
                      refine wpAnyH_take (i := 10) (oi := ⟨some 138, _, _, _, _, _⟩) (v := ?_) rfl (by kernel_rfl) (by kernel_rfl) (by kernel_rfl) (fun _ _ _ h => h) (Or.inl ⟨by rfl, ?hy36⟩) hHeld ?rest36
                      case hy36 => (intro W9 hSw; (try dsimp only at hSw); go_simp; (try with_reducible rfl))
                      simp only [Act.put, List.setIfInBounds_toArray, List.set_cons_zero, List.set_cons_succ]
                      refine wpAnyH_take (i := 11) (oi := ⟨some 139, _, _, _, _, _⟩) (v := ?_) rfl (by kernel_rfl) (by kernel_rfl) (by kernel_rfl) (fun _ _ _ h => h) (Or.inl ⟨by rfl, ?hy37⟩) hHeld ?rest37
                      case hy37 => (intro W9 hSw; (try dsimp only at hSw); go_simp; (try with_reducible rfl))
                      simp only [Act.put, List.setIfInBounds_toArray, List.set_cons_zero, List.set_cons_succ]
                      refine wpAnyH_take (i := 13) (oi := ⟨some 141, _, _, _, _, _⟩) (v := ?_) rfl (by kernel_rfl) (by kernel_rfl) (by kernel_rfl) (fun _ _ _ h => h) (Or.inl ⟨by rfl, ?hy38⟩) hHeld ?rest38
                      case hy38 => (intro W9 hSw; (try dsimp only at hSw); go_simp; (try with_reducible rfl))
                      simp only [Act.put, List.setIfInBounds_toArray, List.set_cons_zero, List.set_cons_succ]
                      refine wpAnyH_take (i := 14) (oi := ⟨some 142, _, _, _, _, _⟩) (v := ?_) rfl (by kernel_rfl) (by kernel_rfl) (by kernel_rfl) (fun _ _ _ h => h) (Or.inl ⟨by rfl, ?hy39⟩) hHeld ?rest39
                      case hy39 => (intro W9 hSw; (try dsimp only at hSw); go_simp; (try with_reducible rfl))
                      simp only [Act.put, List.setIfInBounds_toArray, List.set_cons_zero, List.set_cons_succ]
                      refine wpAnyH_take (i := 15) (oi := ⟨some 143, _, _, _, _, _⟩) (v := ?_) rfl (by kernel_rfl) (by kernel_rfl) (by kernel_rfl) (fun _ _ _ h => h) (Or.inl ⟨by rfl, ?hy40⟩) hHeld ?rest40
                      case hy40 => (intro W9 hSw; (try dsimp only at hSw); go_simp; (try with_reducible rfl))
                      simp only [Act.put, List.setIfInBounds_toArray, List.set_cons_zero, List.set_cons_succ]
                      refine wpAnyH_ready (rs := [12, 16]) (by kernel_rfl) (by simp) ?_
                      refine AllReadyH.cons (o := ⟨some 140, _, _, _, _, _⟩) rfl (fun K hK => ?_) (AllReadyH.cons (o := ⟨some 144, _, _, _, _, _⟩) rfl (fun K hK => ?_) AllReadyH.nil)
                      · go_simp
                        refine hK.out _ _ ?_ (fun hNew => ?_)
                        · ((try dsimp only); (refine ⟨?_, ?_, ?_, ?_⟩ <;> first | assumption | exact cell_alloc (by assumption) _))
                        clear hK K hHeld
                        have hHeld := hNew
                        clear hNew
                        try simp only [Act.put, List.setIfInBounds_toArray, List.set_cons_zero, List.set_cons_succ]
                        refine wpAnyH_ready (rs := [16]) (by kernel_rfl) (by simp) ?_
                        refine AllReadyH.cons (o := ⟨some 144, _, _, _, _, _⟩) rfl (fun K hK => ?_) AllReadyH.nil
                        go_simp
                        (go_at_call 46; (with_reducible refine (cV _ E0).mono ?_); rintro e wE ⟨⟨qa2, qc2, rfl, hTK⟩, hb4⟩)
                        have R4 := below_two E0 hb4
                        have kb1 := cell_kept6 R4 x14
                        have kb5 := cell_kept6 R4 z8
                        have kb6 := cell_kept6 R4 z9
                        have kb7 := cell_kept6 R4 z10
                        have k2 := cell_kept6 R4 k0
                        have k3 := fun o => cell_alloc k2 o
                        obtain ⟨gh, ch, w2, pl', hrun, hc2, hf2, hKp, hKp2, hL2⟩ := (HLD.out.bel R4).putV' HPLN.out qa2 qc2 _ hTK (by rw [HNEW.out, HK2.out]) (by omega)
                        have RBE := hKp.out.box (HRD.out.bel R4) (by decide) (by decide)
                        have XBE := hKp.out.box (HXD.out.bel R4) (by decide) (by decide)
                        have m1 : w2.cell? ⟨r, 14, none⟩ = some (.slice (some ⟨lb, 0, none⟩) p1 lcap) := by rw [RBE.cell 14, ← HP1.out]; rfl
                        obtain ⟨_, _, _, _, _, _, _, _, m5, m6, m7, _⟩ := box_bk XBE
                        have RBF := hKp2.out.box RBE (by decide) (by decide)
                        have XBF := hKp2.out.box XBE (by decide) (by decide)
                        have n1 := RBF.cell 14
                        rw [show (dcells W (.slice (some ⟨lb, 0, none⟩) (p + 1) lcap))[14]? = some (.slice (some ⟨lb, 0, none⟩) (p + 1) lcap) from rfl, HP1.out] at n1
                        obtain ⟨_, _, _, _, _, _, _, _, n5, n6, n7, _⟩ := box_bk XBF
                        clear RBE XBE RBF XBF
                        (try go_wp2_with fail)
                        refine hK.out _ _ ?_ (fun hNew => ?_)
                        · ((try dsimp only); (refine ⟨?_, ?_, ?_, ?_⟩ <;> first | assumption | exact cell_alloc (by assumption) _))
                        clear hK K hHeld
                        have hHeld := hNew
                        clear hNew
                        try simp only [Act.put, List.setIfInBounds_toArray, List.set_cons_zero, List.set_cons_succ]
                        refine wpAnyH_ready (rs := [17]) (by kernel_rfl) (by simp) ?_
                        refine AllReadyH.cons (o := ⟨some 145, _, _, _, _, _⟩) rfl (fun K hK => ?_) AllReadyH.nil
                        go_simp
                        refine hK.out _ _ ?_ (fun hNew => ?_)
                        · ((try dsimp only); (refine ⟨?_, ?_, ?_, ?_⟩ <;> first | assumption | exact cell_alloc (by assumption) _))
                        clear hK K hHeld
                        have hHeld := hNew
                        clear hNew
                        try simp only [Act.put, List.setIfInBounds_toArray, List.set_cons_zero, List.set_cons_succ]
                        refine wpAnyH_ready (rs := [18]) (by kernel_rfl) (by simp) ?_
                        refine AllReadyH.cons (o := ⟨some 146, _, _, _, _, _⟩) rfl (fun K hK => ?_) AllReadyH.nil
                        ((with_reducible refine step_append_run (o := ⟨some 146, _, _, _, _, _⟩) ?_ (.tmp 140) (.tmp 145) 54 ?_ _ _ ?_ ?_ hrun ?_); rfl; rfl; rfl; rfl)
                        refine hK.out _ _ ?_ (fun hNew => ?_)
                        · ((try dsimp only); (refine ⟨?_, ?_, ?_, ?_⟩ <;> first | assumption | exact cell_alloc (by assumption) _))
                        clear hK K hHeld
                        have hHeld := hNew
                        clear hNew
                        try simp only [Act.put, List.setIfInBounds_toArray, List.set_cons_zero, List.set_cons_succ]
                        refine wpAnyH_take (i := 19) (oi := ⟨some 147, _, _, _, _, _⟩) (v := ?_) rfl (by kernel_rfl) (by kernel_rfl) (by kernel_rfl) (fun _ _ _ h => h) (Or.inl ⟨by rfl, ?hy41⟩) hHeld ?rest41
                        case hy41 => (intro W9 hSw; (try dsimp only at hSw); go_simp; (try with_reducible rfl))
                        simp only [Act.put, List.setIfInBounds_toArray, List.set_cons_zero, List.set_cons_succ]
                        refine wpAnyH_take (i := 20) (oi := ⟨some 148, _, _, _, _, _⟩) (v := ?_) rfl (by kernel_rfl) (by kernel_rfl) (by kernel_rfl) (fun _ _ _ h => h) (Or.inl ⟨by rfl, ?hy42⟩) hHeld ?rest42
                        case hy42 => (intro W9 hSw; (try dsimp only at hSw); go_simp; (try with_reducible rfl))
                        simp only [Act.put, List.setIfInBounds_toArray, List.set_cons_zero, List.set_cons_succ]
                        refine wpAnyH_ready (rs := [21]) (by kernel_rfl) (by simp) ?_
                        refine AllReadyH.cons (o := ⟨none, _, _, _, _, _⟩) rfl (fun K hK => ?_) AllReadyH.nil
                        go_simp
                        refine hK.out _ _ ?_ (fun hNew => ?_)
                        · ((try dsimp only); (refine ⟨?_, ?_, ?_, ?_⟩ <;> first | assumption | exact cell_alloc (by assumption) _))
                        clear hK K hHeld
                        have hHeld := hNew
                        clear hNew
                        try simp only [Act.put, List.setIfInBounds_toArray, List.set_cons_zero, List.set_cons_succ]
                        refine wpAnyH_done (by kernel_rfl) ?_ _
                        go_wp2_with fail
                        go_meet
                        case rel => exact ⟨rfl, pl', hL2, Lib.hid (((Keep8.of_below R4).trans hKp.out).trans hKp2.out)⟩
                      · go_simp
                        (go_at_call 46; (with_reducible refine (cV _ E0).mono ?_); rintro e wE ⟨⟨qa2, qc2, rfl, hTK⟩, hb4⟩)
                        have R4 := below_two E0 hb4
                        have kb1 := cell_kept6 R4 x14
                        have kb5 := cell_kept6 R4 z8
                        have kb6 := cell_kept6 R4 z9
                        have kb7 := cell_kept6 R4 z10
                        have k2 := cell_kept6 R4 k0
                        have k3 := fun o => cell_alloc k2 o
                        obtain ⟨gh, ch, w2, pl', hrun, hc2, hf2, hKp, hKp2, hL2⟩ := (HLD.out.bel R4).putV' HPLN.out qa2 qc2 _ hTK (by rw [HNEW.out, HK2.out]) (by omega)
                        have RBE := hKp.out.box (HRD.out.bel R4) (by decide) (by decide)
                        have XBE := hKp.out.box (HXD.out.bel R4) (by decide) (by decide)
                        have m1 : w2.cell? ⟨r, 14, none⟩ = some (.slice (some ⟨lb, 0, none⟩) p1 lcap) := by rw [RBE.cell 14, ← HP1.out]; rfl
                        obtain ⟨_, _, _, _, _, _, _, _, m5, m6, m7, _⟩ := box_bk XBE
                        have RBF := hKp2.out.box RBE (by decide) (by decide)
                        have XBF := hKp2.out.box XBE (by decide) (by decide)
                        have n1 := RBF.cell 14
                        rw [show (dcells W (.slice (some ⟨lb, 0, none⟩) (p + 1) lcap))[14]? = some (.slice (some ⟨lb, 0, none⟩) (p + 1) lcap) from rfl, HP1.out] at n1
                        obtain ⟨_, _, _, _, _, _, _, _, n5, n6, n7, _⟩ := box_bk XBF
                        clear RBE XBE RBF XBF
                        (try go_wp2_with fail)
                        refine hK.out _ _ ?_ (fun hNew => ?_)
                        · ((try dsimp only); (refine ⟨?_, ?_, ?_, ?_⟩ <;> first | assumption | exact cell_alloc (by assumption) _))
                        clear hK K hHeld
                        have hHeld := hNew
                        clear hNew
                        try simp only [Act.put, List.setIfInBounds_toArray, List.set_cons_zero, List.set_cons_succ]
                        refine wpAnyH_ready (rs := [12, 17]) (by kernel_rfl) (by simp) ?_
                        refine AllReadyH.cons (o := ⟨some 140, _, _, _, _, _⟩) rfl (fun K hK => ?_) (AllReadyH.cons (o := ⟨some 145, _, _, _, _, _⟩) rfl (fun K hK => ?_) AllReadyH.nil)
                        · go_simp
                          refine hK.out _ _ ?_ (fun hNew => ?_)
                          · ((try dsimp only); (refine ⟨?_, ?_, ?_, ?_⟩ <;> first | assumption | exact cell_alloc (by assumption) _))
                          clear hK K hHeld
                          have hHeld := hNew
                          clear hNew
                          try simp only [Act.put, List.setIfInBounds_toArray, List.set_cons_zero, List.set_cons_succ]
                          refine wpAnyH_ready (rs := [17]) (by kernel_rfl) (by simp) ?_
                          refine AllReadyH.cons (o := ⟨some 145, _, _, _, _, _⟩) rfl (fun K hK => ?_) AllReadyH.nil
                          go_simp
                          refine hK.out _ _ ?_ (fun hNew => ?_)
                          · ((try dsimp only); (refine ⟨?_, ?_, ?_, ?_⟩ <;> first | assumption | exact cell_alloc (by assumption) _))
                          clear hK K hHeld
                          have hHeld := hNew
                          clear hNew
                          try simp only [Act.put, List.setIfInBounds_toArray, List.set_cons_zero, List.set_cons_succ]
                          refine wpAnyH_ready (rs := [18]) (by kernel_rfl) (by simp) ?_
                          refine AllReadyH.cons (o := ⟨some 146, _, _, _, _, _⟩) rfl (fun K hK => ?_) AllReadyH.nil
                          ((with_reducible refine step_append_run (o := ⟨some 146, _, _, _, _, _⟩) ?_ (.tmp 140) (.tmp 145) 54 ?_ _ _ ?_ ?_ hrun ?_); rfl; rfl; rfl; rfl)
                          refine hK.out _ _ ?_ (fun hNew => ?_)
                          · ((try dsimp only); (refine ⟨?_, ?_, ?_, ?_⟩ <;> first | assumption | exact cell_alloc (by assumption) _))
                          clear hK K hHeld
                          have hHeld := hNew
                          clear hNew
                          try simp only [Act.put, List.setIfInBounds_toArray, List.set_cons_zero, List.set_cons_succ]
                          refine wpAnyH_take (i := 19) (oi := ⟨some 147, _, _, _, _, _⟩) (v := ?_) rfl (by kernel_rfl) (by kernel_rfl) (by kernel_rfl) (fun _ _ _ h => h) (Or.inl ⟨by rfl, ?hy43⟩) hHeld ?rest43
                          case hy43 => (intro W9 hSw; (try dsimp only at hSw); go_simp; (try with_reducible rfl))
                          simp only [Act.put, List.setIfInBounds_toArray, List.set_cons_zero, List.set_cons_succ]
                          refine wpAnyH_take (i := 20) (oi := ⟨some 148, _, _, _, _, _⟩) (v := ?_) rfl (by kernel_rfl) (by kernel_rfl) (by kernel_rfl) (fun _ _ _ h => h) (Or.inl ⟨by rfl, ?hy44⟩) hHeld ?rest44
                          case hy44 => (intro W9 hSw; (try dsimp only at hSw); go_simp; (try with_reducible rfl))
                          simp only [Act.put, List.setIfInBounds_toArray, List.set_cons_zero, List.set_cons_succ]
                          refine wpAnyH_ready (rs := [21]) (by kernel_rfl) (by simp) ?_
                          refine AllReadyH.cons (o := ⟨none, _, _, _, _, _⟩) rfl (fun K hK => ?_) AllReadyH.nil
                          go_simp
                          refine hK.out _ _ ?_ (fun hNew => ?_)
                          · ((try dsimp only); (refine ⟨?_, ?_, ?_, ?_⟩ <;> first | assumption | exact cell_alloc (by assumption) _))
                          clear hK K hHeld
                          have hHeld := hNew
                          clear hNew
                          try simp only [Act.put, List.setIfInBounds_toArray, List.set_cons_zero, List.set_cons_succ]
                          refine wpAnyH_done (by kernel_rfl) ?_ _
                          go_wp2_with fail
                          go_meet
                          case rel => exact ⟨rfl, pl', hL2, Lib.hid (((Keep8.of_below R4).trans hKp.out).trans hKp2.out)⟩
                        · go_simp
                          refine hK.out _ _ ?_ (fun hNew => ?_)
                          · ((try dsimp only); (refine ⟨?_, ?_, ?_, ?_⟩ <;> first | assumption | exact cell_alloc (by assumption) _))
                          clear hK K hHeld
                          have hHeld := hNew
                          clear hNew
                          try simp only [Act.put, List.setIfInBounds_toArray, List.set_cons_zero, List.set_cons_succ]
                          refine wpAnyH_ready (rs := [12]) (by kernel_rfl) (by simp) ?_
                          refine AllReadyH.cons (o := ⟨some 140, _, _, _, _, _⟩) rfl (fun K hK => ?_) AllReadyH.nil
                          go_simp
                          refine hK.out _ _ ?_ (fun hNew => ?_)
                          · ((try dsimp only); (refine ⟨?_, ?_, ?_, ?_⟩ <;> first | assumption | exact cell_alloc (by assumption) _))
                          clear hK K hHeld
                          have hHeld := hNew
                          clear hNew
                          try simp only [Act.put, List.setIfInBounds_toArray, List.set_cons_zero, List.set_cons_succ]
                          refine wpAnyH_ready (rs := [18]) (by kernel_rfl) (by simp) ?_
                          refine AllReadyH.cons (o := ⟨some 146, _, _, _, _, _⟩) rfl (fun K hK => ?_) AllReadyH.nil
                          ((with_reducible refine step_append_run (o := ⟨some 146, _, _, _, _, _⟩) ?_ (.tmp 140) (.tmp 145) 54 ?_ _ _ ?_ ?_ hrun ?_); rfl; rfl; rfl; rfl)
                          refine hK.out _ _ ?_ (fun hNew => ?_)
                          · ((try dsimp only); (refine ⟨?_, ?_, ?_, ?_⟩ <;> first | assumption | exact cell_alloc (by assumption) _))
                          clear hK K hHeld
                          have hHeld := hNew
                          clear hNew
                          try simp only [Act.put, List.setIfInBounds_toArray, List.set_cons_zero, List.set_cons_succ]
                          refine wpAnyH_take (i := 19) (oi := ⟨some 147, _, _, _, _, _⟩) (v := ?_) rfl (by kernel_rfl) (by kernel_rfl) (by kernel_rfl) (fun _ _ _ h => h) (Or.inl ⟨by rfl, ?hy45⟩) hHeld ?rest45
                          case hy45 => (intro W9 hSw; (try dsimp only at hSw); go_simp; (try with_reducible rfl))
                          simp only [Act.put, List.setIfInBounds_toArray, List.set_cons_zero, List.set_cons_succ]
                          refine wpAnyH_take (i := 20) (oi := ⟨some 148, _, _, _, _, _⟩) (v := ?_) rfl (by kernel_rfl) (by kernel_rfl) (by kernel_rfl) (fun _ _ _ h => h) (Or.inl ⟨by rfl, ?hy46⟩) hHeld ?rest46
                          case hy46 => (intro W9 hSw; (try dsimp only at hSw); go_simp; (try with_reducible rfl))
                          simp only [Act.put, List.setIfInBounds_toArray, List.set_cons_zero, List.set_cons_succ]
                          refine wpAnyH_ready (rs := [21]) (by kernel_rfl) (by simp) ?_
                          refine AllReadyH.cons (o := ⟨none, _, _, _, _, _⟩) rfl (fun K hK => ?_) AllReadyH.nil
                          go_simp
                          refine hK.out _ _ ?_ (fun hNew => ?_)
                          · ((try dsimp only); (refine ⟨?_, ?_, ?_, ?_⟩ <;> first | assumption | exact cell_alloc (by assumption) _))
                          clear hK K hHeld
                          have hHeld := hNew
                          clear hNew
                          try simp only [Act.put, List.setIfInBounds_toArray, List.set_cons_zero, List.set_cons_succ]
                          refine wpAnyH_done (by kernel_rfl) ?_ _
                          go_wp2_with fail
                          go_meet
                          case rel => exact ⟨rfl, pl', hL2, Lib.hid (((Keep8.of_below R4).trans hKp.out).trans hKp2.out)⟩
                    -->F
                  case rest =>
                    obtain ⟨rfl, pl3, HLE, HKE⟩ := hcut
                    obtain ⟨wE, rfl⟩ : ∃ wE, wE = wc := ⟨_, rfl⟩
                    have HRE := Lib.hid (HKE.out.box HRD.out (by decide) (by decide))
                    have HXE := Lib.hid (HKE.out.box HXD.out (by decide) (by decide))
                    have HIBE := Lib.hid (HKE.out.st.bk HIBD.out)
                    have HQE := HQD.out.keep HKE.out
                    have HSBE := Lib.hid ((HLE.out.keep HSL9.out).box HSB9.out (by decide) (by decide))
                    have HVW := Lib.hid (HLE.out.view HPLN.out HSL9.out HPL9.out HLN.out hlt)
                    have HXX := Lib.hid ((((Keep8.of_below HBAC.out).trans HKD.out).trans HKE.out).st.elems hx.out)
                    obtain ⟨PS, hPS⟩ : ∃ PS, (List.range p).map (K n) ++ [kvO s b.blk p xs] = PS := ⟨_, rfl⟩
                    have HPSD := Lib.hid hPS
                    have HPS : Hid (PS.length = p1 ∧ ∀ i, i ≤ p → PS.getD i default = if i = p then newO Wn K p t n else K n i) := Lib.hid (by
                      rw [← hPS, HNEW.out]
                      exact ⟨by simp [HP1.out], fun i hi => ps_getD p (K n) _ i hi⟩)
                    obtain ⟨q, hq⟩ : ∃ q, qO s b.blk p xs = q := ⟨_, rfl⟩
                    rw [hq] at HQE
                    have HQQ := Lib.hid hq
                    obtain ⟨qb, qo, hqa, -⟩ := HQE.1.1.2.2.2 (by show 0 < s.w; omega)
                    simp only at hqa
                    subst hqa
                    have hqc1 : s.w ≤ qcap := HQE.1.2.1
                    have hqc2 : qcap ≤ 9223372036854775807 := HQE.1.2.2.1
                    have HQL : Hid (Elems .i8 wE (some ⟨qb, qo, none⟩) s.w q) := Lib.hid HQE.1.1
                    clear x14 z8 z9 z10 hlx k0 cV E0 HED HXD HRD HIBD HQD hPS hq HQE HLC HEC HXC HRC HQ HLD hlo HK1 HK2 HQN CT HBC
                    have H0A : 0 = 0 * hw := by omega
                    have HSZ : Hid (s.h * hw = s.w) := Lib.hid HH.out.1
                    go_wp2_with fail
                    go_loopw [14, 15] (fun o i wr => ∃ (h A : Nat), h ≤ s.h ∧ i = .int .i64 h ∧ Hid (A = h * hw) ∧ Hid (wr.ownsRow wE.heap.size 64 1 o A (((List.range h).flatMap fun k => ansO hw k q PS).map (.int .i8))) ∧ Hid (Below wE.heap.size wE wr)) (fun _ i _ => s.h - (intOf i).toNat)
                    case atStart => exact ⟨0, 0, by omega, rfl, Lib.hid H0A, Lib.hid (own_nil _ _ _), Lib.hid (Below.refl _ _)⟩
                    case round =>
                      clear H0A
                      obtain ⟨h, A, hh, rfl, hA, ho, hb⟩ := hrel
                      obtain ⟨w1, hw1⟩ : ∃ w1, w1 = wr := ⟨_, rfl⟩
                      subst hw1
                      by_cases hlt3 : h < s.h
                      · have y2 : w1.cell? ⟨w.heap.size, 2, none⟩ = some (.int .i64 s.h) := (HSBE.out.bel hb.out).cell 2
                        obtain ⟨A2, hA2⟩ : ∃ A2, A + hw = A2 := ⟨_, rfl⟩
                        obtain ⟨h2, hh2⟩ : ∃ h2, h + 1 = h2 := ⟨_, rfl⟩
                        have hA2' : A2 = h2 * hw := by rw [← hA2, ← hh2, hA.out, Nat.add_mul, Nat.one_mul]
                        have hle : A2 ≤ s.w := by rw [hA2', ← HSZ.out]; exact Nat.mul_le_mul_right _ (by omega)
                        have q1 : (h : Int) * (hw : Int) = (A : Int) := by rw [hA.out]; push_cast; rfl
                        have q2 : (h : Int) + 1 = (h2 : Int) := by omega
                        have q3 : (h2 : Int) * (hw : Int) = (A2 : Int) := by rw [hA2']; push_cast; rfl
                        have u1 : IntKind.i64.wrap (A : Int) = (A : Int) := IntWalk.i64_in _ (by omega)
                        have u2 : IntKind.i64.wrap (h2 : Int) = (h2 : Int) := IntWalk.i64_in _ (by omega)
                        have u3 : IntKind.i64.wrap (A2 : Int) = (A2 : Int) := IntWalk.i64_in _ (by omega)
                        have v1' : (A : Int) ≤ (A2 : Int) := by omega
                        have v2' : (A2 : Int) ≤ (qcap : Int) := by omega
                        have v3' : ¬ qcap = A := by omega
                        have v4' : A2 - A = hw := by omega
                        have HQ3 := Lib.hid q3
                        have HA2 := Lib.hid hA2'
                        have HAW := Lib.hid hA2
                        have HV1 := Lib.hid (HVW.out.bel hb.out)
                        have HQ1 : Hid (Elems .i8 w1 (some ⟨qb, qo + A, none⟩) hw (rowOf q hw h)) := Lib.hid (by
                          have h9 := ((HQL.out.below hb.out).drop A (by omega)).take hw (by omega)
                          unfold rowOf
                          rw [← hA.out]
                          exact h9)
                        obtain ⟨SC, hSC⟩ : ∃ SC, scoresO hw h q PS = SC := ⟨_, rfl⟩
                        have HSC := Lib.hid hSC
                        have HSCL : Hid (SC.length = p1) := Lib.hid (by rw [← hSC]; unfold scoresO; rw [List.length_map]; exact HPS.out.1)
                        have HR1 := Lib.hid (HRE.out.bel hb.out)
                        clear hSC hA2' hA2
                        go_wp2_with fail
                        go_loopw [16, 17, 18] (fun sc rw i wr => ∃ (j : Nat) (rows : List Rw), j ≤ p1 ∧ i = .int .i64 j ∧ Hid (wr.ownsRow w1.heap.size 21 1 sc j ((SC.take j).map (.int .i32))) ∧ Hid (wr.ownsRow w1.heap.size 24 1 rw j (rows.map rwv)) ∧ Hid (∀ x ∈ rows, x.In .i8 w1) ∧ Hid (∀ m, m < j → (rows.getD m default).n = hw ∧ (rows.getD m default).v = rowOf (PS.getD m default).2 hw h) ∧ Hid (Below w1.heap.size w1 wr)) (fun _ _ i _ => p1 - (intOf i).toNat)
                        case atStart => exact ⟨0, [], by omega, rfl, Lib.hid (own_nil _ _ _), Lib.hid (own_nil _ _ _), Lib.hid (by intro x hx; cases hx), Lib.hid (by intro m hm; omega), Lib.hid (Below.refl _ _)⟩
                        case round =>
                          clear y2
                          obtain ⟨j, rows, hj, rfl, hsc, hrw, hri, hrn, hb4⟩ := hrel
                          obtain ⟨w3, hw3⟩ : ∃ w3, w3 = wr := ⟨_, rfl⟩
                          subst hw3
                          by_cases hlt4 : j < p1
                          ·
                            --<G
                            have hjp : (j : Int) ≤ (p : Int) := by have := HP1.out; omega
                            obtain ⟨kb, kn, kc, vb, vn, vc, g, gv, c1, c2, hn1, hn2, c5, c6, hg1, hg2, hg3, hg4, hg5, hg6⟩ := HV1.out.at_ j (by have := HP1.out; omega)
                            obtain ⟨gA, gn, gcap, gV⟩ := g
                            obtain ⟨fA, fn, fcap, fV⟩ := gv
                            simp only at hg1 hg2 hg3 hg4 hg5 hg6 c5 c6
                            subst hg3 hg4
                            obtain ⟨gb, go', hga, -⟩ := hg1.1.2.2.2 (by show 0 < s.w; omega)
                            obtain ⟨fb, fo, hfa, -⟩ := hg2.1.2.2.2 (by show 0 < s.w; omega)
                            simp only at hga hfa
                            subst hga hfa
                            have hgc1 : s.w ≤ gcap := hg1.2.1
                            have hgc2 : gcap ≤ 9223372036854775807 := hg1.2.2.1
                            have hfc1 : s.w ≤ fcap := hg2.2.1
                            have hfc2 : fcap ≤ 9223372036854775807 := hg2.2.2.1
                            have v5' : (A2 : Int) ≤ (gcap : Int) := by omega
                            have v6' : ¬ gcap = A := by omega
                            have v7' : (A2 : Int) ≤ (fcap : Int) := by omega
                            have v8' : ¬ fcap = A := by omega
                            have b1 : (j : Int) < (p1 : Int) := by omega
                            have b2 : (n : Int) < (kn : Int) := by omega
                            have b3 : (n : Int) < (vn : Int) := by omega
                            have x14 : w3.cell? ⟨r, 14, none⟩ = some (.slice (some ⟨lb, 0, none⟩) p1 lcap) := by rw [(HR1.out.bel hb4.out).cell 14, ← HP1.out]; rfl
                            have c1a := cell_kept6 hb4.out c1
                            have c5a := cell_kept6 hb4.out c5
                            have hPj := HPS.out.2 j (by have := HP1.out; omega)
                            rw [← hPj] at hg5 hg6
                            have hE1 : Elems .i8 w1 (some ⟨gb, go' + A, none⟩) hw (rowOf (PS.getD j default).1 hw h) := by
                              have h9 := (hg1.1.drop A (by show A ≤ s.w; omega)).take hw (by show hw ≤ s.w - A; omega)
                              unfold rowOf
                              rw [← hA.out, ← hg5]
                              exact h9
                            have hE2 : Elems .i8 w1 (some ⟨fb, fo + A, none⟩) hw (rowOf (PS.getD j default).2 hw h) := by
                              have h9 := (hg2.1.drop A (by show A ≤ s.w; omega)).take hw (by show hw ≤ s.w - A; omega)
                              unfold rowOf
                              rw [← hA.out, ← hg6]
                              exact h9
                            have HE2 := Lib.hid hE2
                            have hSCj : SC.getD j 0 = wsum (prods (rowOf q hw h) (rowOf (PS.getD j default).1 hw h)) := by
                              rw [← HSC.out]
                              unfold scoresO
                              rw [List.getD_eq_getElem?_getD, List.getElem?_map, List.getD_eq_getElem?_getD, List.getElem?_eq_getElem (by rw [HPS.out.1]; exact hlt4)]
                              rfl
                            have hD0 : Below w1.heap.size w1 w3.drew := hb4.out.drew
                            have cD : ∀ V, Below w1.heap.size w1 V → Calls Tryz.prog 47 #[.slice (some ⟨qb, qo + A, none⟩) hw (qcap - A), .slice (some ⟨gb, go' + A, none⟩) hw (gcap - A)] V fun e w' => e = .returned (.int .i32 (SC.getD j 0)) ∧ Below V.heap.size V w' := fun V hV => by
                              rw [hSCj]
                              exact ref_dot _ hw _ _ _ hw _ _ V (HQ1.out.below hV) (hE1.below hV) (by omega)
                            obtain ⟨y, hy⟩ : ∃ y, SC.getD j 0 = y := ⟨_, rfl⟩
                            rw [hy] at cD
                            have HY := Lib.hid hy
                            have HI2 := Lib.hid (And.intro c2 c6)
                            have HC1 := Lib.hid (And.intro c1 c5)
                            have Hlt1 := Lib.hid hb4.out.size
                            clear hg1 hg2 hg5 hg6 hPj hE1 hE2 hSCj hy hgc1 hfc1 c1 c2 c5 c6
                            go_upto_region 27 with (fail)
                            go_cut [16] from 160 to 191 (fun v wx => Hid (wx.ownsRow w1.heap.size 21 1 v (j + 1) ((SC.take (j + 1)).map (.int .i32))) ∧ Hid (wx.ownsRow w1.heap.size 24 1 u17 j (rows.map rwv)) ∧ Hid (Below w1.heap.size w1 wx))
                            case first =>
                              --<H
                              as_aux_lemma =>
                                go_region_held3 (fun w' => w'.cell? ⟨r, 14, none⟩ = some (.slice (some ⟨lb, 0, none⟩) p1 lcap) ∧ w'.cell? ⟨lb, j * 2, none⟩ = some (.slice (some ⟨kb, 0, none⟩) kn kc) ∧ w'.cell? ⟨kb, n, none⟩ = some (.slice (some ⟨gb, go', none⟩) s.w gcap))
                                  (first | go_keep | (go_split_ands; refine ⟨?_, ?_, ?_⟩ <;> first | assumption | exact cell_alloc (by assumption) _))
                                  (first
                                    | (go_at_call 47; (with_reducible refine (cD _ hD0).mono ?_); rintro e wF ⟨rfl, hbF⟩
                                       have R3 : Below w3.heap.size w3 wF := ((Below.refl _ w3).drew).trans hbF
                                       have ka1 := cell_kept6 R3 x14
                                       have ka2 := cell_kept6 R3 c1a
                                       have ka3 := cell_kept6 R3 c5a
                                       have R1 := below_two hb4.out R3
                                       have oS := own_below hsc.out R3
                                       have oR := own_below hrw.out R3
                                       obtain ⟨gg, cap3, w4, hrun, hown4, hgr4, _⟩ := run_append_one wF w1.heap.size u16 j (SC.take j) y oS (by omega) R1.size
                                       have hR4 := own_blk (w' := w4) oR (fun k hk => hgr4.block k (oR.lt k hk).2 (fun e => (own_isT oR hk).ne (own_isT oS e.symm) (by decide) rfl))
                                       have hB4 : Below w1.heap.size w1 w4 := R1.grown hgr4 R1.size (fun k hk => (oS.lt k hk).1)
                                       have kc1 := cell_kept6 hB4 (show w1.cell? ⟨r, 14, none⟩ = some (.slice (some ⟨lb, 0, none⟩) p1 lcap) by rw [HR1.out.cell 14, ← HP1.out]; rfl)
                                       have kc2 := cell_kept6 hB4 HC1.out.1
                                       have kc3 := cell_kept6 hB4 HC1.out.2)
                                    | ((with_reducible refine step_append_run (o := ⟨some 191, _, _, _, _, _⟩) ?_ (.tmp 160) (.tmp 190) 36 ?_ _ _ ?_ ?_ hrun ?_); rfl; rfl; rfl; rfl))
                                go_wp2_with fail
                                go_meet
                                case rel =>
                                  refine ⟨Lib.hid ?_, Lib.hid hR4, Lib.hid hB4⟩
                                  have e : SC.take (j + 1) = SC.take j ++ [y] := by
                                    have h9 : j < SC.length := by rw [HSCL.out]; exact hlt4
                                    have h8 := HY.out
                                    rw [List.getD_eq_getElem?_getD, List.getElem?_eq_getElem h9] at h8
                                    simp only [Option.getD_some] at h8
                                    rw [List.take_add_one, List.getElem?_eq_getElem h9, h8]
                                    rfl
                                  rw [e]
                                  exact hown4
                              -->H
                            case rest =>
                              obtain ⟨hsc5, hrw5, hb5⟩ := hcut
                              obtain ⟨w5, rfl⟩ : ∃ w5, w5 = wc := ⟨_, rfl⟩
                              clear x14 c1a c5a cD hD0 hsc hrw
                              have x14 : w5.cell? ⟨r, 14, none⟩ = some (.slice (some ⟨lb, 0, none⟩) p1 lcap) := by rw [(HR1.out.bel hb5.out).cell 14, ← HP1.out]; rfl
                              have c2a := cell_kept6 hb5.out HI2.out.1
                              have c6a := cell_kept6 hb5.out HI2.out.2
                              have hqn : Hid (Rw.In .i8 w1 ⟨some ⟨fb, fo + A, none⟩, hw, fcap - A, rowOf (PS.getD j default).2 hw h⟩) := Lib.hid ⟨HE2.out, by show hw ≤ fcap - A; omega, by show fcap - A ≤ _; omega, ⟨fun e => (by cases e), fun x e _ => (by cases e; rfl)⟩⟩
                              obtain ⟨gg, cap3, w6, hrun, hown6, hgr6⟩ := rows_next' hrw5.out (some ⟨fb, fo + A, none⟩) hw (fcap - A) (rowOf (PS.getD j default).2 hw h) (by omega) hb5.out.size
                              obtain ⟨nq, hnq⟩ : ∃ nq, nq = (⟨some ⟨fb, fo + A, none⟩, hw, fcap - A, rowOf (PS.getD j default).2 hw h⟩ : Rw) := ⟨_, rfl⟩
                              have HS6 := Lib.hid (own_blk (w' := w6) hsc5.out (fun k hk => hgr6.block k (hsc5.out.lt k hk).2 (fun e => (own_isT hsc5.out hk).ne (own_isT hrw5.out e.symm) (by decide) rfl)))
                              have HB6 := Lib.hid (hb5.out.grown hgr6 hb5.out.size (fun k hk => (hrw5.out.lt k hk).1))
                              have HO6 := Lib.hid (hown6 nq hnq)
                              have hrl : rows.length = j := by have := hrw5.out.1; simpa using this
                              have HRI : Hid (∀ x ∈ rows ++ [nq], x.In .i8 w1) := Lib.hid (by
                                intro x hx
                                rcases List.mem_append.1 hx with h9 | h9
                                · exact hri.out x h9
                                · obtain rfl := List.mem_singleton.1 h9
                                  rw [hnq]; exact hqn.out)
                              have HRN : Hid (∀ m, m < j + 1 → ((rows ++ [nq]).getD m default).n = hw ∧ ((rows ++ [nq]).getD m default).v = rowOf (PS.getD m default).2 hw h) := Lib.hid (by
                                intro m hm
                                rcases Nat.lt_or_ge m j with h9 | h9
                                · rw [(getD_end rows _ m).1 (by omega)]; exact hrn.out m h9
                                · obtain rfl : m = j := by omega
                                  rw [(getD_end rows _ m).2 hrl.symm, hnq]; exact ⟨rfl, rfl⟩)
                              clear hown6 hgr6 hrl hri hrn hqn hsc5 hrw5 hb4 hnq
                              go_wp2_with (at_builtin; refine wpList_append_at (by rfl) _ _ _ (by rfl) _ _ (by rfl) (by rfl) hrun ?_)
                              clear hrun
                              go_roundw
                              case rel => first
                                | exact ⟨j + 1, rows ++ [nq], by omega, by go_num, HS6, HO6, HRI, HRN, HB6⟩
                                | exact ⟨_, _, _, _, _, _, ⟨j + 1, rows ++ [nq], by omega, by go_num, HS6, HO6, HRI, HRN, HB6⟩, rfl⟩
                              case measure => simp [intOf]; omega
                            -->G
                          · obtain rfl : j = p1 := by omega
                            --<I
                            as_aux_lemma =>
                              have hp1 := HP1.out
                              have hscf := hsc.out
                              rw [List.take_of_length_le (by rw [HSCL.out]; exact Nat.le_refl _)] at hscf
                              have hSw : ∀ x ∈ SC, (Lit.int .i32 x).wf = true := by
                                intro x hx
                                rw [← HSC.out] at hx
                                obtain ⟨kv, _, rfl⟩ := List.mem_map.1 hx
                                exact wsum_wf _
                              obtain ⟨sa, scap, hsv, hsE⟩ := own_form hscf (by omega) hSw
                              obtain ⟨ra, rcap, hrv, hrE⟩ := own_rws hrw.out (fun x hx => (hri.out x hx).below hb4.out) (by omega)
                              have hrl : rows.length = j := by have := hrw.out.1; simpa using this
                              obtain ⟨hsame, hsm⟩ := sameW_all (fun i hi => (hrn.out i (by omega)).1) (show 0 < rows.length by omega)
                              have HMV : Hid (mixL (soft 64 0 (topO SC) SC) rows j hw = ansO hw h q PS) := Lib.hid (by
                                rw [mixL_V, map_v_eq (PS := PS) (g := fun kv => rowOf kv.2 hw h) (by rw [hrl, HPS.out.1]) (fun i hi => (hrn.out i (by omega)).2)]
                                unfold ansO
                                rw [HSC.out, HPS.out.1])
                              have cS := ref_softmax 64 0 (topO SC) sa j scap SC w3 hsE (by omega) (by omega) (by omega) (fun h0 => topO_is HSCL.out h0)
                              have HRWS := Lib.hid hrE
                              have HSM := Lib.hid hsame
                              have HSM2 := Lib.hid hsm
                              have HBB4 := Lib.hid (below_two hb.out hb4.out)
                              have HO4 := Lib.hid (own_below ho.out hb4.out)
                              subst hsv hrv
                              clear hscf hSw hsE hrE hrl hsame hsm hsc hrw hri hrn hp1
                              go_wp2_with (first
                                | (go_at_call 49; (with_reducible refine cS.mono ?_); rintro e wG ⟨⟨ma, mcap, rfl, hmE⟩, hbG⟩
                                   have cM := ref_mix_yes ma ra j mcap rcap hw _ rows wG hmE (HRWS.out.below hbG) (by have := HP1.out; omega) HSM.out HSM2.out (by omega))
                                | (go_at_call 48; (with_reducible refine cM.mono ?_); rintro e wH ⟨⟨ya, ycap, rfl, hyE⟩, hbH⟩
                                   rw [HMV.out] at hyE
                                   have hyn : ya = none → ycap = 0 := fun e => by
                                     obtain ⟨b', o', hb', _⟩ := hyE.2.2.2 (by omega)
                                     rw [e] at hb'
                                     cases hb'
                                   have hbGH := below_two hbG hbH
                                   have oH := own_below HO4.out hbGH
                                   have hBH := below_two HBB4.out hbGH
                                   obtain ⟨v2, w7, hrun, ho7, hg7, _⟩ := run_append_elems (P := Tryz.prog) .i8 wH wE.heap.size 24 64 1 (by omega) Tryz.underlying24 info_i8 _ A _ oH ya hw ycap _ hyE hyn (by omega) (by omega) hBH.size
                                   rw [HAW.out] at ho7
                                   have HO7 : Hid (w7.ownsRow wE.heap.size 64 1 v2 A2 (((List.range h2).flatMap fun k => ansO hw k q PS).map (.int .i8))) := Lib.hid (by
                                     rw [← hh2, flat_snoc]
                                     exact ho7)
                                   have HB7 := Lib.hid (hBH.grown hg7 hBH.size (fun k hk => (oH.lt k hk).1))
                                   clear ho7 hg7 oH hBH hbGH hyn hyE hbG hbH cM cS)
                                | (at_builtin; refine wpList_append_at (by rfl) _ _ _ (by rfl) _ _ (by rfl) (by rfl) hrun ?_))
                              clear hrun
                              go_roundw
                              case rel => exact ⟨h2, A2, by omega, by go_num, HA2, HO7, HB7⟩
                              case measure => simp [intOf]; omega
                            -->I
                      · obtain rfl : h = s.h := by omega
                        have y2 : w1.cell? ⟨w.heap.size, 2, none⟩ = some (.int .i64 s.h) := (HSBE.out.bel hb.out).cell 2
                        have hof := ho.out
                        have hAw : A = s.w := by rw [hA.out, HSZ.out]
                        have HANS : ansAll s q PS = (List.range s.h).flatMap fun k => ansO hw k q PS := by unfold ansAll; rw [HHW.out]
                        rw [hAw, ← HANS] at hof
                        obtain ⟨oa, ocap, hov, hoE⟩ := own_form hof (by omega) (ansAll_wf s q PS)
                        obtain ⟨AN, hAN⟩ : ∃ AN, ansAll s q PS = AN := ⟨_, rfl⟩
                        rw [hAN] at hoE
                        have HAN := Lib.hid hAN
                        have cA := applyE b.o oa ocap AN s.w s.w HM6.out.1 HM6.out.2.1 HM6.out.2.2 (by omega) (by omega) HWW.out w1 (HIBE.out.2.2.2.2.2.1.bel hb.out) hoE
                        obtain ⟨_, _, _, _, _, _, _, _, _, _, _, z11, z12, z13, _⟩ := box_bk (HXE.out.bel hb.out)
                        have HXX1 := Lib.hid (HXX.out.below hb.out)
                        have HATT : Hid (attO s b.blk p xs PS = joinL 1 4 xs (mv b.o.v AN s.w s.w) s.w) := Lib.hid (by unfold attO; rw [HQQ.out, HAN.out]; rfl)
                        have HLAY : Hid (layO Wn K p t (n + 1) = gateO s b.blk (attO s b.blk p xs PS)) := Lib.hid (by
                          rw [← HPSD.out, ← HXS.out]
                          show gateO Wn.s (Wn.bs.getD n default) (attO Wn.s (Wn.bs.getD n default) p (layO Wn K p t n) ((List.range p).map (K n) ++ [kvO Wn.s (Wn.bs.getD n default) p (layO Wn K p t n)])) = _
                          rw [hbn.out, hsW.out])
                        subst hov
                        clear hof hAw HANS hoE hAN ho hA
                        --<J
                        go_upto_region 33 with (first
                          | (go_at_call 50; (with_reducible refine cA.mono ?_); rintro e wG ⟨⟨ua, ucap, rfl, hoE⟩, hbG⟩
                             have cJ := ref_join xa ua s.w xcap ucap 1 4 xs _ wG (HXX1.out.below hbG) hoE (by omega) (by omega) (by omega))
                          | (go_at_call 51; (with_reducible refine cJ.mono ?_); rintro e wH ⟨⟨xa2, xcap2, rfl, hxE⟩, hbH⟩
                             rw [← HATT.out] at hxE
                             have HBH := Lib.hid (below_two hb.out (below_two hbG hbH))
                             have HXH := Lib.hid hxE
                             clear hxE hbG hbH cJ cA hoE z11 z12 z13))
                        obtain ⟨X2, hX2⟩ : ∃ X2, attO s b.blk p xs PS = X2 := ⟨_, rfl⟩
                        rw [hX2] at HXH
                        have HX2 := Lib.hid hX2
                        obtain ⟨_, z1, _, _, _, _, _, _, _, _, _, _, _, _, z14, z15, z16, _⟩ := box_bk (HXE.out.bel HBH.out)
                        rw [HN2.out] at z1
                        have iy := (HIBE.out.2.1.1.below HBH.out)
                        rw [HN2.out] at iy
                        have cN := ref_norm b.y.a xa2 s.w b.y.cap xcap2 b.y.v X2 (invO X2) wH.drew iy HXH.out (by omega) (invO_is X2)
                        have HIBH := Lib.hid (HIBE.out.bel HBH.out)
                        clear iy hX2
                        go_cut [23] from 234 to 240 (fun v wx => ∃ ug ucap, v = .slice (some ⟨ug, 0, none⟩) s.i ucap ∧ ∃ wI, Hid (Below wH.heap.size wH wI) ∧ Hid (Below wI.heap.size wI wx) ∧ Hid (wx.ownsRow wI.heap.size 64 1 (.slice (some ⟨ug, 0, none⟩) s.i ucap) s.i ((smallO b.u.v (normO b.y.v X2 s.w) s.i s.w).map (.int .i8))))
                        case first =>
                          --<L
                          as_aux_lemma =>
                            go_region_held3 (fun w' => w'.cell? ⟨w0.heap.size, 1, none⟩ = some (.slice b.y.a s.w b.y.cap) ∧ w'.cell? ⟨w0.heap.size, 14, none⟩ = some (.int .i64 b.u.r) ∧ w'.cell? ⟨w0.heap.size, 15, none⟩ = some (.int .i64 b.u.c) ∧ w'.cell? ⟨w0.heap.size, 16, none⟩ = some (.slice b.u.a b.u.n b.u.cap))
                              (first | go_keep | (go_split_ands; refine ⟨?_, ?_, ?_, ?_⟩ <;> assumption))
                              (first
                                | (go_at_call 44; (with_reducible refine cN.mono ?_); rintro e wI ⟨⟨na, ncap, rfl, hnE⟩, hbI⟩
                                   have R3 : Below wH.heap.size wH wI := ((Below.refl _ wH).drew).trans hbI
                                   have ka1 := cell_kept6 R3 z1
                                   have ka14 := cell_kept6 R3 z14
                                   have ka15 := cell_kept6 R3 z15
                                   have ka16 := cell_kept6 R3 z16
                                   have cQ := quantsD b.u na ncap _ s.i s.w HM7.out.1 HM7.out.2.1 HM7.out.2.2 (by omega) (by omega) (Nat.le_trans (Nat.mul_le_mul i256 w128) (by decide)) wI (HIBH.out.2.2.2.2.2.2.1.bel R3) hnE)
                                | (go_at_call 46; (with_reducible refine cQ.mono ?_); rintro e wJ ⟨⟨⟨u0, un, ucap, uv⟩, rfl, _, huv, hun, _, huo⟩, hbJ⟩
                                   simp only at huv hun huo
                                   subst hun
                                   obtain ⟨ug, ucap', hu0⟩ := own_some huo (by omega)
                                   simp only [Value.slice.injEq, true_and] at hu0
                                   obtain ⟨rfl, rfl⟩ := hu0
                                   have kb1 := cell_kept6 hbJ ka1
                                   have kb14 := cell_kept6 hbJ ka14
                                   have kb15 := cell_kept6 hbJ ka15
                                   have kb16 := cell_kept6 hbJ ka16))
                            go_wp2_with fail
                            go_meet
                            case rel => exact ⟨ug, ucap, rfl, wI, Lib.hid R3, Lib.hid hbJ, Lib.hid huo⟩
                          -->L
                        case rest =>
                          obtain ⟨ug, ucap, rfl, wI, HBI, HBJ, HU⟩ := hcut
                          obtain ⟨wJ, rfl⟩ : ∃ wJ, wJ = wc := ⟨_, rfl⟩
                          clear cN z1 z14 z15 z16
                          obtain ⟨U, hU⟩ : ∃ U, smallO b.u.v (normO b.y.v X2 s.w) s.i s.w = U := ⟨_, rfl⟩
                          rw [hU] at HU
                          have HUU := Lib.hid hU
                          have HUL : Hid (U.length = s.i) := Lib.hid (by rw [← hU]; exact smallO_length _ _ _ _)
                          have HUW : Hid (∀ x ∈ U, (Lit.int .i8 x).wf = true) := Lib.hid (by rw [← hU]; exact smallO_wf _ _ _ _)
                          have HBHI := Lib.hid (below_two HBI.out HBJ.out)
                          have hui := HU.out
                          rw [← gateTo_zero U] at hui
                          have HU0 := Lib.hid hui
                          clear hU hui
                          go_wp2_with fail
                          go_loopw [24] (fun i wr => ∃ k : Nat, k ≤ s.i ∧ i = .int .i64 k ∧ Hid (wr.ownsRow wI.heap.size 64 1 (.slice (some ⟨ug, 0, none⟩) s.i ucap) s.i ((gateTo U k).map (.int .i8))) ∧ Hid (Below wI.heap.size wI wr)) (fun i _ => s.i - (intOf i).toNat)
                          case atStart => exact ⟨0, by omega, rfl, HU0, Lib.hid HBJ.out⟩
                          case round =>
                            clear HU0
                            obtain ⟨k, hk, rfl, hu, hbk⟩ := hrel
                            by_cases hlt5 : k < s.i
                            · obtain ⟨y, hy⟩ : ∃ y, U.getD k 0 = y := ⟨_, rfl⟩
                              have hc : wr.cell? ⟨ug, k, none⟩ = some (.int .i8 y) := by
                                have h9 := hu.out.cells (g := ug) rfl k (.int .i8 y) (by rw [List.getElem?_map, gateTo_at U k (by rw [HUL.out]; exact hlt5), hy]; rfl)
                                rwa [Addr.add_lit, Nat.zero_add] at h9
                              have hf := own_frozen hu.out k
                              by_cases hneg : y < 0
                              · have HN3 : Hid ((wr.setCell ⟨ug, k, none⟩ (.int .i8 0)).ownsRow wI.heap.size 64 1 (.slice (some ⟨ug, 0, none⟩) s.i ucap) s.i ((gateTo U (k + 1)).map (.int .i8))) := Lib.hid (by
                                  rw [gateTo_next U k (by rw [HUL.out]; exact hlt5), hy]
                                  have e : gate1 y = 0 := by unfold gate1; rw [if_neg (by omega)]
                                  rw [e]
                                  exact own_store hu.out k 0)
                                have HB3 : Hid (Below wI.heap.size wI (wr.setCell ⟨ug, k, none⟩ (.int .i8 0))) := Lib.hid (hbk.out.setCell (p := ⟨ug, k, none⟩) (hu.out.lt ug rfl).1 _)
                                clear hu hbk hy
                                go_wp2
                                go_roundw
                                case rel => exact ⟨k + 1, by omega, by go_num, HN3, HB3⟩
                                case measure => simp [intOf]; omega
                              · have HN3 : Hid (wr.ownsRow wI.heap.size 64 1 (.slice (some ⟨ug, 0, none⟩) s.i ucap) s.i ((gateTo U (k + 1)).map (.int .i8))) := Lib.hid (by
                                  rw [gateTo_pos U k (by rw [HUL.out]; exact hlt5) (by rw [hy]; omega)]
                                  exact hu.out)
                                have HB3 := hbk
                                clear hu hbk hy
                                go_wp2
                                go_roundw
                                case rel => exact ⟨k + 1, by omega, by go_num, HN3, HB3⟩
                                case measure => simp [intOf]; omega
                            · obtain rfl : k = s.i := by omega
                              have huf := hu.out
                              rw [gateTo_end U s.i HUL.out] at huf
                              obtain ⟨u9, uc9, hu9, hUE⟩ := own_form huf (by omega) (by
                                intro x hx
                                obtain ⟨y, hy, rfl⟩ := List.mem_map.1 hx
                                exact gate1_wf (HUW.out y hy))
                              cases hu9
                              have hBr := below_two HBH.out (HBI.out.trans (hbk.out.mono HBI.out.size))
                              have cA2 := applyE b.d (some ⟨ug, 0, none⟩) ucap (U.map gate1) s.w s.i HM8.out.1 HM8.out.2.1 HM8.out.2.2 (by omega) (by omega) (Nat.le_trans (Nat.mul_le_mul w128 i256) (by decide)) wr (HIBE.out.2.2.2.2.2.2.2.bel hBr) hUE
                              obtain ⟨_, _, _, _, _, _, _, _, _, _, _, _, _, _, _, _, _, z17, z18, z19⟩ := box_bk (HXE.out.bel hBr)
                              have HXR := Lib.hid (HXH.out.below (HBI.out.trans (hbk.out.mono HBI.out.size)))
                              have HLR := Lib.hid (HLE.out.bel hBr)
                              have HGA : Hid (gateO s b.blk X2 = joinL 1 4 X2 (mv b.d.v (U.map gate1) s.w s.i) s.w) := Lib.hid (by rw [← HUU.out]; rfl)
                              clear huf hUE hBr hu hbk
                              go_wp2_with (first
                                | (go_at_call 50; (with_reducible refine cA2.mono ?_); rintro e wM ⟨⟨da, dcap, rfl, hdE⟩, hbM⟩
                                   have cJ2 := ref_join xa2 da s.w xcap2 dcap 1 4 X2 _ wM (HXR.out.below hbM) hdE (by omega) (by omega) (by omega))
                                | (go_at_call 51; (with_reducible refine cJ2.mono ?_); rintro e wN ⟨⟨xa3, xcap3, rfl, hx3⟩, hbN⟩
                                   have HX3 : Hid (Elems .i32 wN xa3 s.w (layO Wn K p t (n + 1))) := Lib.hid (by rw [HLAY.out, HX2.out, HGA.out]; exact hx3)
                                   have HL3 := Lib.hid (HLR.out.bel (below_two hbM hbN))
                                   clear hx3 hbM hbN hdE cJ2 cA2 z17 z18 z19))
                              go_roundw
                              case rel => exact ⟨n + 1, xa3, xcap3, pl3, by omega, by go_num, rfl, HX3, HL3⟩
                              case measure => simp [intOf]; omega
                        -->J
        · obtain rfl : n = s.l := by omega
          --<M
          as_aux_lemma =>
            have hWr := hlo.out.wt HSL9.out HIN9.out
            have HRF := KPr.out.box HR9.out (by decide) (by decide)
            obtain ⟨X, hX⟩ : ∃ X, layO Wn K p t s.l = X := ⟨_, rfl⟩
            rw [hX] at hx
            have x10 : w0.cell? ⟨r, 10, none⟩ = some (.slice W.t.a s.w W.t.cap) := by rw [HRF.cell 10, ← HLAST.out]; rfl
            have x11 : w0.cell? ⟨r, 11, none⟩ = some (.int .i64 W.hd.r) := HRF.cell 11
            have x12 : w0.cell? ⟨r, 12, none⟩ = some (.int .i64 W.hd.c) := HRF.cell 12
            have x13 : w0.cell? ⟨r, 13, none⟩ = some (.slice W.hd.a W.hd.n W.hd.cap) := HRF.cell 13
            have it := hWr.2.2.1.1
            rw [HLAST.out] at it
            have cN := ref_norm W.t.a xa s.w W.t.cap xcap W.t.v X (invO X) w0.drew it hx.out (by omega) (invO_is X)
            have ihd := hWr.2.1
            have HOUT : Hid (outO Wn X = mv W.hd.v (normO W.t.v X s.w) s.v s.w) := Lib.hid (by rw [← HWN.out]; rfl)
            have HFIN : Hid (∀ w', Below w0.heap.size w0 w' → (∃ lv', DocS w' r lv' s W (p + 1) (stepK Wn K p t) ∧ (lv'.ownBlock = (Value.slice la p lc).ownBlock ∨ ∃ b, lv'.ownBlock = some b ∧ w.heap.size ≤ b)) ∧ AwayO w w' r (Value.slice la p lc).ownBlock) := Lib.hid (by
              intro w' hb'
              refine ⟨⟨.slice (some ⟨lb, 0, none⟩) (p + 1) lcap, ⟨HRF.bel hb', ⟨ps ++ [pl], (hlo.out.fin HPLN.out HSL9.out HPL9.out HLN.out ?_).bel hb'⟩, hWr.bel hb'⟩, ?_⟩, ?_⟩
              · intro l q hl
                unfold stepK partK
                have e : Wn.s.l = s.l := by rw [← HWN.out]; rfl
                rw [e]
                by_cases e2 : q = p
                · rw [if_pos ⟨e2, hl⟩, if_pos e2]
                · rw [if_neg (fun h => e2 h.1), if_neg e2]
              · rcases HLB.out with h9 | h9
                · exact .inl h9.symm
                · exact .inr ⟨lb, rfl, h9⟩
              · refine ⟨(hb'.os.trans hlo.out.os).trans HAW9.out.os, (hb'.tape.trans hlo.out.tape).trans HAW9.out.tape, (hb'.output.trans hlo.out.output).trans HAW9.out.output, Nat.le_trans HAW9.out.size (Nat.le_trans hlo.out.size hb'.size), ?_⟩
                intro k hk h1 h2
                have hk9 := Nat.lt_of_lt_of_le hk HAW9.out.size
                have hne : k ≠ lb := by
                  rintro rfl
                  rcases HLB.out with h9 | h9
                  · exact h2 h9.symm
                  · omega
                exact ((hb'.block k (Nat.lt_of_lt_of_le hk9 hlo.out.size)).trans (hlo.out.blk k hk9 hne)).trans (HAW9.out.block k hk h1 h2))
            have HXF := Lib.hid hX
            clear hWr HRF hX hx it y0
            have y0 : w0.cell? ⟨w.heap.size, 0, none⟩ = some (.int .i64 s.l) := (KPr.out.box HSB9.out (by decide) (by decide)).cell 0
            go_upto_region 41 with (fail)
            go_region_held3 (fun w' => w'.cell? ⟨r, 10, none⟩ = some (.slice W.t.a s.w W.t.cap) ∧ w'.cell? ⟨r, 11, none⟩ = some (.int .i64 W.hd.r) ∧ w'.cell? ⟨r, 12, none⟩ = some (.int .i64 W.hd.c) ∧ w'.cell? ⟨r, 13, none⟩ = some (.slice W.hd.a W.hd.n W.hd.cap))
              (first | go_keep | (go_split_ands; refine ⟨?_, ?_, ?_, ?_⟩ <;> assumption))
              (first
                | (go_at_call 44; (with_reducible refine cN.mono ?_); rintro e wI ⟨⟨na, ncap, rfl, hnE⟩, hbI⟩
                   have R3 : Below w0.heap.size w0 wI := ((Below.refl _ w0).drew).trans hbI
                   have ka0 := cell_kept6 R3 x10
                   have ka1 := cell_kept6 R3 x11
                   have ka2 := cell_kept6 R3 x12
                   have ka3 := cell_kept6 R3 x13
                   have cA := applyE W.hd na ncap _ s.v s.w HD.out.1 HD.out.2.1 HD.out.2.2 (by omega) (by omega) (Nat.le_trans (Nat.mul_le_mul v512 w128) (by decide)) wI (ihd.bel R3) hnE)
                | (go_at_call 50; (with_reducible refine cA.mono ?_); rintro e wJ ⟨⟨ua, ucap, rfl, huE⟩, hbJ⟩
                   have kb0 := cell_kept6 hbJ ka0
                   have kb1 := cell_kept6 hbJ ka1
                   have kb2 := cell_kept6 hbJ ka2
                   have kb3 := cell_kept6 hbJ ka3))
            have HUE : Hid (Elems .i32 wJ ua s.v (outO Wn (layO Wn K p t s.l))) := Lib.hid (by rw [HXF.out, HOUT.out]; exact huE)
            have HRES := Lib.hid (HFIN.out wJ (below_two R3 hbJ))
            clear y0 huE cA cN ka0 ka1 ka2 ka3 kb0 kb1 kb2 kb3 x10 x11 x12 x13 hnE hbI hbJ R3
            go_wp2
            go_ret
            exact ⟨⟨ua, ucap, rfl, HUE.out⟩, HRES.out.1, HRES.out.2⟩
          -->M

end Go.Proofs.YtoeihigdndkjeaaGreatDoor
