import Derived.Test.YtoeihigdndkjeaaGreatDoorJ27
import Derived.Test.YtoeihigdndkjeaaGreatDoorJ24
import Derived.Test.YtoeihigdndkjeaaGreatDoorJ05
import Derived.Test.YtoeihigdndkjeaaGreatDoorJ32
/-
  The document's Generate.
-/
namespace Go.Proofs.YtoeihigdndkjeaaGreatDoor
open Go.RowKit Go.Shelf
set_option linter.unusedVariables false

/-- what is asked of One -/
def OneC : Prop := ∀ (r t p : Nat) (lv : Value) (s : Sz) (ok : s.Ok) (W : Wt7) (K : KF8) (w : World), DocS w r lv s W p K → (W.l = s.l ∧ W.w = s.w ∧ W.h = s.h ∧ W.i = s.i ∧ W.v = s.v ∧ W.p = s.p) → wtB s W = true → t < s.v → p ≤ 199 →
      Calls Tryz.prog 22 #[.pointer (some ⟨r, 0, none⟩), .int .i64 t] w fun e w' => OneD s W r lv p t K w e w'
/-- a run of which nothing was fed -/
theorem docS_new {w : World} {r : Nat} {s : Sz} {W : Wt7} {K : KF8} (hb : Box w r 53 (dcells W (.slice none 0 0))) (hW : W.In w) : DocS w r (.slice none 0 0) s W 0 K :=
  ⟨hb, ⟨[], ⟨World.ownsRow_nil _ _ _ _, (by intro g hg; cases hg), (by intro x hx; cases hx), (by intro q hq; omega)⟩⟩, hW⟩

theorem HdT.gr {w w' : World} {g0 : Option Nat} {v : Value} {n base wd : Nat} {rows : List Rw} {X : TypeId} (h : HdT w base v n wd rows) (hg : w.grownBy w' g0) (hq : ∀ g, g0 = some g → IsT w g X) (n1 : 64 ≠ X) (n2 : 24 ≠ X) : HdT w' base v n wd rows :=
  ⟨own_blk h.own (fun k hk => hg.block k (h.own.lt k hk).2 (fun e => (own_isT h.own hk).ne (hq k e.symm) n2 rfl)),
   fun x hx => ⟨(h.rows x hx).1.blk fun y hy => hg.block _ ((h.rows x hx).1.2 y hy).lt (fun e => ((h.rows x hx).1.2 y hy).ne (hq _ e.symm) n1 rfl), (h.rows x hx).2⟩,
   fun k hk => (h.sl k hk).blk (hg.block k (h.own.lt k hk).2 (fun e => (own_isT h.own hk).ne (hq k e.symm) n2 rfl))⟩
theorem DocS.gr {w w' : World} {g0 : Option Nat} {r p : Nat} {lv : Value} {s : Sz} {W : Wt7} {K : KF8} {X : TypeId} (h : DocS w r lv s W p K) (hg : w.grownBy w' g0) (hq : ∀ g, g0 = some g → IsT w g X) (n1 : 64 ≠ X) (n2 : 24 ≠ X) (n3 : 56 ≠ X) (n4 : 53 ≠ X) (hW : W.In w') : DocS w' r lv s W p K := by
  obtain ⟨ps, hl⟩ := h.l
  refine ⟨(hg.block r h.box.lt (fun e => IsT.ne (g := r) ⟨_, _, h.box⟩ (hq r e.symm) n4 rfl)).trans h.box, ⟨ps, ?_⟩, hW⟩
  exact ⟨own_blk hl.own (fun k hk => hg.block k (hl.own.lt k hk).2 (fun e => (own_isT hl.own hk).ne (hq k e.symm) n3 rfl)),
    fun k hk => (hl.sl k hk).blk (hg.block k (hl.own.lt k hk).2 (fun e => (own_isT hl.own hk).ne (hq k e.symm) n3 rfl)),
    fun x hx => ⟨(hl.pl x hx).1.gr hg hq n1 n2, (hl.pl x hx).2.gr hg hq n1 n2⟩, hl.num⟩
set_option maxHeartbeats 4000000 in
set_option maxRecDepth 100000 in
theorem generateD (cOne : OneC) (s : Sz) (ok : s.Ok) (W : Wt7) (w : World) (hW : W.In w) (hsix : W.l = s.l ∧ W.w = s.w ∧ W.h = s.h ∧ W.i = s.i ∧ W.v = s.v ∧ W.p = s.p) (hwt : wtB s W = true) (h200 : s.p ≤ 200) (q : Rw) (hq : q.In .i64 w) (hn : q.n ≤ 1000) (most : Nat) (hc : check9 s.v s.p q.v most = 0) :
    Calls Tryz.prog 29 #[.agg W.cells, .slice q.a q.n q.cap, .int .i64 most] w fun e w' =>
      (∃ g : Rw, e = .returned (.slice g.a g.n g.cap) ∧ Elems .i64 w' g.a g.n g.v ∧ GenL s (W.nums s) q.v g.v ∧ g.n = most ∧ (∀ x, g.a = some x → w.heap.size ≤ x.block) ∧ g.n ≤ g.cap ∧ g.cap ≤ 9223372036854775807) ∧ Below w.heap.size w w' := by
  obtain ⟨c1, c2, c3, c4, c5⟩ := check9_ok hc
  rw [hq.1.1] at c4 c5
  have p256 := ok.bd.2.2.2.2.2.2
  have hv1 : 1 ≤ s.v := ok.bd.2.2.2.2.1.1
  have hm1 : most ≤ 257 := by omega
  have hpl : q.n + most ≤ s.p + 1 := by omega
  have hodd : ∀ t ∈ q.v, 0 ≤ t ∧ t < s.v := fun t ht => by
    rw [List.any_eq_false] at c2
    have := c2 t ht
    unfold odd9 at this
    simp at this
    omega
  have hn0 : 0 < q.n := by rw [← hq.1.1]; omega
  have HO := Lib.hid hodd
  have OK := Lib.hid ok
  have HQ := Lib.hid hq
  have HQL := Lib.hid hq.1.1
  have HWI := Lib.hid hW
  have HSIX := Lib.hid hsix
  have HWT := Lib.hid hwt
  have HONE := Lib.hid cOne
  clear hodd ok hq hW hsix hwt c1 c2 c3 c4 c5 hc cOne
  unfold Wt7.cells
  go_enter Tryz.func29, Tryz.ntmps29
  go_upto_region 1 with (fail)
  generalize hwa : World.alloc _ _ = wa
  have XW : Box wa w.heap.size 50 #[.int .i64 W.l, .int .i64 W.w, .int .i64 W.h, .int .i64 W.i, .int .i64 W.v, .int .i64 W.p, .int .i64 W.e.r, .int .i64 W.e.c, .slice W.e.a W.e.n W.e.cap, .slice W.ba W.bn W.bcap, .slice W.t.a W.t.n W.t.cap, .int .i64 W.hd.r, .int .i64 W.hd.c, .slice W.hd.a W.hd.n W.hd.cap] := by rw [← hwa]; exact box_new _ _ _
  have hBa : Below w.heap.size w wa := by rw [← hwa]; exact (Below.refl _ _).alloc (Nat.le_refl _) _
  clear hwa
  go_upto_region 2 with (first
    | (refine wpList_load_row rfl 50 _ rfl w.heap.size rfl 50 _ (0, 0) _ XW Tryz.underlying50 rfl (by kernel_rfl) ?_))
  generalize hwb : World.alloc _ _ = wb
  have XR : Box wb wa.heap.size 53 (dcells W (.slice none 0 0)) := by rw [← hwb]; exact box_new _ _ _
  have hBb : Below w.heap.size w wb := by rw [← hwb]; exact below_two hBa ((Below.refl _ _).alloc (Nat.le_refl _) _)
  have hrr : w.heap.size ≤ wa.heap.size := hBa.size
  obtain ⟨rr, hr⟩ : ∃ rr, wa.heap.size = rr := ⟨_, rfl⟩
  rw [hr] at XR hrr ⊢
  have HD0 : Hid (DocS wb rr (.slice none 0 0) s W ([] : List Int).length (runO (W.nums s) st09 (([] : List Int).map Int.toNat)).K) := Lib.hid (docS_new XR (HWI.out.bel hBb))
  have HF0 := Lib.hid ((HQ.out.below hBb).1)
  have HB0 := Lib.hid hBb
  have HN0 : Hid (∀ b o, q.a = some ⟨b, o, none⟩ → b ≠ rr) := Lib.hid (fun b o e e2 => by
    obtain ⟨b', o', hb', hc'⟩ := HQ.out.1.2.2.2 hn0
    rw [e] at hb'
    cases hb'
    have := World.block_lt_of_cell? _ _ (hc' 0 hn0)
    simp only at this
    omega)
  clear hwb XW XR hBa hBb hr
  go_wp2_with fail
  go_loopw [8, 9, 10] (fun o fd i wr => ∃ (k fn fcap : Nat) (fa : Option Addr) (fv said fed : List Int) (lv : Value), k ≤ most ∧ i = .int .i64 k ∧ fd = .slice fa fn fcap ∧ Hid (wr.ownsRow w.heap.size 3 1 o k (said.map (.int .i64))) ∧ Hid (DocS wr rr lv s W fed.length (runO (W.nums s) st09 (fed.map Int.toNat)).K) ∧ Hid (∀ g, lv.ownBlock = some g → w.heap.size ≤ g) ∧ Hid (Elems .i64 wr fa fn fv) ∧ Hid (∀ b o, fa = some ⟨b, o, none⟩ → b ≠ rr) ∧ Hid (fed ++ fv = q.v ++ said) ∧ Hid (said.length = k) ∧ Hid (0 < fn) ∧ Hid (GenL s (W.nums s) q.v said) ∧ Hid (∀ t ∈ said, 0 ≤ t ∧ t < s.v) ∧ Hid (Below w.heap.size w wr)) (fun _ _ i _ => most - (intOf i).toNat)
  case atStart => exact ⟨0, q.n, q.cap, q.a, q.v, [], [], _, by omega, rfl, rfl, Lib.hid (own_nil _ _ _), HD0, Lib.hid (by intro g hg; cases hg), HF0, HN0, Lib.hid (by simp), Lib.hid rfl, Lib.hid hn0, Lib.hid (genL_nil _ _ _), Lib.hid (by simp), HB0⟩
  case round =>
    clear HD0 HF0 HB0 HN0
    obtain ⟨k, fn, fcap, fa, fv, said, fed, lv, hk, rfl, rfl, ho, hD, hlv, hfE, hfne, hfd, hsl, hf0, hGL, hsb, hBl⟩ := hrel
    have hlen : fed.length + fn = q.n + k := by
      have := congrArg List.length hfd.out
      rw [List.length_append, List.length_append, hfE.out.1, hsl.out, HQL.out] at this
      exact this
    by_cases hlt : k < most
    · have hdb : ∀ t ∈ fv, 0 ≤ t ∧ t < s.v := fun t ht => by
        have hmem : t ∈ q.v ++ said := by rw [← hfd.out]; exact List.mem_append.2 (.inr ht)
        exact (List.mem_append.1 hmem).elim (HO.out t) (hsb.out t)
      have hdne : fv ≠ [] := fun e => by have h1 := hfE.out.1; rw [e] at h1; have := hf0.out; simp at h1; omega
      have hf : faultO s fed.length fv = 0 := fault_none hdb (by rw [hfE.out.1]; omega)
      have hrun := fed_step (W.nums s) fed fv hdne
      have cF := feedD HONE.out rr fn fcap lv s OK.out W ⟨[], fed.length, (runO (W.nums s) st09 (fed.map Int.toNat)).K⟩ wr hD.out HSIX.out HWT.out h200 (by show fed.length ≤ s.p; omega) fa fv hfE.out (by omega) hfne.out
      have hnx : nextO s (W.nums s) ⟨[], fed.length, (runO (W.nums s) st09 (fed.map Int.toNat)).K⟩ fv = runO (W.nums s) st09 ((fed ++ fv).map Int.toNat) := by
        unfold nextO
        rw [if_pos hf, hrun]
      have hpp : (runO (W.nums s) st09 ((fed ++ fv).map Int.toNat)).p = (fed ++ fv).length := by
        rw [runO_p, List.length_map]
        show 0 + _ = _
        omega
      have HF := Lib.hid hf
      have HRUN := Lib.hid hrun
      have HNX := Lib.hid hnx
      have HPP := Lib.hid hpp
      obtain ⟨B, hB⟩ := best_exists (outO (W.nums s) (runO (W.nums s) st09 ((fed ++ fv).map Int.toNat)).x) s.v
      obtain ⟨Bn, rfl, hBv⟩ := best_is hB (by omega)
      have HBEST := Lib.hid hB
      have HFV0 : Hid (0 < fv.length) := Lib.hid (by rw [hfE.out.1]; exact hf0.out)
      have HLL : Hid ((fed ++ fv).length = fed.length + fn) := Lib.hid (by rw [List.length_append, hfE.out.1])
      clear hdb hdne hf hrun hnx hpp hB hfE hfne
      go_wp2_with (first
        | (go_at_call 12; (with_reducible refine cF.mono ?_); rintro e wc ⟨v, lv2, rfl, -, hans, hD2, hlv2, hA2⟩
           obtain ⟨ya, yc, rfl, hyE⟩ := hans HF.out HFV0.out
           rw [HRUN.out] at hyE
           rw [HNX.out, HPP.out] at hD2
           have cM := ref_argmax ya s.v yc _ wc hyE Bn HBEST.out
           have HD2 := Lib.hid hD2
           have HA2 := Lib.hid hA2
           have HLV2 := Lib.hid hlv2
           rw [HF.out]
           clear cF hD2 hA2 hlv2 hans hyE)
        | (go_at_call 56; (with_reducible refine cM.mono ?_); rintro e wd ⟨rfl, dd, rfl⟩
           have RT : IsT wr rr 53 := ⟨_, _, hD.out.box⟩
           have hKT : ∀ g, lv.ownBlock = some g → IsT wr g 56 := fun g hg => by
             obtain ⟨ps, hl⟩ := hD.out.l
             exact own_isT hl.own hg
           have oC0 : wc.ownsRow w.heap.size 3 1 u8 k (said.map (.int .i64)) := own_blk ho.out (fun g hg => HA2.out.block g (ho.out.lt g hg).2 ((own_isT ho.out hg).ne RT (by decide)) (fun e => (own_isT ho.out hg).ne (hKT g e.symm) (by decide) rfl))
           have oC : (wc.drewN dd).ownsRow w.heap.size 3 1 u8 k (said.map (.int .i64)) := oC0
           have hBc : Below w.heap.size w wc := ⟨HA2.out.os.trans hBl.out.os, HA2.out.tape.trans hBl.out.tape, HA2.out.output.trans hBl.out.output, Nat.le_trans hBl.out.size HA2.out.size, fun j hj => (HA2.out.block j (Nat.lt_of_lt_of_le hj hBl.out.size) (by omega) (fun e => by have := hlv.out j e.symm; omega)).trans (hBl.out.block j hj)⟩
           have hBd : Below w.heap.size w (wc.drewN dd) := below_drewN hBc dd
           obtain ⟨v2, w5, hrun2, ho5, hg5, _⟩ := run_append_lits (P := Tryz.prog) .i64 (wc.drewN dd) w.heap.size 35 3 8 (by omega) Tryz.underlying35 info_int u8 k 1 said [(Bn : Int)] #[.int .i64 Bn] rfl rfl oC (by omega) (by omega) hBd.size
           have hB5 : Below w.heap.size w w5 := hBd.grown hg5 hBd.size (fun j hj => (oC.lt j hj).1)
           have HO5 := Lib.hid ho5
           have HD5 : Hid (DocS w5 rr lv2 s W (fed ++ fv).length (runO (W.nums s) st09 ((fed ++ fv).map Int.toNat)).K) := Lib.hid (DocS.gr (w := wc.drewN dd) (HD2.out.bel (below_drewN (Below.refl _ _) dd)) hg5 (fun g hg => own_isT oC hg) (by decide) (by decide) (by decide) (by decide) (HWI.out.bel hB5))
           have HB5 := Lib.hid hB5
           have HLV5 : Hid (∀ g, lv2.ownBlock = some g → w.heap.size ≤ g) := Lib.hid (by
             intro g hg
             rcases HLV2.out with h9 | ⟨b9, h9, h8⟩
             · exact hlv.out g (by rw [← h9]; exact hg)
             · rw [h9] at hg
               cases hg
               exact Nat.le_trans hBl.out.size h8)
           clear RT hKT oC0 oC hBc hBd ho5 hg5 hB5 cM)
        | (at_builtin; refine wpList_append_at (by rfl) _ _ _ (by rfl) _ _ (by rfl) (by rfl) hrun2 ?_))
      clear hrun2
      have hBw : (Lit.int .i64 (Bn : Int)).wf = true := wf_n (by have := OK.out.bd.2.2.2.2.1.2; omega)
      have HFE : Hid (Elems .i64 (w5.alloc (.cells #[.int .i64 Bn] 3)) (some ⟨w5.heap.size, 0, none⟩) 1 [(Bn : Int)]) := Lib.hid (elems_litK [(Bn : Int)] rfl rfl (by intro x hx; simp only [List.mem_singleton] at hx; subst hx; exact hBw) (by simp) rfl)
      have hB6 : Below w5.heap.size w5 (w5.alloc (.cells #[.int .i64 Bn] 3)) := (Below.refl _ _).alloc (Nat.le_refl _) _
      have HRL := HD5.out.box.lt
      have HO6 := Lib.hid (HO5.out.alloc (.cells #[.int .i64 Bn] 3))
      have HD6 := Lib.hid (HD5.out.bel hB6)
      have HB6 := Lib.hid (below_two HB5.out hB6)
      have HN6 : Hid (∀ b o, (some ⟨w5.heap.size, 0, none⟩ : Option Addr) = some ⟨b, o, none⟩ → b ≠ rr) := Lib.hid (by intro b o e; cases e; omega)
      have HFD : Hid ((fed ++ fv) ++ [(Bn : Int)] = q.v ++ (said ++ [(Bn : Int)])) := Lib.hid (by rw [hfd.out, List.append_assoc])
      have HSL6 : Hid ((said ++ [(Bn : Int)]).length = k + 1) := Lib.hid (by rw [List.length_append, hsl.out]; rfl)
      have HGL6 : Hid (GenL s (W.nums s) q.v (said ++ [(Bn : Int)])) := Lib.hid (genL_snoc hGL.out hBv (by rw [← hfd.out]; exact HBEST.out))
      have HSB6 : Hid (∀ t ∈ said ++ [(Bn : Int)], 0 ≤ t ∧ t < s.v) := Lib.hid (fun t ht => by
        rcases List.mem_append.1 ht with h | h
        · exact hsb.out t h
        · obtain rfl := List.mem_singleton.1 h
          omega)
      clear ho hfd hGL hsb hBl hD hsl hBw hB6 HO5 HD5 HB5 HD2 HA2
      go_roundw
      case rel => exact ⟨k + 1, 1, 1, _, _, said ++ [(Bn : Int)], fed ++ fv, lv2, by omega, by go_num, rfl, HO6, HD6, HLV5, HFE, HN6, HFD, HSL6, Lib.hid (by omega), HGL6, HSB6, HB6⟩
      case measure => simp [intOf]; omega
    · obtain rfl : k = most := by omega
      obtain ⟨oa, ocap, hov, hoE⟩ := own_form ho.out (by omega) (fun c hc => by
        have h9 := hsb.out c hc
        have := OK.out.bd.2.2.2.2.1.2
        exact WalkArith.wf_i64 (by omega))
      have HOE := Lib.hid hoE
      have HOX : Hid (∀ x, oa = some x → w.heap.size ≤ x.block) := Lib.hid (fun x hx => (ho.out.lt x.block (by rw [hov, hx]; rfl)).1)
      have HOC : Hid (k ≤ ocap ∧ ocap ≤ 9223372036854775807) := Lib.hid (by
        have h9 := ho.out.2
        rw [hov] at h9
        rcases h9 with ⟨e1, e2⟩ | ⟨g, cap, cur, e, _, _, h5, h6, _⟩
        · simp only [Value.slice.injEq] at e1
          omega
        · simp only [Value.slice.injEq] at e
          unfold maxLen at h6
          omega)
      have hsl9 := hsl.out
      subst hov
      clear ho hoE hD hfE hfne
      go_wp2
      go_ret
      exact ⟨⟨⟨oa, k, ocap, said⟩, rfl, HOE.out, hGL.out, rfl, HOX.out, HOC.out.1, HOC.out.2⟩, hBl.out⟩

end Go.Proofs.YtoeihigdndkjeaaGreatDoor
