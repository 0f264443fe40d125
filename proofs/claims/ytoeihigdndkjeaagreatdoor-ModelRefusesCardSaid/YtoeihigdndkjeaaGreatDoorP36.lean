import Derived.Test.YtoeihigdndkjeaaGreatDoorJ17
import Derived.Test.YtoeihigdndkjeaaGreatDoorP33
/-
  Feed where there is a fault: nothing turns.
-/
namespace Go.Proofs.YtoeihigdndkjeaaGreatDoor
open Go.RowKit Go.Shelf
set_option linter.unusedVariables false

set_option maxHeartbeats 2000000 in
set_option maxRecDepth 100000 in
theorem feed_no (r m mb p n N tcap : Nat) (K : KF8) (s : Sz) (ok : s.Ok) (W : Wt7) (w : World) (hr : RunAt w r m mb s p 0 N K) (hm : ModAt w m s W) (hp : p ≤ 1000) (a : Option Addr) (xs : List Int) (hx : Elems .i64 w a n xs) (hn : n ≤ 1000) (hf0 : faultO s p xs ≠ 0 ∨ n = 0) :
    Calls Tryz.prog 11 #[.pointer (some ⟨r, 0, none⟩), .slice a n tcap] w fun e w' => e = .returned (.tuple #[.slice none 0 0, .int .i64 (faultO s p xs)]) ∧ Below w.heap.size w w' := by
  have cF := fault8 r m mb p n N tcap K s ok W w hr hm (by omega) a xs hx hn
  obtain ⟨f, hf⟩ : ∃ f, faultO s p xs = f := ⟨_, rfl⟩
  have h3 := faultO_three s p xs
  rw [hf] at cF h3 hf0 ⊢
  clear hf ok hr hm hx
  go_enter Tryz.func11, Tryz.ntmps11
  go_wp2_with fail
  refine cF.mono ?_
  rintro e wa ⟨rfl, hba⟩
  have HB := Lib.hid hba
  clear cF hba
  rcases h3 with rfl | rfl | rfl
  · clear hf0
    go_wp2
    go_ret2
    exact ⟨rfl, HB.out⟩
  · clear hf0
    go_wp2
    go_ret2
    exact ⟨rfl, HB.out⟩
  · obtain rfl : n = 0 := hf0.elim (fun h => absurd rfl h) id
    clear hf0
    go_wp2
    go_ret2
    exact ⟨rfl, HB.out⟩

end Go.Proofs.YtoeihigdndkjeaaGreatDoor

/-
  The code's run and the document's beside one another: each stands where the other is fed; what Feed of each answers of whatever tokens.
-/
namespace Go.Proofs.YtoeihigdndkjeaaGreatDoor
open Go.RowKit Go.Shelf
set_option linter.unusedVariables false

/-- weights, where rows of numbers of 8 bits and the blocks' array stand -/
theorem wt_of {w w' : World} {W : Wt7} (E : ∀ a n xs, Elems .i8 w a n xs → Elems .i8 w' a n xs) (hW : W.In w) (hsz : w.heap.size ≤ w'.heap.size) (hb : ∀ g off, W.ba = some ⟨g, off, none⟩ → 0 < W.bn → w'.heap[g]? = w.heap[g]?) : W.In w' := by
  obtain ⟨h1, h2, h3, ⟨k1, k2, k3, k4⟩, h5⟩ := hW
  refine ⟨⟨E _ _ _ h1.1, h1.2⟩, ⟨E _ _ _ h2.1, h2.2⟩, ⟨E _ _ _ h3.1, h3.2⟩, ⟨k1, k2, fun x hx => ?_, fun hn => ?_⟩, h5⟩
  · obtain ⟨h1, h2, h3, h4, h5, h6, h7, h8⟩ := k3 x hx
    exact ⟨⟨E _ _ _ h1.1, h1.2⟩, ⟨E _ _ _ h2.1, h2.2⟩, ⟨E _ _ _ h3.1, h3.2⟩, ⟨E _ _ _ h4.1, h4.2⟩, ⟨E _ _ _ h5.1, h5.2⟩, ⟨E _ _ _ h6.1, h6.2⟩, ⟨E _ _ _ h7.1, h7.2⟩, ⟨E _ _ _ h8.1, h8.2⟩⟩
  · obtain ⟨g, off, ha, hlt, hx⟩ := k4 hn
    exact ⟨g, off, ha, Nat.lt_of_lt_of_le hlt hsz, fun i hi k hk => (World.cell?_of_block (w := w) (a := ⟨g, off + i * 20 + k, none⟩) (hb g off ha hn)).trans (hx i hi k hk)⟩
theorem wt_lt {w : World} {W : Wt7} (hW : W.In w) {g off : Nat} (ha : W.ba = some ⟨g, off, none⟩) (hn : 0 < W.bn) : g < w.heap.size := by
  obtain ⟨_, _, _, ⟨_, _, _, k4⟩, _⟩ := hW
  obtain ⟨g', off', ha', hlt, hx⟩ := k4 hn
  rw [ha] at ha'
  cases ha'
  exact hlt
theorem wt_own {w : World} {W : Wt7} {mb N : Nat} {D : DataW Unit} (hW : W.In w) (hO : OwnK w mb N D) {g off : Nat} (ha : W.ba = some ⟨g, off, none⟩) (hn : 0 < W.bn) : g ≠ mb := by
  obtain ⟨_, _, _, ⟨_, _, _, k4⟩, _⟩ := hW
  obtain ⟨g', off', ha', hlt, hx⟩ := k4 hn
  rw [ha] at ha'
  cases ha'
  rintro rfl
  have h2 := hx 0 hn 2 (by omega)
  rw [hO.cell] at h2
  have h3 : (W.bs.getD 0 default).cells[2]? = some (.int .i64 (W.bs.getD 0 default).q.r) := rfl
  rw [h3] at h2
  cases h2
section
variable {w w' : World} {s : Sz} {W V : Wt7} {m r mb rr p : Nat} {fed : List Int} {lv lv' : Value} {K : KF8}
/-- the code's run, where the document's is fed -/
theorem RunE.doc (h : RunE w r m mb s V fed) (hd : DocS w rr lv s W p K) (h' : Box w' rr 53 (dcells W lv')) (ha : AwayO w w' rr lv.ownBlock) : RunE w' r m mb s V fed := by
  obtain ⟨N, h1, h2⟩ := h
  have hs := hd.stays h' ha
  obtain ⟨ps, hl⟩ := hd.l
  have hb : ∀ {g : Nat} {T : TypeId} {cs : Array Value}, Box w g T cs → T ≠ 53 → T ≠ 56 → w'.heap[g]? = w.heap[g]? := fun {g T cs} hB n1 n2 => ha.block _ hB.lt (box_ne8 hB hd.box n1) (fun e => IsT.ne (g := g) ⟨_, _, hB⟩ (hl.sl _ e.symm).isT n2 rfl)
  obtain ⟨D, hO, hD⟩ := h1.run.map
  have hmb : w'.heap[mb]? = w.heap[mb]? := ha.block mb hO.lt (hO.ne_box hd.box) (fun e => by
    obtain ⟨c, hc, _⟩ := hl.sl mb e.symm
    exact hO.ne_box hc rfl)
  have hO' : OwnK w' mb N D := by
    obtain ⟨es, clock, hh, F, hs, hd⟩ := hO
    exact ⟨es, clock, hmb.trans hh, F, hs, hd⟩
  have hm := h1.mod
  refine ⟨N, ⟨⟨(hb h1.run.box (by decide) (by decide)).trans h1.run.box, D, hO', hD.kept fun q hq => hs.rw_ hq⟩, ⟨(hb hm.box (by decide) (by decide)).trans hm.box, ?_, hm.l, hm.w, hm.h, hm.i, hm.v, hm.p, hm.whole⟩, hs.tab h1.tab, hs.stab h1.stab⟩, h2⟩
  refine wt_of (fun a n xs hE => hs.elems hE) hm.inn ha.size fun g off hga hn => ha.block g (wt_lt hm.inn hga hn) ((wt_ne hm.inn hga hn).2 _ _ _ hd.box (show 15 ≤ 19 by omega)) (fun e => (wt_ne hm.inn hga hn).1 _ _ (hl.sl g e.symm) rfl)
/-- a row of numbers of 8 bits where a run's two blocks change -/
theorem elems_away8 {N : Nat} {X : TypeId} {cs : Array Value} {D : DataW Unit} (hX : Box w r X cs) (h8 : No8 cs) (hO : OwnK w mb N D) (ha : Away w w' r mb) {a : Option Addr} {n : Nat} {xs : List Int} (h : Elems .i8 w a n xs) : Elems .i8 w' a n xs := by
  refine ⟨h.1, h.2.1, h.2.2.1, fun hn => ?_⟩
  obtain ⟨b, off, hb, hc⟩ := h.2.2.2 hn
  refine ⟨b, off, hb, fun i hi => ha.cell (hc i hi) ?_ ?_⟩
  · intro e
    simp only at e
    subst e
    have := hc i hi
    rw [hX.cell] at this
    exact h8 _ _ this
  · intro e
    simp only at e
    subst e
    have := hc i hi
    rw [hO.cell] at this
    cases this
theorem RunE.isT (h : RunE w r m mb s V fed) (ha : Away w w' r mb) {g : Nat} {X : TypeId} (hg : IsT w g X) (hX : X ≠ 91) : w'.heap[g]? = w.heap[g]? := by
  obtain ⟨N, h1, _⟩ := h
  obtain ⟨D, hO, _⟩ := h1.run.map
  refine ha.block g hg.lt (hg.ne ⟨_, _, h1.run.box⟩ hX) ?_
  rintro rfl
  obtain ⟨es, clock, hh, _⟩ := hO
  obtain ⟨c, f, hc⟩ := hg
  have := hh.symm.trans hc
  simp at this
theorem HdT.code {v : Value} {n base wd : Nat} {rows : List Rw} (h : HdT w base v n wd rows) (hr : RunE w r m mb s V fed) (ha : Away w w' r mb) : HdT w' base v n wd rows :=
  ⟨own_blk h.own (fun k hk => hr.isT ha (own_isT h.own hk) (by decide)), fun q hq => ⟨(h.rows q hq).1.blk fun y hy => hr.isT ha ((h.rows q hq).1.2 y hy) (by decide), (h.rows q hq).2⟩, fun k hk => (h.sl k hk).blk (hr.isT ha (h.sl k hk).isT (by decide))⟩
/-- the document's run, where the code's is fed -/
theorem DocS.code (h : DocS w rr lv s W p K) (hr : RunE w r m mb s V fed) (ha : Away w w' r mb) : DocS w' rr lv s W p K := by
  obtain ⟨ps, hl⟩ := h.l
  refine ⟨(hr.isT ha ⟨_, _, h.box⟩ (by decide)).trans h.box, ⟨ps, own_blk hl.own (fun k hk => hr.isT ha (own_isT hl.own hk) (by decide)), fun g hg => (hl.sl g hg).blk (hr.isT ha (hl.sl g hg).isT (by decide)), fun x hx => ⟨(hl.pl x hx).1.code hr ha, (hl.pl x hx).2.code hr ha⟩, hl.num⟩, ?_⟩
  obtain ⟨N, h1, _⟩ := hr
  obtain ⟨D, hO, _⟩ := h1.run.map
  exact wt_of (fun a n xs hE => elems_away8 h1.run.box (no8_of (by simp)) hO ha hE) h.inn ha.size fun g off hga hn => ha.block g (wt_lt h.inn hga hn) ((wt_ne h.inn hga hn).2 _ _ _ h1.run.box (show 3 ≤ 19 by omega)) (wt_own h.inn hO hga hn)
end

/-- the tokens that went through, behind a call of Feed; what it answers -/
def onF (s : Sz) (fed xs : List Int) : List Int := if faultO s fed.length xs = 0 then fed ++ xs else fed
noncomputable def ansF (s : Sz) (W : Wn8) (fed xs : List Int) : List Int := if faultO s fed.length xs = 0 ∧ xs ≠ [] then outO W (runO W st09 ((fed ++ xs).map Int.toNat)).x else []
/-- a row as an answer -/
def AnsR (w : World) (ys : List Int) (v : Value) : Prop := ∃ a c, v = .slice a ys.length c ∧ Elems .i32 w a ys.length ys
theorem ansR_nil (w : World) : AnsR w [] (.slice none 0 0) := ⟨none, 0, rfl, Elems.nil_ _ _ _⟩
theorem ansR_mk {w : World} {ys : List Int} {a : Option Addr} {n c : Nat} (h : Elems .i32 w a n ys) : AnsR w ys (.slice a n c) := by
  obtain rfl := h.1
  exact ⟨a, c, rfl, h⟩
theorem AnsR.bel {w w' : World} {ys : List Int} {v : Value} (h : AnsR w ys v) (hb : Below w.heap.size w w') : AnsR w' ys v := let ⟨a, c, h1, h2⟩ := h; ⟨a, c, h1, h2.below hb⟩
theorem AnsR.stays {w w' : World} {ys : List Int} {v : Value} (h : AnsR w ys v) (hb : StaysO w w') : AnsR w' ys v := let ⟨a, c, h1, h2⟩ := h; ⟨a, c, h1, hb.elems h2⟩
theorem faultX (s : Sz) (fed xs : List Int) (W : Wn8) : (nextO s W ⟨[], fed.length, (runO W st09 (fed.map Int.toNat)).K⟩ xs).p = (onF s fed xs).length ∧ (nextO s W ⟨[], fed.length, (runO W st09 (fed.map Int.toNat)).K⟩ xs).K = (runO W st09 ((onF s fed xs).map Int.toNat)).K := by
  unfold nextO onF
  by_cases hf : faultO s fed.length xs = 0
  · rw [if_pos hf, if_pos (show faultO s fed.length xs = 0 from hf)]
    by_cases hx : xs = []
    · subst hx
      rw [List.append_nil]
      exact ⟨rfl, rfl⟩
    · have hrun := fed_step W fed xs hx
      rw [hrun]
      refine ⟨?_, rfl⟩
      rw [runO_p, List.length_map]
      show 0 + _ = _
      omega
  · rw [if_neg hf, if_neg (show ¬ faultO s fed.length xs = 0 from hf)]
    exact ⟨rfl, rfl⟩
theorem feedX (r m mb n cap : Nat) (s : Sz) (ok : s.Ok) (V : Wt7) (fed xs : List Int) (w : World) (h : RunE w r m mb s V fed) (h200 : s.p ≤ 200) (hp : fed.length ≤ s.p) (a : Option Addr) (hx : Elems .i64 w a n xs) (hn : n ≤ 100)
    (hne : 0 < n → ∀ b o, a = some ⟨b, o, none⟩ → b ≠ r ∧ b ≠ mb) :
    Calls Tryz.prog 11 #[.pointer (some ⟨r, 0, none⟩), .slice a n cap] w fun e w' =>
      (∃ v, e = .returned (.tuple #[v, .int .i64 (faultO s fed.length xs)]) ∧ AnsR w' (ansF s (V.nums s) fed xs) v ∧ RunE w' r m mb s V (onF s fed xs)) ∧ Away w w' r mb := by
  obtain ⟨N, h1, h2⟩ := h
  by_cases hf0 : faultO s fed.length xs ≠ 0 ∨ n = 0
  · refine (feed_no r m mb fed.length n N cap _ s ok V w h1.run h1.mod (by omega) a xs hx (by omega) hf0).mono ?_
    rintro e w' ⟨rfl, hb⟩
    have hnil : n = 0 → xs = [] := fun e => List.eq_nil_of_length_eq_zero (by rw [hx.1]; exact e)
    refine ⟨⟨_, rfl, ?_, ?_⟩, Away.of hb r mb⟩
    · unfold ansF
      rw [if_neg (fun h => hf0.elim (fun h3 => h3 h.1) (fun h3 => h.2 (hnil h3)))]
      exact ansR_nil _
    · unfold onF
      split
      · next hf =>
        rw [hnil (hf0.elim (fun h3 => absurd hf h3) id), List.append_nil]
        exact ⟨N, h1.bel hb, h2⟩
      · exact ⟨N, h1.bel hb, h2⟩
  · have hn0 : 0 < n := by omega
    have hf1 : faultO s fed.length xs = 0 := Classical.byContradiction fun h => hf0 (.inl h)
    have hx0 : xs ≠ [] := fun e => by have h3 := hx.1; rw [e] at h3; simp at h3; omega
    have cF := feed8 r m mb n N cap ⟨[], fed.length, (runO (V.nums s) st09 (fed.map Int.toNat)).K⟩ s ok V w h1.run h1.mod rfl h200 hp a xs hx (by omega) (hne hn0) (by omega) h1.tab h1.stab
    refine cF.mono ?_
    rintro e w' ⟨v, N', rfl, q1, q2, q3, q4, q5, q6, q7, q8⟩
    obtain ⟨e1, e2⟩ := faultX s fed xs (V.nums s)
    rw [e1, e2] at q4
    refine ⟨⟨v, rfl, ?_, N', ⟨q4, q5, q6, q7⟩, ?_⟩, q8⟩
    · unfold ansF
      rw [if_pos ⟨hf1, hx0⟩]
      obtain ⟨g, c, rfl, _, _, q⟩ := q3 hf1 (List.length_pos_iff.2 hx0)
      rw [fed_step _ _ _ hx0] at q
      exact ansR_mk q
    · unfold onF
      rw [if_pos hf1, List.length_append]
      omega

set_option maxHeartbeats 4000000 in
set_option maxRecDepth 100000 in
theorem feedD_nil (r p tcap : Nat) (lv : Value) (s : Sz) (ok : s.Ok) (W : Wt7) (K : KF8) (w : World) (h : DocS w r lv s W p K) (hsix : SixW s W) (h200 : s.p ≤ 200) (hp : p ≤ s.p) (a : Option Addr) :
    Calls Tryz.prog 12 #[.pointer (some ⟨r, 0, none⟩), .slice a 0 tcap] w fun e w' => e = .returned (.tuple #[.slice none 0 0, .int .i64 0]) ∧ Below w.heap.size w w' := by
  obtain ⟨ps, hl⟩ := h.l
  obtain ⟨la, lc, rfl⟩ := hl.form
  have hB := h.box
  have c5 : w.cell? ⟨r, 5, none⟩ = some (.int .i64 s.p) := by rw [← hsix.2.2.2.2.2]; exact hB.cell 5
  have c14 : w.cell? ⟨r, 14, none⟩ = some (.slice la p lc) := hB.cell 14
  have hfi : ¬ ((s.p : Int) < (p : Int)) := by omega
  clear hl hB h hsix ok
  go_enter Tryz.func12, Tryz.ntmps12
  go_wp2_with fail
  go_loopw [6] (fun i wr => i = .int .i64 0 ∧ ∃ d, wr = w.drewN d) (fun _ _ => 0)
  case atStart => exact ⟨rfl, 0, rfl⟩
  case round =>
    obtain ⟨rfl, d, rfl⟩ := hrel
    go_upto_region 6 with (fail)
    go_quiet (fail)
    obtain ⟨w2, hw2⟩ : ∃ w2, (w.drewN d).drewN nq = w2 := ⟨_, rfl⟩
    have hb2 : Hid (Below w.heap.size w w2) := Lib.hid (by rw [← hw2]; exact below_drewN (below_drewN (Below.refl _ _) _) _)
    rw [hw2]
    clear c5 c14 hw2
    go_wp2_with fail
    go_loopw [7, 8] (fun v i wr => v = .slice none 0 0 ∧ i = .int .i64 0 ∧ Hid (Below w.heap.size w wr)) (fun _ _ _ => 0)
    case atStart => exact ⟨rfl, rfl, hb2⟩
    case round =>
      clear hb2
      obtain ⟨rfl, rfl, hb⟩ := hrel
      go_wp2
      go_ret2
      exact ⟨rfl, hb.out⟩

theorem feedDX (cOne : OneC) (r n tcap : Nat) (lv : Value) (s : Sz) (ok : s.Ok) (W : Wt7) (fed xs : List Int) (w : World) (h : DocS w r lv s W fed.length (runO (W.nums s) st09 (fed.map Int.toNat)).K) (hsix : SixW s W) (hwt : wtB s W = true) (h200 : s.p ≤ 200) (hp : fed.length ≤ s.p)
    (a : Option Addr) (hx : Elems .i64 w a n xs) (hn : n ≤ 100) (hne : 0 < n → ∀ b o, a = some ⟨b, o, none⟩ → b ≠ r) :
    Calls Tryz.prog 12 #[.pointer (some ⟨r, 0, none⟩), .slice a n tcap] w fun e w' =>
      (∃ v lv', e = .returned (.tuple #[v, .int .i64 (faultO s fed.length xs)]) ∧ AnsR w' (ansF s (W.nums s) fed xs) v ∧ DocS w' r lv' s W (onF s fed xs).length (runO (W.nums s) st09 ((onF s fed xs).map Int.toNat)).K ∧ (lv'.ownBlock = lv.ownBlock ∨ ∃ b, lv'.ownBlock = some b ∧ w.heap.size ≤ b)) ∧ AwayO w w' r lv.ownBlock := by
  by_cases hn0 : n = 0
  · subst hn0
    obtain rfl : xs = [] := List.eq_nil_of_length_eq_zero hx.1
    refine (feedD_nil r fed.length tcap lv s ok W _ w h hsix h200 hp a).mono ?_
    rintro e w' ⟨rfl, hb⟩
    have hf : faultO s fed.length [] = 0 := fault_none (by simp) (by simpa using hp)
    rw [hf]
    refine ⟨⟨_, lv, rfl, ?_, ?_, .inl rfl⟩, AwayO.of_below hb⟩
    · unfold ansF
      rw [if_neg (fun h => h.2 rfl)]
      exact ansR_nil _
    · unfold onF
      rw [if_pos hf, List.append_nil]
      exact h.bel hb
  have cF := feedD cOne r n tcap lv s ok W ⟨[], fed.length, (runO (W.nums s) st09 (fed.map Int.toNat)).K⟩ w h hsix hwt h200 hp a xs hx (by omega) (hne (by omega))
  refine cF.mono ?_
  rintro e w' ⟨v, lv', rfl, q2, q3, q4, q5, q6⟩
  obtain ⟨e1, e2⟩ := faultX s fed xs (W.nums s)
  rw [e1, e2] at q4
  refine ⟨⟨v, lv', rfl, ?_, q4, q5⟩, q6⟩
  unfold ansF
  by_cases hf : faultO s fed.length xs = 0 ∧ xs ≠ []
  · rw [if_pos hf]
    obtain ⟨g, c, rfl, q⟩ := q3 hf.1 (List.length_pos_iff.2 hf.2)
    rw [fed_step _ _ _ hf.2] at q
    exact ansR_mk q
  · rw [if_neg hf, q2 (by
      by_cases h3 : faultO s fed.length xs = 0
      · exact .inr (Classical.byContradiction fun h4 => hf ⟨h3, h4⟩)
      · exact .inl h3)]
    exact ansR_nil _

/-- both runs of one model, each behind the same tokens, all of it behind a world -/
structure PairS (w0 w : World) (r m mb rr : Nat) (lv : Value) (s : Sz) (W V : Wt7) (fc fd : List Int) : Prop where
  run : RunE w r m mb s V fc
  doc : DocS w rr lv s W fd.length (runO (W.nums s) st09 (fd.map Int.toNat)).K
  bel : Below w0.heap.size w0 w
  hr : w0.heap.size ≤ r
  hmb : w0.heap.size ≤ mb
  hrr : w0.heap.size ≤ rr
  hlv : ∀ g, lv.ownBlock = some g → w0.heap.size ≤ g
section
variable {w0 w w' : World} {s : Sz} {W V : Wt7} {m r mb rr : Nat} {fc fc' fd fd' : List Int} {lv lv' : Value}
theorem PairS.below (h : PairS w0 w r m mb rr lv s W V fc fd) (hb : Below w.heap.size w w') : PairS w0 w' r m mb rr lv s W V fc fd :=
  ⟨h.run.bel hb, h.doc.bel hb, below_two h.bel hb, h.hr, h.hmb, h.hrr, h.hlv⟩
theorem PairS.code (h : PairS w0 w r m mb rr lv s W V fc fd) (ha : Away w w' r mb) (hr : RunE w' r m mb s V fc') : PairS w0 w' r m mb rr lv s W V fc' fd :=
  ⟨hr, h.doc.code h.run ha, below_away h.bel ha h.hr h.hmb h.bel.size, h.hr, h.hmb, h.hrr, h.hlv⟩
theorem PairS.docS (h : PairS w0 w r m mb rr lv s W V fc fd) (ha : AwayO w w' rr lv.ownBlock) (hd : DocS w' rr lv' s W fd'.length (runO (W.nums s) st09 (fd'.map Int.toNat)).K) (hl : lv'.ownBlock = lv.ownBlock ∨ ∃ b, lv'.ownBlock = some b ∧ w.heap.size ≤ b) : PairS w0 w' r m mb rr lv' s W V fc fd' := by
  refine ⟨h.run.doc h.doc hd.box ha, hd, ?_, h.hr, h.hmb, h.hrr, fun g hg => ?_⟩
  · exact ⟨ha.os.trans h.bel.os, ha.tape.trans h.bel.tape, ha.output.trans h.bel.output, Nat.le_trans h.bel.size ha.size, fun k hk => (ha.block k (Nat.lt_of_lt_of_le hk h.bel.size) (by have := h.hrr; omega) (fun e => by have := h.hlv k e.symm; omega)).trans (h.bel.block k hk)⟩
  · rcases hl with e | ⟨b, e, hb⟩
    · exact h.hlv g (by rw [← e]; exact hg)
    · rw [e] at hg
      cases hg
      exact Nat.le_trans h.bel.size hb
end

end Go.Proofs.YtoeihigdndkjeaaGreatDoor

/-
  What isn't kept; a place of the document's run.
-/
namespace Go.Proofs.YtoeihigdndkjeaaGreatDoor
open Go.RowKit Go.Shelf
set_option linter.unusedVariables false

/-- a place of the document's run, a layer of it -/
theorem DocS.spot {w : World} {r p : Nat} {lv : Value} {s : Sz} {W : Wt7} {K : KF8} (h : DocS w r lv s W p K) {q l : Nat} (hq : q < p) (hl : l < s.l) :
    ∃ lb lc kb kc vb vc, ∃ g h : Rw, lv = .slice (some ⟨lb, 0, none⟩) p lc ∧ w.cell? ⟨lb, q * 2, none⟩ = some (.slice (some ⟨kb, 0, none⟩) s.l kc) ∧ w.cell? ⟨lb, q * 2 + 1, none⟩ = some (.slice (some ⟨vb, 0, none⟩) s.l vc) ∧
      w.cell? ⟨kb, l, none⟩ = some (.slice g.a g.n g.cap) ∧ w.cell? ⟨vb, l, none⟩ = some (.slice h.a h.n h.cap) ∧ g.In .i8 w ∧ h.In .i8 w ∧ g.n = s.w ∧ h.n = s.w ∧ g.v = (K l q).1 ∧ h.v = (K l q).2 := by
  obtain ⟨ps, hL⟩ := h.l
  have hlen := hL.len
  have hm : ps.getD q default ∈ ps := by
    rw [List.getD_eq_getElem?_getD, List.getElem?_eq_getElem (by omega)]
    exact List.getElem_mem _
  obtain ⟨p1, p2⟩ := hL.pl _ hm
  obtain ⟨c1, c2⟩ := lvals_at ps q (by omega)
  obtain ⟨n1, n2⟩ := hL.num q hq l hl
  obtain ⟨kb, kc, g, e1, e2, e3, e4, e5⟩ := p1.at_ hl
  obtain ⟨vb, vc, g2, f1, f2, f3, f4, f5⟩ := p2.at_ hl
  rcases hL.own.2 with ⟨_, e⟩ | ⟨lb, lc, cur, rfl, _, _, _⟩
  · omega
  · have k1 := hL.own.cells (g := lb) rfl (q * 2) _ c1
    have k2 := hL.own.cells (g := lb) rfl (q * 2 + 1) _ c2
    rw [Addr.add_lit, Nat.zero_add] at k1 k2
    rw [e1] at k1
    rw [f1] at k2
    exact ⟨lb, lc, kb, kc, vb, vc, g, g2, rfl, k1, k2, e2, f2, e3, f3, e4, f4, by rw [← e5]; exact n1, by rw [← f5]; exact n2⟩
end Go.Proofs.YtoeihigdndkjeaaGreatDoor

/-
  What is kept of a place stays; the document's One beside two runs of the code's.
-/
namespace Go.Proofs.YtoeihigdndkjeaaGreatDoor
open Go.RowKit Go.Shelf
set_option linter.unusedVariables false

theorem TsR.stays {w w' : World} {s : Sz} {a : Option Addr} {n cap : Nat} {ts : List Int} (h : TsR w s a n cap ts) (hb : StaysO w w') : TsR w' s a n cap ts :=
  ⟨hb.rw_ h.inn, h.bd, h.le, h.form⟩

/-- two runs of the code's and the document's, all of one model -/
structure TripS (w0 w : World) (r1 mb1 r2 mb2 m rr : Nat) (lv : Value) (s : Sz) (W V : Wt7) (f1 f2 : List Int) (p : Nat) (K : KF8) : Prop where
  run1 : RunE w r1 m mb1 s V f1
  run2 : RunE w r2 m mb2 s V f2
  doc : DocS w rr lv s W p K
  bel : Below w0.heap.size w0 w
  h1 : w0.heap.size ≤ r1 ∧ w0.heap.size ≤ mb1
  h2 : w0.heap.size ≤ r2 ∧ w0.heap.size ≤ mb2
  hrr : w0.heap.size ≤ rr
  hlv : ∀ g, lv.ownBlock = some g → w0.heap.size ≤ g
  ne : r1 ≠ r2 ∧ r1 ≠ mb2 ∧ mb1 ≠ r2 ∧ mb1 ≠ mb2
section
variable {w0 w w' : World} {r1 mb1 r2 mb2 m rr p p' : Nat} {lv lv' : Value} {s : Sz} {W V : Wt7} {f1 f2 f' : List Int} {K K' : KF8}
theorem TripS.below (h : TripS w0 w r1 mb1 r2 mb2 m rr lv s W V f1 f2 p K) (hb : Below w.heap.size w w') : TripS w0 w' r1 mb1 r2 mb2 m rr lv s W V f1 f2 p K :=
  ⟨h.run1.bel hb, h.run2.bel hb, h.doc.bel hb, below_two h.bel hb, h.h1, h.h2, h.hrr, h.hlv, h.ne⟩
theorem TripS.one (h : TripS w0 w r1 mb1 r2 mb2 m rr lv s W V f1 f2 p K) (ha : Away w w' r1 mb1) (hr : RunE w' r1 m mb1 s V f') : TripS w0 w' r1 mb1 r2 mb2 m rr lv s W V f' f2 p K :=
  ⟨hr, h.run2.other h.run1 ha hr ⟨h.ne.1.symm, h.ne.2.2.1.symm, h.ne.2.1.symm, h.ne.2.2.2.symm⟩, h.doc.code h.run1 ha, below_away h.bel ha h.h1.1 h.h1.2 h.bel.size, h.h1, h.h2, h.hrr, h.hlv, h.ne⟩
theorem TripS.two (h : TripS w0 w r1 mb1 r2 mb2 m rr lv s W V f1 f2 p K) (ha : Away w w' r2 mb2) (hr : RunE w' r2 m mb2 s V f') : TripS w0 w' r1 mb1 r2 mb2 m rr lv s W V f1 f' p K :=
  ⟨h.run1.other h.run2 ha hr h.ne, hr, h.doc.code h.run2 ha, below_away h.bel ha h.h2.1 h.h2.2 h.bel.size, h.h1, h.h2, h.hrr, h.hlv, h.ne⟩
theorem TripS.docS (h : TripS w0 w r1 mb1 r2 mb2 m rr lv s W V f1 f2 p K) (ha : AwayO w w' rr lv.ownBlock) (hd : DocS w' rr lv' s W p' K') (hl : lv'.ownBlock = lv.ownBlock ∨ ∃ b, lv'.ownBlock = some b ∧ w.heap.size ≤ b) : TripS w0 w' r1 mb1 r2 mb2 m rr lv' s W V f1 f2 p' K' := by
  refine ⟨h.run1.doc h.doc hd.box ha, h.run2.doc h.doc hd.box ha, hd, ?_, h.h1, h.h2, h.hrr, fun g hg => ?_, h.ne⟩
  · exact ⟨ha.os.trans h.bel.os, ha.tape.trans h.bel.tape, ha.output.trans h.bel.output, Nat.le_trans h.bel.size ha.size, fun k hk => (ha.block k (Nat.lt_of_lt_of_le hk h.bel.size) (by have := h.hrr; omega) (fun e => by have := h.hlv k e.symm; omega)).trans (h.bel.block k hk)⟩
  · rcases hl with e | ⟨b, e, hb⟩
    · exact h.hlv g (by rw [← e]; exact hg)
    · rw [e] at hg
      cases hg
      exact Nat.le_trans h.bel.size hb
theorem TripS.three {r' mb' : Nat} {f f3 : List Int} (h : TripS w0 w r1 mb1 r2 mb2 m rr lv s W V f1 f2 p K) (hr : RunE w r' m mb' s V f) (ha : Away w w' r' mb') (hr' : RunE w' r' m mb' s V f3) (e1 : r1 ≠ r' ∧ r1 ≠ mb' ∧ mb1 ≠ r' ∧ mb1 ≠ mb') (e2 : r2 ≠ r' ∧ r2 ≠ mb' ∧ mb2 ≠ r' ∧ mb2 ≠ mb')
    (hge : w0.heap.size ≤ r' ∧ w0.heap.size ≤ mb') : TripS w0 w' r1 mb1 r2 mb2 m rr lv s W V f1 f2 p K :=
  ⟨h.run1.other hr ha hr' e1, h.run2.other hr ha hr' e2, h.doc.code hr ha, below_away h.bel ha hge.1 hge.2 h.bel.size, h.h1, h.h2, h.hrr, h.hlv, h.ne⟩
theorem TripS.lts (h : TripS w0 w r1 mb1 r2 mb2 m rr lv s W V f1 f2 p K) : r1 < w.heap.size ∧ mb1 < w.heap.size ∧ r2 < w.heap.size ∧ mb2 < w.heap.size := ⟨h.run1.lts.1, h.run1.lts.2, h.run2.lts.1, h.run2.lts.2⟩
end

end Go.Proofs.YtoeihigdndkjeaaGreatDoor
