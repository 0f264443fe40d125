import Derived.Test.YtoeihigdndkjeaaGreatDoorJ31
import Derived.Shelf.SlMaps.Clone
import Derived.Deep.RegionHeld3
import Derived.Test.YtoeihigdndkjeaaGreatDoorJ24
/-
  A run's fork; what is kept of a place in a layer.
-/
namespace Go.Proofs.YtoeihigdndkjeaaGreatDoor
open Go.RowKit Go.Shelf Go.Maps Go.WideMaps
set_option linter.unusedVariables false
attribute [local go_sem] Oper.semAt_some

set_option maxHeartbeats 2000000 in
set_option maxRecDepth 100000 in
theorem mapclone8 (b n : Nat) (D : DataW Unit) (w : World) (h : OwnK w b n D) :
    Calls Tryz.prog 52 #[.map (some b)] w fun e w' => e = .returned (.map (some w.heap.size)) ∧ OwnK w' w.heap.size n D ∧ w.heap.size < w'.heap.size ∧ Below w.heap.size w w' := by
  have hlt := h.lt
  obtain ⟨es, clock, hb, F, hs, hD⟩ := h
  have hq := fun w => run_eql_map_nil_sl (P := Tryz.prog) w 89 _ _ (some b) Tryz.underlying89
  have HF : Hid (OwnK (w.alloc (.map es clock)) w.heap.size n D) := Lib.hid ⟨es, clock, (MapKept.heap_alloc w _).1, F, hs, hD⟩
  clear hs hD
  go_enter Tryz.func52, Tryz.ntmps52
  go_wp2
  rw [run_callFunc_extern Tryz.func79 (by kernel_rfl) (by kernel_rfl) (by kernel_rfl) (e := Extern.MapsClone.clone) (by kernel_rfl), run_maps_clone_sl w 89 hb]
  simp only [Result.andThen]
  rw [Oper.upon_value]
  go_wp2
  rw [run_typeAssert_map_sl _ 89 _ _ _ _ Tryz.underlying89]
  simp only [Result.andThen]
  rw [Oper.upon_value]
  go_wp2
  go_ret
  exact ⟨rfl, HF.out, by simp, (Below.refl _ w).alloc (Nat.le_refl _) _⟩

set_option maxHeartbeats 4000000 in
set_option maxRecDepth 100000 in
theorem fork8 (r m mb p n N : Nat) (s : Sz) (K : KF8) (w : World) (hr : RunAt w r m mb s p n N K) :
    Calls Tryz.prog 23 #[.pointer (some ⟨r, 0, none⟩)] w fun e w' => (∃ r2 mb2, e = .returned (.pointer (some ⟨r2, 0, none⟩)) ∧ w.heap.size ≤ r2 ∧ w.heap.size ≤ mb2 ∧ r2 ≠ mb2 ∧ RunAt w' r2 m mb2 s p n N K) ∧ Below w.heap.size w w' := by
  have z0 : w.drew.cell? ⟨r, 0, none⟩ = some (.pointer (some ⟨m, 0, none⟩)) := hr.box.cell 0
  have z1 : w.drew.cell? ⟨r, 1, none⟩ = some (.int .i64 p) := hr.box.cell 1
  have z2 : w.drew.cell? ⟨r, 2, none⟩ = some (.map (some mb)) := hr.box.cell 2
  have hbd : Below w.heap.size w w.drew := (Below.refl _ _).drew
  obtain ⟨D, hO, hD⟩ := hr.map
  have cC := mapclone8 mb N D w.drew (hO.bel hbd)
  have HX := Lib.hid (hr.box.bel hbd)
  have HD := Lib.hid hD
  clear hr hO hD
  go_enter Tryz.func23, Tryz.ntmps23
  go_upto_region 1 with (fail)
  go_region_held3 (fun w' => w'.cell? ⟨r, 0, none⟩ = some (.pointer (some ⟨m, 0, none⟩)) ∧ w'.cell? ⟨r, 1, none⟩ = some (.int .i64 p) ∧ w'.cell? ⟨r, 2, none⟩ = some (.map (some mb)))
    (first | go_keep | (go_split_ands; refine ⟨?_, ?_, ?_⟩ <;> assumption))
    (first
      | (go_at_call 52; (with_reducible refine cC.mono ?_); rintro e w1 ⟨rfl, hO1, hs1, hb1⟩
         have HO1 := Lib.hid hO1
         have HB1 := Lib.hid hb1
         have X1 := Lib.hid (HX.out.bel hb1)
         have y0 : w1.cell? ⟨r, 0, none⟩ = some (.pointer (some ⟨m, 0, none⟩)) := X1.out.cell 0
         have y1 : w1.cell? ⟨r, 1, none⟩ = some (.int .i64 p) := X1.out.cell 1
         have y2 : w1.cell? ⟨r, 2, none⟩ = some (.map (some mb)) := X1.out.cell 2
         clear hO1 hb1))
  go_wp2
  go_ret
  have B1 : Below w1.heap.size w1 (w1.alloc (.cells #[.pointer (some ⟨m, 0, none⟩), .int .i64 p, .map (some w.heap.size)] 91)) := (Below.refl _ _).alloc (Nat.le_refl _) _
  have B2 : Below w.heap.size w w1 := below_two hbd HB1.out
  have h1 : w.heap.size < w1.heap.size := hs1
  exact ⟨⟨w1.heap.size, w.heap.size, rfl, by omega, Nat.le_refl _, by omega, ⟨box_new _ _ _, D, HO1.out.bel B1, (HD.out.bel B2).bel B1⟩⟩, below_two B2 B1⟩

/-- a look-up, with ok, of what is kept -/
theorem wpList_look_kept (w : World) {ops : Array Oper} {rest : List Oper} {o : Oper} {a : Act} {Q : Exit → Act → World → Prop} (hg : o.guard = none) (m x : Operand) (hop : o.op = Op.lookup 89 m x true)
    (b n : Nat) (D : DataW Unit) (hm : a.eval m = .map (some b)) (hown : OwnK w b n D) (l p : Int) (hl : (Lit.int .i64 l).wf = true) (hp : (Lit.int .i64 p).wf = true) (hx : a.eval x = .agg #[.int .i64 l, .int .i64 p]) {g1 c1 g2 c2 wd : Nat}
    (hhas : Maps.has D (keyS l p) = true) (hat : ∀ z, D.atKey (keyS l p) z = kvD g1 c1 g2 c2 wd) (hK : wpList Tryz.prog ops Q rest (a.put o.dst (.tuple #[.agg #[.slice (some ⟨g1, 0, none⟩) wd c1, .slice (some ⟨g2, 0, none⟩) wd c2], .bool true])) w) :
    wpList Tryz.prog ops Q (o :: rest) a w :=
  wpList_lookup_own_ok w hg m x _ hop _ _ spot_law Tryz.underlying89 kvElem (zero_kept w) .nil [] kvElem_zero b n D hm hown _ _ hx (keyS_mk hl hp) (fun v ps hv => by
    rw [hat] at hv
    rw [kvElem_inv hv, hhas]
    exact hK)

set_option maxHeartbeats 4000000 in
set_option maxRecDepth 100000 in
theorem kept8 (r m mb p N l q : Nat) (s : Sz) (ok : s.Ok) (K : KF8) (w : World) (hr : RunAt w r m mb s p 0 N K) (hl : l < s.l) (hq : q < p) (hp : p ≤ 65536) :
    Calls Tryz.prog 15 #[.pointer (some ⟨r, 0, none⟩), .int .i64 l, .int .i64 q] w fun e w' => (∃ g h : Rw, e = .returned (.tuple #[.slice g.a g.n g.cap, .slice h.a h.n h.cap, .bool true]) ∧ g.In .i8 w' ∧ h.In .i8 w' ∧ g.v = (K l q).1 ∧ h.v = (K l q).2 ∧ g.n = s.w ∧ h.n = s.w) ∧ Below w.heap.size w w' := by
  have hw128 : s.w ≤ 128 := ok.bd.2.2.1.2
  have hl16 : s.l ≤ 16 := ok.bd.1.2
  have z2 : w.cell? ⟨r, 2, none⟩ = some (.map (some mb)) := hr.box.cell 2
  obtain ⟨D, hO, hD⟩ := hr.map
  obtain ⟨g1, c1, g2, c2, hat, i1, i2⟩ := hD.2.2 l q (.inl ⟨hq, hl⟩)
  have hwl : (Lit.int .i64 (l : Int)).wf = true := wf_n (by omega)
  have hwq : (Lit.int .i64 (q : Int)).wf = true := wf_n (by omega)
  have hhas : Maps.has D (keyS l q) = true := by rw [hD.2.1 l q hwl hwq, decide_eq_true (by omega)]
  have HHAS := Lib.hid hhas
  have HAT := Lib.hid hat
  have HO := Lib.hid hO
  have HI := Lib.hid (And.intro i1 i2)
  have HWL := Lib.hid (And.intro hwl hwq)
  clear hr hO hD hat i1 i2 hwl hwq hhas ok
  go_enter Tryz.func15, Tryz.ntmps15
  go_upto_region 2 with (refine wpList_look_kept w rfl _ _ rfl mb N D rfl HO.out l q HWL.out.1 HWL.out.2 rfl HHAS.out HAT.out ?_)
  generalize hwa : World.alloc w _ = wa
  have X : Box wa w.heap.size 98 #[.slice (some ⟨g1, 0, none⟩) s.w c1, .slice (some ⟨g2, 0, none⟩) s.w c2] := by rw [← hwa]; exact box_new _ _ _
  have HB : Hid (Below w.heap.size w wa.drew) := Lib.hid (by rw [← hwa]; exact ((Below.refl _ _).alloc (Nat.le_refl _) _).drew)
  have HX := Lib.hid X
  have x0 : wa.drew.cell? ⟨w.heap.size, 0, none⟩ = some (.slice (some ⟨g1, 0, none⟩) s.w c1) := X.cell 0
  have x1 : wa.drew.cell? ⟨w.heap.size, 1, none⟩ = some (.slice (some ⟨g2, 0, none⟩) s.w c2) := X.cell 1
  have cA := clone8 ⟨some ⟨g1, 0, none⟩, s.w, c1, (K l q).1⟩ wa.drew (HI.out.1.below HB.out) (by show s.w ≤ 65536; omega)
  have cB := fun W (hW : Below w.heap.size w W) => clone8 ⟨some ⟨g2, 0, none⟩, s.w, c2, (K l q).2⟩ W (HI.out.2.below hW) (by show s.w ≤ 65536; omega)
  simp only at cA cB
  clear hwa X z2
  go_region_held3 (fun w' => w'.cell? ⟨w.heap.size, 0, none⟩ = some (.slice (some ⟨g1, 0, none⟩) s.w c1) ∧ w'.cell? ⟨w.heap.size, 1, none⟩ = some (.slice (some ⟨g2, 0, none⟩) s.w c2))
    (first | go_keep | (go_split_ands; refine ⟨?_, ?_⟩ <;> assumption))
    (first
      | (go_at_call 38; (with_reducible refine cA.mono ?_); rintro e w1 ⟨⟨g, rfl, hgi, hgv, hgn, -⟩, hb1⟩
         have HG := Lib.hid (And.intro hgi (And.intro hgv hgn))
         have HB1 := Lib.hid (below_two HB.out hb1)
         have HX1 := Lib.hid (Box.bel (w := wa.drew) HX.out hb1)
         have y0 : w1.cell? ⟨w.heap.size, 0, none⟩ = some (.slice (some ⟨g1, 0, none⟩) s.w c1) := HX1.out.cell 0
         have y1 : w1.cell? ⟨w.heap.size, 1, none⟩ = some (.slice (some ⟨g2, 0, none⟩) s.w c2) := HX1.out.cell 1
         clear hgi hgv hgn hb1)
      | (go_at_call 38; (with_reducible refine (cB _ ?h9).mono ?_); (case h9 => exact HB1.out); rintro e w2 ⟨⟨h, rfl, hhi, hhv, hhn, -⟩, hb2⟩
         have HH := Lib.hid (And.intro hhi (And.intro hhv hhn))
         have HG2 := Lib.hid (HG.out.1.below hb2)
         have HB2 := Lib.hid (below_two HB1.out hb2)
         have HX2 := Lib.hid (Box.bel HX1.out hb2)
         have v0 : w2.cell? ⟨w.heap.size, 0, none⟩ = some (.slice (some ⟨g1, 0, none⟩) s.w c1) := HX2.out.cell 0
         have v1 : w2.cell? ⟨w.heap.size, 1, none⟩ = some (.slice (some ⟨g2, 0, none⟩) s.w c2) := HX2.out.cell 1
         clear hhi hhv hhn hb2))
  go_wp2_with fail
  exact bodyPost_ret (v := .tuple #[.slice g.a g.n g.cap, .slice h.a h.n h.cap, .bool true]) (by simp [results, Tryz.results15, go_sem]) rfl ⟨⟨g, h, rfl, HG2.out, HH.out.1, HG.out.2.1, HH.out.2.1, HG.out.2.2, HH.out.2.2⟩, HB2.out⟩

end Go.Proofs.YtoeihigdndkjeaaGreatDoor

/-
  What the statements of stage 8 share: tokens brought to a vocabulary; a run beside another; Feed of whatever row; Place.
-/
namespace Go.Proofs.YtoeihigdndkjeaaGreatDoor
open Go.RowKit Go.Shelf
set_option linter.unusedVariables false
attribute [local go_sem] Oper.semAt_some


/-- a row of numbers of 8 bits where a run's two blocks change -/
theorem rw_away {w w' : World} {r mb N : Nat} {X : TypeId} {cs : Array Value} {D : DataW Unit} (hX : Box w r X cs) (h8 : No8 cs) (hO : OwnK w mb N D) (ha : Away w w' r mb) {q : Rw} (h : q.In .i8 w) : q.In .i8 w' := by
  refine ⟨⟨h.1.1, h.1.2.1, h.1.2.2.1, fun hn => ?_⟩, h.2⟩
  obtain ⟨b, off, hb, hc⟩ := h.1.2.2.2 hn
  refine ⟨b, off, hb, fun i hi => ha.cell (hc i hi) ?_ ?_⟩
  · intro e
    simp only at e
    subst e
    have := hc i hi
    rw [hX.cell] at this
    exact h8 _ _ this
  · intro e
    simp only at e
    subst e
    have := hc i hi
    rw [hO.cell] at this
    cases this
theorem RunS.other {w w' : World} {r m mb r' mb' N N' N'' : Nat} {s : Sz} {V : Wt7} {fed fed' fed'' : List Int} (h : RunS w r m mb s V fed N) (h2 : RunS w r' m mb' s V fed' N') (ha : Away w w' r' mb') (h3 : RunS w' r' m mb' s V fed'' N'')
    (e : r ≠ r' ∧ r ≠ mb' ∧ mb ≠ r' ∧ mb ≠ mb') : RunS w' r m mb s V fed N := by
  obtain ⟨D, hO, hD⟩ := h.run.map
  obtain ⟨D', hO', _⟩ := h2.run.map
  have h8 : No8 #[Value.pointer (some ⟨m, 0, none⟩), .int .i64 (fed'.length : Nat), .map (some mb')] := no8_of (by simp)
  refine ⟨⟨(ha.block r h.run.box.lt e.1 e.2.1).trans h.run.box, D, ?_, hD.kept fun q hq => rw_away h2.run.box h8 hO' ha hq⟩, h3.mod, h3.tab, h3.stab⟩
  obtain ⟨es, clock, hh, F, hs, hd⟩ := hO
  exact ⟨es, clock, (ha.block mb (Array.getElem?_eq_some_iff.1 hh).1 e.2.2.1 e.2.2.2).trans hh, F, hs, hd⟩

/-- Feed of whatever row of tokens that there are, none too -/
theorem feda9 (r m mb n N cap : Nat) (s : Sz) (ok : s.Ok) (V : Wt7) (fed xs : List Int) (w : World) (h : RunS w r m mb s V fed N) (h200 : s.p ≤ 200) (a : Option Addr) (hx : Elems .i64 w a n xs) (hn : n ≤ 1000)
    (hne : ∀ b o, a = some ⟨b, o, none⟩ → b ≠ r ∧ b ≠ mb) (hb : ∀ t ∈ xs, 0 ≤ t ∧ t < s.v) (hp : fed.length + n ≤ s.p) (hN : N ≤ 16 * fed.length) :
    Calls Tryz.prog 11 #[.pointer (some ⟨r, 0, none⟩), .slice a n cap] w fun e w' =>
      (∃ v N', e = .returned (.tuple #[v, .int .i64 0]) ∧ (n = 0 → v = .slice none 0 0) ∧ (0 < n → ∃ g c, v = .slice (some ⟨g, 0, none⟩) s.v c ∧ s.v ≤ c ∧ c ≤ 9223372036854775807 ∧ Elems .i32 w' (some ⟨g, 0, none⟩) s.v (outO (V.nums s) (runO (V.nums s) st09 ((fed ++ xs).map Int.toNat)).x)) ∧
        RunS w' r m mb s V (fed ++ xs) N' ∧ N' ≤ 16 * (fed ++ xs).length) ∧ Away w w' r mb := by
  rcases Nat.eq_zero_or_pos n with h0 | h0
  · subst h0
    obtain rfl : xs = [] := List.eq_nil_of_length_eq_zero hx.1
    have hf : faultO s fed.length [] = 0 := fault_none (by simp) (by simpa using hp)
    have cF := feed8 r m mb 0 N cap ⟨[], fed.length, (runO (V.nums s) st09 (fed.map Int.toNat)).K⟩ s ok V w h.run h.mod rfl h200 (by show fed.length ≤ s.p; omega) a [] hx hn hne (by omega) h.tab h.stab
    refine cF.mono ?_
    rintro e w' ⟨v, N', rfl, q1, q2, q3, q4, q5, q6, q7, q8⟩
    have hnx : nextO s (V.nums s) ⟨[], fed.length, (runO (V.nums s) st09 (fed.map Int.toNat)).K⟩ [] = ⟨[], fed.length, (runO (V.nums s) st09 (fed.map Int.toNat)).K⟩ := by
      unfold nextO
      rw [if_pos hf]
      rfl
    rw [hnx] at q4
    refine ⟨⟨v, N', by rw [show faultO s fed.length [] = 0 from hf], fun _ => q2 (.inr rfl), fun h => absurd h (by omega), ?_, ?_⟩, q8⟩
    · rw [List.append_nil]; exact ⟨q4, q5, q6, q7⟩
    · rw [List.append_nil]; simp at q1; omega
  · refine (fed9 r m mb n N cap s ok V fed xs w h h200 a hx h0 hn hne hb hp hN).mono ?_
    rintro e w' ⟨⟨g, c, N', rfl, h1, h2, h3, h4, h5⟩, h6⟩
    exact ⟨⟨_, N', rfl, fun e => by omega, fun _ => ⟨g, c, rfl, h1, h2, h3⟩, h4, h5⟩, h6⟩

/-- a token brought to a vocabulary -/
def fitI (v : Nat) (x : Int) : Int := x.tmod v % v
theorem fitI_bd (v : Nat) (hv : 0 < v) (x : Int) : 0 ≤ fitI v x ∧ fitI v x < v := by
  unfold fitI
  exact ⟨Int.emod_nonneg _ (by omega), Int.emod_lt_of_pos _ (by omega)⟩
theorem tmod_bd (v : Nat) (hv : 0 < v) (x : Int) : -(v : Int) ≤ x.tmod v ∧ x.tmod v ≤ v := by
  have h1 : (x.tmod v).natAbs < v := by
    have := Int.natAbs_tmod x v
    rw [this, Int.natAbs_natCast]
    exact Nat.mod_lt _ hv
  omega

set_option maxHeartbeats 4000000 in
set_option maxRecDepth 100000 in
theorem fits8 (q : Rw) (v : Nat) (hv : 0 < v) (hv2 : v ≤ 1000) (w : World) (hq : q.In .i64 w) (hn : q.n ≤ 1000) :
    Calls Tryz.prog 19 #[.slice q.a q.n q.cap, .int .i64 v] w fun e w' => (∃ t : Rw, e = .returned (.slice t.a t.n t.cap) ∧ t.In .i64 w' ∧ t.v = q.v.map (fitI v) ∧ t.n = q.n ∧ (q.n = 0 → t.a = none ∧ t.cap = 0)) ∧ Below w.heap.size w w' := by
  have HQ := Lib.hid hq
  have h1 := hq.2.1
  have h2 := hq.2.2.1
  clear hq
  go_enter Tryz.func19, Tryz.ntmps19
  go_wp2_with fail
  go_loopw [5, 6] (fun o i wr => ∃ (k : Nat), k ≤ q.n ∧ i = .int .i64 k ∧ Hid (wr.ownsRow w.heap.size 3 1 o k (((q.v.take k).map (fitI v)).map (.int .i64))) ∧ Hid (Below w.heap.size w wr) ∧ Hid (k = 0 → o = .slice none 0 0)) (fun _ i _ => q.n - (intOf i).toNat)
  case atStart => exact ⟨0, by omega, rfl, Lib.hid (own_nil _ _ _), Lib.hid (Below.refl _ _), Lib.hid (fun _ => rfl)⟩
  case round =>
    obtain ⟨k, hk, rfl, ho, hb, hz⟩ := hrel
    by_cases hlt : k < q.n
    · obtain ⟨bb, off, x, hqa, hc, HX, hw⟩ := (HQ.out.1.below hb.out).at_ hlt
      obtain ⟨t1, t2⟩ := tmod_bd v hv x
      have hfb := fitI_bd v hv x
      have hx64 := wf64 hw
      have nz : ¬ (v : Int) = 0 := by omega
      obtain ⟨v2, w2, hrun, ho2, hg2, _⟩ := run_append_lits (P := Tryz.prog) .i64 wr w.heap.size 35 3 8 (by omega) Tryz.underlying35 info_int _ k 1 _ [fitI v x] #[.int .i64 (fitI v x)] rfl rfl ho.out (by omega) (by omega) hb.out.size
      have HO : Hid (w2.ownsRow w.heap.size 3 1 v2 (k + 1) (((q.v.take (k + 1)).map (fitI v)).map (.int .i64))) := Lib.hid (by
        have e : q.v.take (k + 1) = q.v.take k ++ [x] := by
          have h9 : k < q.v.length := by rw [HQ.out.1.1]; exact hlt
          have h8 := HX.out
          rw [List.getD_eq_getElem?_getD, List.getElem?_eq_getElem h9] at h8
          simp only [Option.getD_some] at h8
          rw [List.take_add_one, List.getElem?_eq_getElem h9, h8]
          rfl
        rw [e, List.map_append, List.map_append]
        simpa using ho2)
      have HB2 := Lib.hid (hb.out.grown hg2 hb.out.size (fun j hj => (ho.out.lt j hj).1))
      unfold fitI at hrun
      rw [hqa]
      clear ho2 hg2 hfb hw hqa
      go_wp2_with (at_builtin; refine wpList_append_at (by rfl) _ _ _ (by rfl) _ _ (by rfl) (by rfl) hrun ?_)
      clear hrun
      go_roundw
      case rel => exact ⟨k + 1, by omega, by go_num, HO, HB2, Lib.hid (fun e => absurd e (by omega))⟩
      case measure => simp [intOf]; omega
    · obtain rfl : k = q.n := by omega
      obtain ⟨t, hto, hti, htv, htn, htb⟩ := own_rw ho.out (fun c hc => by
        obtain ⟨x, _, rfl⟩ := List.mem_map.1 hc
        have := fitI_bd v hv x
        obtain ⟨z, hz⟩ : ∃ z : Nat, fitI v x = z := ⟨(fitI v x).toNat, by omega⟩
        rw [hz]; exact wf_n (by omega)) (by omega)
      have HT := Lib.hid hti
      have HTV : Hid (t.v = q.v.map (fitI v)) := Lib.hid (by rw [htv, List.take_of_length_le (by rw [HQ.out.1.1]; exact Nat.le_refl _)])
      have HTN := Lib.hid htn
      have HTB : Hid (q.n = 0 → t.a = none ∧ t.cap = 0) := Lib.hid fun e => by
        have h3 := hz.out e
        rw [hto] at h3
        simp only [Value.slice.injEq] at h3
        exact ⟨h3.1, h3.2.2⟩
      have HB9 := hb
      clear ho hb hti htv htn htb hz
      subst hto
      go_wp2
      go_ret
      exact ⟨⟨t, rfl, HT.out, HTV.out, HTN.out, HTB.out⟩, HB9.out⟩

/-- a number brought into 0 .. n -/
theorem brought0 (x : Int) (n : Nat) (hn : n ≤ 1000) : ∃ k : Nat, k ≤ n ∧ (wrap64 (wrap64 (x.tmod ((n : Int) + 1) + n) + 1)).tmod ((n : Int) + 1) = (k : Int) := by
  obtain ⟨t1, t2⟩ := tmod_bd (n + 1) (by omega) x
  have h3 : (x.tmod ((n : Int) + 1)).natAbs < n + 1 := by
    have := Int.natAbs_tmod x ((n + 1 : Nat) : Int)
    rw [Int.natAbs_natCast] at this
    have h4 := Nat.mod_lt x.natAbs (show 0 < n + 1 by omega)
    push_cast at this
    rw [this]
    exact h4
  generalize x.tmod ((n : Int) + 1) = r at *
  have e1 : wrap64 (r + n) = r + n := by unfold wrap64; omega
  have e2 : wrap64 (r + n + 1) = r + n + 1 := by unfold wrap64; omega
  rw [e1, e2, Int.tmod_eq_emod_of_nonneg (by omega)]
  have h5 := Int.emod_nonneg (r + n + 1) (show (n : Int) + 1 ≠ 0 by omega)
  have h6 := Int.emod_lt_of_pos (r + n + 1) (show 0 < (n : Int) + 1 by omega)
  exact ⟨((r + n + 1) % ((n : Int) + 1)).toNat, by omega, by omega⟩
/-- tokens that there are, no more than places -/
structure TsR (w : World) (s : Sz) (a : Option Addr) (n cap : Nat) (ts : List Int) : Prop where
  inn : Rw.In .i64 w ⟨a, n, cap, ts⟩
  bd : ∀ x ∈ ts, 0 ≤ x ∧ x < s.v
  le : n ≤ s.p
  form : (a = none ∧ n = 0 ∧ cap = 0) ∨ (0 < n ∧ ∃ b o, a = some ⟨b, o, none⟩)
section
variable {w w' : World} {s : Sz} {a : Option Addr} {n cap r mb B : Nat} {ts : List Int}
theorem TsR.bel (h : TsR w s a n cap ts) (hb : Below w.heap.size w w') : TsR w' s a n cap ts := ⟨h.inn.below hb, h.bd, h.le, h.form⟩
theorem TsR.lt (h : TsR w s a n cap ts) {b o : Nat} (e : a = some ⟨b, o, none⟩) : b < w.heap.size := by
  rcases h.form with ⟨h1, _⟩ | ⟨h0, _⟩
  · rw [h1] at e; cases e
  · obtain ⟨b', o', hb', hc⟩ := h.inn.1.2.2.2 h0
    simp only at hb'
    rw [e] at hb'
    cases hb'
    exact World.block_lt_of_cell? _ _ (hc 0 h0)
theorem TsR.away (h : TsR w s a n cap ts) (ha : Away w w' r mb) (hne : ∀ b o, a = some ⟨b, o, none⟩ → b ≠ r ∧ b ≠ mb) : TsR w' s a n cap ts :=
  ⟨⟨ha.elems h.inn.1 hne, h.inn.2⟩, h.bd, h.le, h.form⟩
end

theorem intsB (a a2 : Option Addr) (n cap cap2 : Nat) (xs : List Int) (w : World) (h : Elems .i32 w a n xs) (h2 : Elems .i32 w a2 n xs) :
    Calls Tryz.prog 13 #[.slice a n cap, .slice a2 n cap2] w fun e w' => e = .returned (.bool true) ∧ Below w.heap.size w w' := by
  refine (ints_yes a a2 n cap cap2 xs w h h2).mono ?_
  rintro e w' ⟨h1, d, rfl⟩
  exact ⟨h1, below_drewN (Below.refl _ _) d⟩
theorem bytesB (a a2 : Option Addr) (n cap cap2 : Nat) (xs : List Int) (w : World) (h : Elems .i8 w a n xs) (h2 : Elems .i8 w a2 n xs) :
    Calls Tryz.prog 16 #[.slice a n cap, .slice a2 n cap2] w fun e w' => e = .returned (.bool true) ∧ Below w.heap.size w w' := by
  refine (bytes_yes a a2 n cap cap2 xs w h h2).mono ?_
  rintro e w' ⟨h1, d, rfl⟩
  exact ⟨h1, below_drewN (Below.refl _ _) d⟩
/-- nothing, cut -/
theorem run_slice_nil (k n c : Nat) (hn : n = 0) (hc : c = 0) (hk : k ≤ n) (W : World) :
    (Instr.slice 35 (.slice none n c) none (some (.int .i64 (k : Int))) none).run Tryz.prog W = .ok (.slice none k c) W ∧ (Instr.slice 35 (.slice none n c) (some (.int .i64 (k : Int))) none none).run Tryz.prog W = .ok (.slice none (n - k) (c - k)) W := by
  subst hn hc
  obtain rfl : k = 0 := by omega
  exact ⟨by kernel_rfl, by kernel_rfl⟩
/-- a run behind the tokens fed, of however many entries -/
def RunE (w : World) (r m mb : Nat) (s : Sz) (V : Wt7) (fed : List Int) : Prop := ∃ N, RunS w r m mb s V fed N ∧ N ≤ 16 * fed.length
/-- what Feed answers behind tokens: nothing, of none; else the weights -/
def XV (w : World) (s : Sz) (V : Wt7) (ts : List Int) (n : Nat) (v : Value) : Prop := (n = 0 → v = .slice none 0 0) ∧ (0 < n → ∃ g c, v = .slice (some ⟨g, 0, none⟩) s.v c ∧ s.v ≤ c ∧ c ≤ 9223372036854775807 ∧ Elems .i32 w (some ⟨g, 0, none⟩) s.v (outO (V.nums s) (runO (V.nums s) st09 (ts.map Int.toNat)).x))
section
variable {w w' : World} {s : Sz} {V : Wt7} {m r mb r' mb' n : Nat} {fed fed' fed'' ts : List Int} {v : Value}
theorem RunE.bel (h : RunE w r m mb s V fed) (hb : Below w.heap.size w w') : RunE w' r m mb s V fed := let ⟨N, h1, h2⟩ := h; ⟨N, h1.bel hb, h2⟩
theorem RunE.lts (h : RunE w r m mb s V fed) : r < w.heap.size ∧ mb < w.heap.size := let ⟨N, h1, _⟩ := h; h1.lts
theorem RunE.mod (h : RunE w r m mb s V fed) : ModAt w m s V := let ⟨_, h1, _⟩ := h; h1.mod
theorem RunE.other (h : RunE w r m mb s V fed) (h2 : RunE w r' m mb' s V fed') (ha : Away w w' r' mb') (h3 : RunE w' r' m mb' s V fed'') (e : r ≠ r' ∧ r ≠ mb' ∧ mb ≠ r' ∧ mb ≠ mb') : RunE w' r m mb s V fed := by
  obtain ⟨N, h1, h4⟩ := h
  obtain ⟨_, h5, _⟩ := h2
  obtain ⟨_, h6, _⟩ := h3
  exact ⟨N, h1.other h5 ha h6 e, h4⟩
theorem XV.bel (h : XV w s V ts n v) (hb : Below w.heap.size w w') : XV w' s V ts n v := ⟨h.1, fun h0 => let ⟨g, c, h1, h2, h3, h4⟩ := h.2 h0; ⟨g, c, h1, h2, h3, h4.below hb⟩⟩
theorem XV.away (h : XV w s V ts n v) (hr : RunE w r m mb s V fed) (ha : Away w w' r mb) : XV w' s V ts n v := by
  refine ⟨h.1, fun h0 => ?_⟩
  obtain ⟨g, c, h1, h2, h3, h4⟩ := h.2 h0
  obtain ⟨N, h5, _⟩ := hr
  obtain ⟨D, hO, _⟩ := h5.run.map
  refine ⟨g, c, h1, h2, h3, h4.1, h4.2.1, h4.2.2.1, fun hn => ?_⟩
  obtain ⟨b, off, hb, hc⟩ := h4.2.2.2 hn
  refine ⟨b, off, hb, fun i hi => ha.cell (hc i hi) ?_ ?_⟩
  · intro e
    simp only at e
    subst e
    have := hc i hi
    rw [h5.run.box.cell] at this
    have h9 : ∀ (o : Nat) (y : Int), (#[Value.pointer (some ⟨m, 0, none⟩), .int .i64 (fed.length : Nat), .map (some mb)] : Array Value)[o]? ≠ some (.int .i32 y) := by
      intro o y
      match o with
      | 0 => simp
      | 1 => simp
      | 2 => simp
      | o + 3 => simp
    exact h9 _ _ this
  · intro e
    simp only at e
    subst e
    have := hc i hi
    rw [hO.cell] at this
    cases this
theorem fedE (r m mb n cap : Nat) (s : Sz) (ok : s.Ok) (V : Wt7) (fed xs : List Int) (w : World) (h : RunE w r m mb s V fed) (h200 : s.p ≤ 200) (a : Option Addr) (hx : Elems .i64 w a n xs) (hn : n ≤ 1000)
    (hne : ∀ b o, a = some ⟨b, o, none⟩ → b ≠ r ∧ b ≠ mb) (hb : ∀ t ∈ xs, 0 ≤ t ∧ t < s.v) (hp : fed.length + n ≤ s.p) :
    Calls Tryz.prog 11 #[.pointer (some ⟨r, 0, none⟩), .slice a n cap] w fun e w' => (∃ v, e = .returned (.tuple #[v, .int .i64 0]) ∧ XV w' s V (fed ++ xs) n v ∧ RunE w' r m mb s V (fed ++ xs)) ∧ Away w w' r mb := by
  obtain ⟨N, h1, h2⟩ := h
  refine (feda9 r m mb n N cap s ok V fed xs w h1 h200 a hx hn hne hb hp h2).mono ?_
  rintro e w' ⟨⟨v, N', rfl, h3, h4, h5, h6⟩, h7⟩
  exact ⟨⟨v, rfl, ⟨h3, h4⟩, N', h5, h6⟩, h7⟩
theorem forkE (r m mb : Nat) (s : Sz) (V : Wt7) (fed : List Int) (w : World) (h : RunE w r m mb s V fed) :
    Calls Tryz.prog 23 #[.pointer (some ⟨r, 0, none⟩)] w fun e w' => (∃ r2 mb2, e = .returned (.pointer (some ⟨r2, 0, none⟩)) ∧ w.heap.size ≤ r2 ∧ w.heap.size ≤ mb2 ∧ r2 ≠ mb2 ∧ RunE w' r2 m mb2 s V fed) ∧ Below w.heap.size w w' := by
  obtain ⟨N, h1, h2⟩ := h
  refine (fork8 r m mb _ 0 N s _ w h1.run).mono ?_
  rintro e w' ⟨⟨r2, mb2, rfl, h3, h4, h5, h6⟩, hb⟩
  exact ⟨⟨r2, mb2, rfl, h3, h4, h5, N, ⟨h6, h1.mod.bel hb, h1.tab.below hb, h1.stab.below hb⟩, h2⟩, hb⟩
theorem placeE (r m mb n : Nat) (s : Sz) (V : Wt7) (fed : List Int) (w : World) (h : RunE w r m mb s V fed) (hn : fed.length = n) :
    Calls Tryz.prog 14 #[.pointer (some ⟨r, 0, none⟩)] w fun e w' => e = .returned (.int .i64 n) ∧ w = w' := by
  obtain ⟨N, h1, _⟩ := h
  rw [← hn]
  exact place8 r m mb _ 0 N _ s w h1.run
theorem keptE (r m mb l q : Nat) (s : Sz) (ok : s.Ok) (V : Wt7) (fed : List Int) (w : World) (h : RunE w r m mb s V fed) (hl : l < s.l) (hq : q < fed.length) (hp : fed.length ≤ 65536) :
    Calls Tryz.prog 15 #[.pointer (some ⟨r, 0, none⟩), .int .i64 l, .int .i64 q] w fun e w' => (∃ g h : Rw, e = .returned (.tuple #[.slice g.a g.n g.cap, .slice h.a h.n h.cap, .bool true]) ∧ g.In .i8 w' ∧ h.In .i8 w' ∧ g.v = ((runO (V.nums s) st09 (fed.map Int.toNat)).K l q).1 ∧ h.v = ((runO (V.nums s) st09 (fed.map Int.toNat)).K l q).2 ∧ g.n = s.w ∧ h.n = s.w) ∧ Below w.heap.size w w' := by
  obtain ⟨N, h1, _⟩ := h
  exact kept8 r m mb _ N l q s ok _ w h1.run hl hq hp
end

end Go.Proofs.YtoeihigdndkjeaaGreatDoor

/-
  A model of a small shape, and the document's run of it, as the statements of stage 8 make them.
-/
namespace Go.Proofs.YtoeihigdndkjeaaGreatDoor
open Go.RowKit Go.Shelf
set_option linter.unusedVariables false
attribute [local go_sem] Oper.semAt_some

/-- a field of a shape by value -/
theorem run_field8 (a0 a1 a2 a3 a4 a5 : Value) (W : World) : (Instr.field 45 (.agg #[a0, a1, a2, a3, a4, a5]) 4).run Tryz.prog W = .ok a4 W ∧ (Instr.field 45 (.agg #[a0, a1, a2, a3, a4, a5]) 5).run Tryz.prog W = .ok a5 W ∧ (Instr.field 45 (.agg #[a0, a1, a2, a3, a4, a5]) 0).run Tryz.prog W = .ok a0 W :=
  ⟨by kernel_rfl, by kernel_rfl, by kernel_rfl⟩
/-- the cells of a run of the document's: weights, and nothing kept -/
def rcells (W : Wt7) : Array Value := #[.int .i64 W.l, .int .i64 W.w, .int .i64 W.h, .int .i64 W.i, .int .i64 W.v, .int .i64 W.p, .int .i64 W.e.r, .int .i64 W.e.c, .slice W.e.a W.e.n W.e.cap, .slice W.ba W.bn W.bcap, .slice W.t.a W.t.n W.t.cap, .int .i64 W.hd.r, .int .i64 W.hd.c, .slice W.hd.a W.hd.n W.hd.cap, .slice none 0 0]
def Makes8 (w0 w : World) (e : Ending) : Prop := ∃ m rr s W V, e = .returned (.tuple #[.pointer (some ⟨m, 0, none⟩), .pointer (some ⟨rr, 0, none⟩)]) ∧ w0.heap.size ≤ m ∧ w0.heap.size ≤ rr ∧ Box w rr 53 (rcells W) ∧ MadeM w m s W V

set_option maxHeartbeats 8000000 in
set_option maxRecDepth 100000 in
theorem made8 (x0 x1 x2 x3 x4 x5 : Int) (sd : Nat) (hsd : sd < 18446744073709551616) (q : Rw) (w : World) (hq : q.In .i8 w) (hn : q.n ≤ 2000) :
    Calls Tryz.prog 9 #[.agg #[.int .i64 x0, .int .i64 x1, .int .i64 x2, .int .i64 x3, .int .i64 x4, .int .i64 x5], .int .u64 sd, .slice q.a q.n q.cap] w fun e w' => Makes8 w w' e ∧ Below w.heap.size w w' := by
  have cM : ∀ W, Below w.heap.size w W → Calls Tryz.prog 17 #[.agg #[.int .i64 x0, .int .i64 x1, .int .i64 x2, .int .i64 x3, .int .i64 x4, .int .i64 x5], .int .u64 sd, .slice q.a q.n q.cap] W fun e w' => MadeW w' e ∧ Below W.heap.size W w' := fun W hW => made_doc x0 x1 x2 x3 x4 x5 sd hsd q W (hq.below hW) hn
  clear hq hsd
  go_enter Tryz.func9, Tryz.ntmps9
  go_upto_region 1 with (fail)
  generalize hwa : World.alloc _ _ = wa
  have XN : Box wa w.heap.size 22 #[.int .i64 x0, .int .i64 x1, .int .i64 x2, .int .i64 x3, .int .i64 x4, .int .i64 x5] := by rw [← hwa]; exact box_new _ _ _
  have HB : Below w.heap.size w wa := by rw [← hwa]; exact (Below.refl _ _).alloc (Nat.le_refl _) _
  clear hwa
  obtain ⟨z0, z1, z2, z3, z4, z5⟩ := XN.cells6
  have cM1 := cM wa HB
  have HBA := Lib.hid HB
  clear XN HB cM
  go_wp2_with fail
  refine cM1.mono ?_
  rintro e w1 ⟨⟨s, xs, hs, W, rfl, hin, h6, hwt, hnu⟩, hb⟩
  have HF : Hid (W.In w1 ∧ SixW s W ∧ wtB s W = true) := Lib.hid ⟨hin, h6, hwt⟩
  have HB1 := Lib.hid (below_two HBA.out hb)
  have HS := Lib.hid hs
  clear cM1 HBA hin h6 hwt hnu hb z0 z1 z2 z3 z4 z5 hs
  go_upto_region 2 with (first
    | (refine wpList_store_row (o := ⟨none, .store _ _ _, _, _, _, _⟩) rfl 50 _ _ rfl w1.heap.size W.cells rfl rfl 50 _ (box_new _ _ _) (by kernel_rfl) rfl (by simp [Wt7.cells, Value.oneCell']) ?_))
  generalize hw2 : World.setRow _ _ _ = w2
  have XW : Box w2 w1.heap.size 50 W.cells := by rw [← hw2]; exact (box_new _ _ _).setRow
  have hbw : Below w1.heap.size w1 w2 := by rw [← hw2]; exact below_setRow ((Below.refl _ _).alloc (Nat.le_refl _) _) (Nat.le_refl _) (by simp)
  obtain ⟨n2, hn2⟩ : ∃ n2, w1.heap.size = n2 := ⟨_, rfl⟩
  have HB2 := Lib.hid (below_two HB1.out hbw)
  have HIN2 := Lib.hid (HF.out.1.bel hbw)
  rw [hn2] at XW ⊢
  have cN := new8 s HS.out.1.1 W w2 HIN2.out HF.out.2.1 HF.out.2.2
  have HXW := Lib.hid XW
  clear hw2 hbw HB1 hn2
  go_wp2_with (refine wpList_load_row rfl 50 _ rfl n2 rfl 50 _ (0, 0) _ XW Tryz.underlying50 rfl (by kernel_rfl) ?_)
  refine cN.mono ?_
  rintro e w3 ⟨⟨m, V, rfl, hm, hmod, hnums⟩, hb⟩
  have HXW3 := Lib.hid (HXW.out.bel hb)
  have HB3 := Lib.hid (below_two HB2.out hb)
  have HM3 : Hid (MadeM w3 m s W V) := Lib.hid ⟨HS.out.1, HS.out.2, HIN2.out.bel hb, HF.out.2.1, HF.out.2.2, hmod, hnums⟩
  have hmw := Nat.le_trans HB2.out.size hm
  clear cN XW HXW HB2 HIN2 hmod hnums hb
  go_upto_region 3 with (fail)
  have hbd : Below w3.heap.size w3 w3.drew := (Below.refl _ _).drew
  have cS := shape8 m s V w3.drew (HM3.out.bel hbd).mod
  unfold Sz.val shv at cS
  obtain ⟨z0, z1, z2, z3, z4, z5⟩ := HM3.out.cells (w' := w3.drew) HXW3.out
  go_region_held3 (fun w' => w'.cell? ⟨n2, 0, none⟩ = some (.int .i64 s.l) ∧ w'.cell? ⟨n2, 1, none⟩ = some (.int .i64 s.w) ∧ w'.cell? ⟨n2, 2, none⟩ = some (.int .i64 s.h) ∧ w'.cell? ⟨n2, 3, none⟩ = some (.int .i64 s.i) ∧ w'.cell? ⟨n2, 4, none⟩ = some (.int .i64 s.v) ∧ w'.cell? ⟨n2, 5, none⟩ = some (.int .i64 s.p))
    (first | go_keep | (go_split_ands; refine ⟨?_, ?_, ?_, ?_, ?_, ?_⟩ <;> assumption))
    (first
      | (go_at_call 20; (with_reducible refine cS.mono ?_); rintro e w4 ⟨rfl, hb4⟩
         have HXW4 := Lib.hid (Box.bel (w := w3.drew) HXW3.out hb4)
         have HB4 := Lib.hid (below_two HB3.out (below_two hbd hb4))
         have HM4 := Lib.hid (HM3.out.bel (below_two hbd hb4))
         obtain ⟨y0, y1, y2, y3, y4, y5⟩ := HM3.out.cells HXW4.out
         clear hb4))
  clear z0 z1 z2 z3 z4 z5 y0 y1 y2 y3 y4 y5 hbd HXW3 HB3 HM3
  go_upto_region 5 with (fail)
  have R0 : w4.drew.rangeAt n2 0 (#[.int .i64 W.l, .int .i64 W.w, .int .i64 W.h, .int .i64 W.i, .int .i64 W.v, .int .i64 W.p, .int .i64 W.e.r, .int .i64 W.e.c, .slice W.e.a W.e.n W.e.cap, .slice W.ba W.bn W.bcap, .slice W.t.a W.t.n W.t.cap, .int .i64 W.hd.r, .int .i64 W.hd.c, .slice W.hd.a W.hd.n W.hd.cap] : Array Value).toList := rangeAt_box HXW4.out
  refine wp_region_held_drew (S := (fun w' => w'.rangeAt n2 0 (#[.int .i64 W.l, .int .i64 W.w, .int .i64 W.h, .int .i64 W.i, .int .i64 W.v, .int .i64 W.p, .int .i64 W.e.r, .int .i64 W.e.c, .slice W.e.a W.e.n W.e.cap, .slice W.ba W.bn W.bcap, .slice W.t.a W.t.n W.t.cap, .int .i64 W.hd.r, .int .i64 W.hd.c, .slice W.hd.a W.hd.n W.hd.cap] : Array Value).toList)) (by kernel_rfl) ?_ (fun hHeld => ?_)
  · exact R0
  refine wpAnyH_take (i := 0) (oi := ⟨some 33, _, _, _, _, _⟩) (v := ?_) rfl (by kernel_rfl) (by kernel_rfl) (by kernel_rfl) (fun _ _ _ h => h) (Or.inl ⟨by rfl, ?hy1⟩) hHeld ?rest1
  case hy1 => (intro W9 hSw; (try dsimp only at hSw); go_simp; (try with_reducible rfl))
  simp only [Act.put, List.setIfInBounds_toArray, List.set_cons_zero, List.set_cons_succ]
  refine wpAnyH_take (i := 1) (oi := ⟨some 34, _, _, _, _, _⟩) (v := .agg #[.int .i64 W.l, .int .i64 W.w, .int .i64 W.h, .int .i64 W.i, .int .i64 W.v, .int .i64 W.p, .int .i64 W.e.r, .int .i64 W.e.c, .slice W.e.a W.e.n W.e.cap, .slice W.ba W.bn W.bcap, .slice W.t.a W.t.n W.t.cap, .int .i64 W.hd.r, .int .i64 W.hd.c, .slice W.hd.a W.hd.n W.hd.cap]) rfl (by kernel_rfl) (by kernel_rfl) (by kernel_rfl) (fun _ _ _ h => h) (yieldsIf_load_box (by rfl) 50 _ rfl n2 rfl #[.int .i64 W.l, .int .i64 W.w, .int .i64 W.h, .int .i64 W.i, .int .i64 W.v, .int .i64 W.p, .int .i64 W.e.r, .int .i64 W.e.c, .slice W.e.a W.e.n W.e.cap, .slice W.ba W.bn W.bcap, .slice W.t.a W.t.n W.t.cap, .int .i64 W.hd.r, .int .i64 W.hd.c, .slice W.hd.a W.hd.n W.hd.cap] (fun _ h => h) Tryz.underlying50 rfl (by kernel_rfl)) hHeld ?_
  simp only [Act.put, List.setIfInBounds_toArray, List.set_cons_zero, List.set_cons_succ]
  refine wpAnyH_take (i := 2) (oi := ⟨some 35, _, _, _, _, _⟩) (v := ?_) rfl (by kernel_rfl) (by kernel_rfl) (by kernel_rfl) (fun _ _ _ h => h) (Or.inl ⟨by rfl, ?hy2⟩) hHeld ?rest2
  case hy2 => (intro W9 hSw; (try dsimp only at hSw); go_simp; (try with_reducible rfl))
  simp only [Act.put, List.setIfInBounds_toArray, List.set_cons_zero, List.set_cons_succ]
  refine wpAnyH_take (i := 4) (oi := ⟨some 6, _, _, _, _, _⟩) (v := ?_) rfl (by kernel_rfl) (by kernel_rfl) (by kernel_rfl) (fun _ _ _ h => h) (Or.inl ⟨by rfl, ?hy4⟩) hHeld ?rest4
  case hy4 => (intro W9 hSw; (try dsimp only at hSw); go_simp; (try with_reducible rfl))
  simp only [Act.put, List.setIfInBounds_toArray, List.set_cons_zero, List.set_cons_succ]
  refine wpAnyH_ready (rs := [3]) (by kernel_rfl) (by simp) ?_
  refine AllReadyH.cons (o := ⟨some 36, _, _, _, _, _⟩) rfl (fun K hK => ?_) AllReadyH.nil
  go_simp
  have B1 : ∀ T, Below w4.heap.size w4 (w4.drew.alloc (.cells (rcells W) T)) := fun T => ((Below.refl _ _).drew).alloc (Nat.le_refl _) _
  have R1 : ∀ T, (w4.drew.alloc (.cells (rcells W) T)).rangeAt n2 0 (#[.int .i64 W.l, .int .i64 W.w, .int .i64 W.h, .int .i64 W.i, .int .i64 W.v, .int .i64 W.p, .int .i64 W.e.r, .int .i64 W.e.c, .slice W.e.a W.e.n W.e.cap, .slice W.ba W.bn W.bcap, .slice W.t.a W.t.n W.t.cap, .int .i64 W.hd.r, .int .i64 W.hd.c, .slice W.hd.a W.hd.n W.hd.cap] : Array Value).toList := fun T => rangeAt_box (Box.alloc (w := w4.drew) HXW4.out _)
  refine hK.out _ _ ?_ (fun hNew => ?_)
  · exact R1 _
  clear hK K hHeld
  have hHeld := hNew
  clear hNew
  try simp only [Act.put, List.setIfInBounds_toArray, List.set_cons_zero, List.set_cons_succ]
  refine wpAnyH_take (i := 5) (oi := ⟨some 7, _, _, _, _, _⟩) (v := ?_) rfl (by kernel_rfl) (by kernel_rfl) (by kernel_rfl) (fun _ _ _ h => h) (Or.inl ⟨by rfl, ?hy5⟩) hHeld ?rest5
  case hy5 => (intro W9 hSw; (try dsimp only at hSw); go_simp; (try with_reducible rfl))
  simp only [Act.put, List.setIfInBounds_toArray, List.set_cons_zero, List.set_cons_succ]
  refine wpAnyH_done (by kernel_rfl) ?_ _
  have X2 : Box (w4.drew.alloc (.cells (rcells W) 53)) w4.heap.size 53 (rcells W) := box_new w4.drew _ _
  have hM9 := HM4.out.bel (B1 53)
  have hB9 := below_two HB4.out (B1 53)
  have HF9 : Hid (Makes8 w (w4.drew.alloc (.cells (rcells W) 53)) (.returned (.tuple #[.pointer (some ⟨m, 0, none⟩), .pointer (some ⟨w4.heap.size, 0, none⟩)]))) := Lib.hid ⟨m, w4.heap.size, s, W, V, rfl, hmw, HB4.out.size, X2, hM9⟩
  have HB9 := Lib.hid hB9
  clear X2 hM9 hB9 R0 R1 B1 hHeld
  unfold rcells at HF9 HB9
  go_wp2_with fail
  go_ret2
  exact ⟨HF9.out, HB9.out⟩

end Go.Proofs.YtoeihigdndkjeaaGreatDoor

/-
  The document's examples of stage 8: awake returns true.
-/
namespace Go.Proofs.YtoeihigdndkjeaaGreatDoor
open Go.RowKit Go.Shelf
set_option linter.unusedVariables false
attribute [local go_sem] Oper.semAt_some

set_option maxHeartbeats 8000000 in
set_option maxRecDepth 100000 in
theorem awake8 (w : World) (hT : Tabs9 w) : Calls Tryz.prog 8 #[] w fun e w' => e = .returned (.bool true) ∧ Below w.heap.size w w' := by
  have cO : ∀ (W : World) (b : Nat), Elems .i8 W (some ⟨b, 0, none⟩) 140 (List.replicate 140 0) → Calls Tryz.prog 33 #[.agg #[.int .i64 1, .int .i64 4, .int .i64 2, .int .i64 3, .int .i64 5, .int .i64 8], .slice (some ⟨b, 0, none⟩) 140 140] W fun e w' => OfW ex9 (List.replicate 140 0) w' e ∧ Below W.heap.size W w' :=
    fun W b hx => of8 ex9 ex9_ok b 0 140 140 (List.replicate 140 0) W hx (by decide) (by omega) (by omega) (by omega)
  go_enter Tryz.func8, Tryz.ntmps8
  go_upto_region 2 with (fail)
  generalize hwa : World.alloc w _ = wa
  have X : Box wa w.heap.size 45 #[.int .i64 1, .int .i64 4, .int .i64 2, .int .i64 3, .int .i64 5, .int .i64 8] := by rw [← hwa]; exact box_new _ _ _
  have HB : Hid (Below w.heap.size w wa) := Lib.hid (by rw [← hwa]; exact (Below.refl _ _).alloc (Nat.le_refl _) _)
  have HX := Lib.hid X
  obtain ⟨z0, z1, z2, z3, z4, z5⟩ := X.cells6
  clear hwa X
  have hz : ∀ (V : World) (T : TypeId), Elems .i8 (V.alloc (.cells (madeCells #[.int .i8 0] 140) T)).drew (some ⟨V.heap.size, 0, none⟩) 140 (List.replicate 140 0) := fun V T => (zeros140 V T).below (Below.refl _ _).drew
  have hmk : ∀ W, (Instr.makeSlice 24 (.int .i64 140) (.int .i64 140)).run Tryz.prog W = .ok (.slice (some ⟨W.heap.size, 0, none⟩) 140 140) (W.alloc (.cells (madeCells #[.int .i8 0] 140) 64)) := fun W => run_make_row' (P := Tryz.prog) 24 64 (.int .i8 0) 1 Tryz.underlying24 info8 rfl .i64 .i64 140 (by omega) (by omega) W
  go_region_held3 (fun w' => w'.cell? ⟨w.heap.size, 0, none⟩ = some (.int .i64 1) ∧ w'.cell? ⟨w.heap.size, 1, none⟩ = some (.int .i64 4) ∧ w'.cell? ⟨w.heap.size, 2, none⟩ = some (.int .i64 2) ∧ w'.cell? ⟨w.heap.size, 3, none⟩ = some (.int .i64 3) ∧ w'.cell? ⟨w.heap.size, 4, none⟩ = some (.int .i64 5) ∧ w'.cell? ⟨w.heap.size, 5, none⟩ = some (.int .i64 8))
    (first | go_keep | (go_split_ands; refine ⟨?_, ?_, ?_, ?_, ?_, ?_⟩ <;> assumption))
    (first
      | (go_at_call 33; (with_reducible refine (cO _ _ (hz _ _)).mono ?_); rintro e w1 ⟨hW, hb1⟩; obtain ⟨W, rfl, hin, h6, hwt, hnu⟩ := hW
         have hB1 : Hid (Below wa.heap.size wa w1) := Lib.hid (below_two (((Below.refl _ _).alloc (Nat.le_refl _) _).drew) hb1)
         obtain ⟨y0, y1, y2, y3, y4, y5⟩ := (Box.bel HX.out hB1.out).cells6
         have cN := new8 ex9 ex9_ok W w1 hin h6 hwt
         have HNU := Lib.hid hnu
         clear hin h6 hwt hnu hb1)
      | (go_at_call 18; (with_reducible refine cN.mono ?_); rintro e w2 ⟨⟨m, V, rfl, m1, hmod, hnums⟩, hb2⟩
         have HB2 := Lib.hid (below_two hB1.out hb2)
         obtain ⟨x0, x1, x2, x3, x4, x5⟩ := (Box.bel HX.out HB2.out).cells6
         have HMOD := Lib.hid hmod
         have HNUM := Lib.hid hnums
         clear cN hmod hnums hb2))
  have HBW := Lib.hid (below_two HB.out HB2.out)
  have HT2 := Lib.hid (hT.bel HBW.out)
  have HZ : Hid (∀ x ∈ (V.nums ex9).hd, x = 0) := Lib.hid (by
    rw [HNUM.out, HNU.out]
    intro x hx
    unfold wnOf cutL at hx
    exact List.eq_of_mem_replicate (List.mem_of_mem_drop (List.mem_of_mem_take hx)))
  have B1 : ∀ (U : World) (o : Obj), Below U.heap.size U (U.alloc o) := fun U o => (Below.refl _ _).alloc (Nat.le_refl _) o
  have cR := run8 m ex9 V w2 HMOD.out (fun _ _ => ([], []))
  clear cO hz hmk z0 z1 z2 z3 z4 z5 y0 y1 y2 y3 y4 y5 x0 x1 x2 x3 x4 x5 hT HX
  go_wp2_with fail
  refine cR.mono ?_
  rintro e w3 ⟨⟨r, mb, rfl, t1, t2, t3, hR⟩, hb3⟩
  have RS3 : RunS w3 r m mb ex9 V [] 0 := ⟨hR, HMOD.out.bel hb3, (HT2.out.bel hb3).1, (HT2.out.bel hb3).2.1⟩
  have HB3 := Lib.hid (below_two HBW.out hb3)
  have hlt3 := RS3.lts
  have cF : ∀ T : TypeId, Calls Tryz.prog 11 #[.pointer (some ⟨r, 0, none⟩), .slice (some ⟨w3.heap.size, 0, none⟩) 1 1] (w3.alloc (.cells #[.int .i64 3] T)) fun e w' =>
      (∃ g c N', e = .returned (.tuple #[.slice (some ⟨g, 0, none⟩) 5 c, .int .i64 0]) ∧ 5 ≤ c ∧ c ≤ 9223372036854775807 ∧ Elems .i32 w' (some ⟨g, 0, none⟩) 5 (outO (V.nums ex9) (runO (V.nums ex9) st09 (([] ++ [3] : List Int).map Int.toNat)).x) ∧ RunS w' r m mb ex9 V ([] ++ [3]) N' ∧ N' ≤ 16 * ([] ++ [3] : List Int).length) ∧ Away (w3.alloc (.cells #[.int .i64 3] T)) w' r mb :=
    fun T => fed9 r m mb 1 0 1 ex9 ex9_ok V [] [3] _ (RS3.bel (B1 _ _)) (by decide) (some ⟨w3.heap.size, 0, none⟩) (elems_litK [3] rfl rfl (by decide) (by decide) rfl) (by omega) (by omega) (fun b o hbo => by cases hbo; omega) (by decide) (by decide) (by decide)
  clear cR hR hb3
  go_wp2_with fail
  refine (cF _).mono ?_
  rintro e w4 ⟨⟨g, c, N4, rfl, g1, g2, hE, hRS, hN⟩, haw⟩
  have hz4 : outO (V.nums ex9) (runO (V.nums ex9) st09 (([] ++ [3] : List Int).map Int.toNat)).x = List.replicate 5 0 := by
    unfold outO
    rw [mv_zero HZ.out]
    rfl
  rw [hz4] at hE
  have hr3 : w2.heap.size ≤ r := t1
  have hBw2 := HBW.out.size
  have HB4 : Hid (Below w.heap.size w w4) := Lib.hid (below_away (below_two HB3.out (B1 _ _)) haw (by omega) (by omega) (below_two HB3.out (B1 _ _)).size)
  have HE4 := Lib.hid hE
  have HRS4 := Lib.hid hRS
  have hlt4 := hRS.lts
  have hgl : g < w4.heap.size ∧ g ≠ r ∧ g ≠ mb := by
    obtain ⟨b, off, hb, hc⟩ := hE.2.2.2 (by omega)
    cases hb
    have h0 := hc 0 (by omega)
    refine ⟨World.block_lt_of_cell? _ _ h0, ?_, ?_⟩
    · intro e
      have hbx := hRS.run.box
      subst e
      rw [hbx.cell] at h0
      simp at h0
    · intro e
      obtain ⟨D, hO, _⟩ := hRS.run.map
      subst e
      rw [hO.cell] at h0
      cases h0
  have hN4 : N4 ≤ 16 := hN
  clear cF hE hRS haw hz4 hN RS3
  have cG : ∀ T : TypeId, Calls Tryz.prog 11 #[.pointer (some ⟨r, 0, none⟩), .slice (some ⟨w4.heap.size, 0, none⟩) 1 1] (w4.alloc (.cells #[.int .i64 5] T)) fun e w' =>
      (∃ v N', e = .returned (.tuple #[v, .int .i64 2]) ∧ RunAt w' r m mb ex9 1 0 N' (runO (V.nums ex9) st09 (([] ++ [3] : List Int).map Int.toNat)).K) ∧ Away (w4.alloc (.cells #[.int .i64 5] T)) w' r mb := fun T => by
    have h := feed8 r m mb 1 N4 1 ⟨[], 1, (runO (V.nums ex9) st09 (([] ++ [3] : List Int).map Int.toNat)).K⟩ ex9 ex9_ok V (w4.alloc (.cells #[.int .i64 5] T)) (HRS4.out.bel (B1 _ _)).run (HRS4.out.bel (B1 _ _)).mod rfl (by decide) (by show (1 : Nat) ≤ 8; omega) (some ⟨w4.heap.size, 0, none⟩) [5] (elems_litK [5] rfl rfl (by decide) (by decide) rfl) (by omega) (fun b o hbo => by cases hbo; omega) (by omega) (HRS4.out.bel (B1 _ _)).tab (HRS4.out.bel (B1 _ _)).stab
    refine h.mono ?_
    rintro e w' ⟨v, N', rfl, q1, q2, q3, q4, q5, q6, q7, q8⟩
    have hf : faultO ex9 1 [5] = 2 := by decide
    have hnx : nextO ex9 (V.nums ex9) ⟨[], 1, (runO (V.nums ex9) st09 (([] ++ [3] : List Int).map Int.toNat)).K⟩ [5] = ⟨[], 1, (runO (V.nums ex9) st09 (([] ++ [3] : List Int).map Int.toNat)).K⟩ := by
      unfold nextO
      rw [if_neg (by show ¬ faultO ex9 1 [5] = 0; rw [hf]; decide)]
    rw [hnx] at q4
    exact ⟨⟨v, N', by rw [show faultO ex9 1 [5] = 2 from hf], q4⟩, q8⟩
  go_wp2_with fail
  refine (cG _).mono ?_
  rintro e w5 ⟨⟨v, N5, rfl, hR5⟩, haw⟩
  have HB5 : Hid (Below w.heap.size w w5) := Lib.hid (below_away (below_two HB4.out (B1 _ _)) haw (by omega) (by omega) (below_two HB4.out (B1 _ _)).size)
  have HE5 : Hid (Elems .i32 w5 (some ⟨g, 0, none⟩) 5 (List.replicate 5 0)) := Lib.hid (haw.elems (HE4.out.below (B1 _ _)) (fun b o hbo => by cases hbo; omega))
  have HR5 := Lib.hid hR5
  have hmk5 : ∀ W, (Instr.makeSlice 36 (.int .i64 5) (.int .i64 5)).run Tryz.prog W = .ok (.slice (some ⟨W.heap.size, 0, none⟩) 5 5) (W.alloc (.cells (madeCells #[.int .i32 0] 5) 21)) := fun W => run_make_row' (P := Tryz.prog) 36 21 (.int .i32 0) 4 Tryz.underlying36 info_int32 rfl .i64 .i64 5 (by omega) (by omega) W
  have cI : ∀ T : TypeId, Calls Tryz.prog 13 #[.slice (some ⟨g, 0, none⟩) 5 c, .slice (some ⟨w5.heap.size, 0, none⟩) 5 5] (w5.alloc (.cells (madeCells #[.int .i32 0] 5) T)) fun e w' => e = .returned (.bool true) ∧ ∃ d, w' = (w5.alloc (.cells (madeCells #[.int .i32 0] 5) T)).drewN d := fun T =>
    ints_yes (some ⟨g, 0, none⟩) (some ⟨w5.heap.size, 0, none⟩) 5 c 5 (List.replicate 5 0) _ (HE5.out.below (B1 _ _)) ((mine_made .i32 w5 T 5 rfl).elems (by simp) (by omega) (fun x hx => by rw [List.eq_of_mem_replicate hx]; rfl))
  clear cG haw hR5
  go_wp2_with fail
  refine (cI _).mono ?_
  rintro e w6 ⟨rfl, d, rfl⟩
  have hb6 := below_drewN (B1 w5 (.cells (madeCells #[.int .i32 0] 5) 21)) d
  have cP := place8 r m mb 1 0 N5 _ ex9 _ (HR5.out.bel hb6)
  have HB6 := Lib.hid (below_two HB5.out hb6)
  clear cI hmk5 hb6
  go_wp2_with fail
  refine cP.mono ?_
  rintro e w7 ⟨rfl, rfl⟩
  go_wp2
  go_ret
  exact ⟨rfl, HB6.out⟩

end Go.Proofs.YtoeihigdndkjeaaGreatDoor
