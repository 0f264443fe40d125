/-
  Contract of the document's Beside.
-/
import Derived.Test.YtocjcfblpifdhaaRefStack
import Derived.Test.YtocjcfblpifdhaaDelete
import Derived.Test.YtocjcfblpifdhaaRefTurn
namespace Go.Proofs.Ytocjcfblpifdhaa
open Go.RowKit
set_option linter.unusedVariables false

/-- a grid that was answered, in a block of the call's own -/
def FreshGr (w w' : World) (r c : Nat) (xs : List Int) (e : Ending) : Prop :=
  ∃ k : Gr, e = .returned (.agg #[.int .i64 k.r, .int .i64 k.c, .slice k.a k.n k.cap]) ∧ k.r = r ∧ k.c = c ∧ k.n = r * c ∧ k.v = xs ∧ k.In w' ∧ ∀ x, k.a = some x → w.heap.size ≤ x.block ∧ x.block < w'.heap.size

theorem own_fresh {w : World} {base : Nat} {t : TypeId} {size : Nat} {a : Option Addr} {n cap m : Nat} {cs : List Value} (h : w.ownsRow base t size (.slice a n cap) m cs) : ∀ x, a = some x → base ≤ x.block ∧ x.block < w.heap.size := by
  intro x hx
  subst hx
  exact h.lt x.block rfl

set_option maxHeartbeats 2000000 in
theorem ref_turn2 (R C : Nat) (a : Option Addr) (cap : Nat) (xs : List Int) (w : World) (h : Elems .i32 w a (R * C) xs) (hR : R ≤ 4096) (hC : C ≤ 4096) :
    Calls Try.prog 26 #[.agg #[.int .i64 R, .int .i64 C, .slice a (R * C : Nat) cap]] w fun e w' =>
      FreshGr w w' C R (tab C R fun i j => xs.getD (j * C + i) 0) e ∧ Below w.heap.size w w' := by
  have HE := Lib.hid h
  have hsz : C * R ≤ 4096 * 4096 := Nat.mul_le_mul hC hR
  clear h
  go_enter Try.func26, Try.ntmps26
  go_wp2_with fail
  go_loopw [4] (fun i wr => ∃ (i' : Nat) (u : Value), i' ≤ C ∧ i = .int .i64 i' ∧ Hid (OutInv w R C (.slice a (R * C : Nat) cap) C R u (pre R (fun i j => xs.getD (j * C + i) 0) i' 0) wr)) (fun i _ => C - (intOf i).toNat)
  case atStart => exact ⟨0, .slice none 0 0, by omega, rfl, Lib.hid (outInv_start w _ _ _ _ _ _ _ _)⟩
  case round =>
    obtain ⟨i', u, hi1, rfl, hinv⟩ := hrel
    obtain ⟨z1, y0, y1, y2, _, _, _⟩ := hinv.out.b1
    by_cases hlt : i' < C
    · go_wp2_with fail
      go_loopw [5] (fun j wr => ∃ (j' : Nat) (u : Value), j' ≤ R ∧ j = .int .i64 j' ∧ Hid (OutInv w R C (.slice a (R * C : Nat) cap) C R u (pre R (fun i j => xs.getD (j * C + i) 0) i' j') wr)) (fun j _ => R - (intOf j).toNat)
      case atStart => exact ⟨0, u, by omega, rfl, hinv⟩
      case round =>
        clear hinv y0 y1 y2 z1
        obtain ⟨j', u, hj1, rfl, hinv⟩ := hrel
        obtain ⟨h1, k0, k1, k2, f0, f1, f2⟩ := hinv.out.b1
        by_cases hlt2 : j' < R
        · have hcell := fun W (hb : Below w.heap.size w W) => ref_cell R C j' i' a cap xs W (HE.out.below hb) hR hC hlt2 hlt
          have hl : (pre R (fun i j => xs.getD (j * C + i) 0) i' j').length ≤ 16777216 := by
            rw [pre_length]
            have := row_lt hlt hlt2
            omega
          have hnx : ∀ x, x = xs.getD (j' * C + i') 0 → pre R (fun i j => xs.getD (j * C + i) 0) i' j' ++ [x] = pre R (fun i j => xs.getD (j * C + i) 0) i' (j' + 1) := fun x hx => by
            rw [pre_next, hx]
          have HL := Lib.hid hl
          have HNX := Lib.hid hnx
          obtain ⟨cs, hcs⟩ : ∃ cs, pre R (fun i j => xs.getD (j * C + i) 0) i' j' = cs := ⟨_, rfl⟩
          rw [hcs] at hinv HL HNX
          clear hl hnx hcs
          obtain ⟨x, hx⟩ : ∃ x, x = xs.getD (j' * C + i') 0 := ⟨_, rfl⟩
          rw [← hx] at hcell
          have HX := Lib.hid hx
          clear hx
          obtain ⟨h3, l0, l1, l2, g0, g1, g2⟩ := hinv.out.b3
          go_wp2_with fail
          go_region_law (first
            | (go_simp; go_at_call 17; (with_reducible refine (hcell _ hinv.out.bel.drew).mono ?_); rintro e wc ⟨rfl, hbc⟩
               obtain ⟨g, cap2, w2, hrun, ⟨_, m0, m1, m2, _, _, _⟩, ⟨_, n0, n1, n2, _, _, _⟩, ⟨_, p0, p1, p2, _, _, _⟩, ⟨_, q0, q1, q2, s0, s1, s2⟩, hnext⟩ := hinv.out.next (((Below.refl _ _).drew).trans hbc) x HL.out)
            | (refine step_append_run (by rfl) _ _ _ (by rfl) _ _ (by rfl) (by rfl) hrun ?_))
          all_goals go_wp2
          all_goals
            go_roundw
            case rel => exact ⟨j' + 1, _, by omega, by go_num, Lib.hid (by rw [← HNX.out x HX.out]; exact hnext)⟩
            case measure => simp [intOf]; omega
        · obtain rfl : j' = R := by omega
          have hnx := hinv.out
          rw [pre_row] at hnx
          have HNX := Lib.hid hnx
          clear hnx
          go_wp2
          go_roundw
          case rel => exact ⟨i' + 1, u, by omega, by go_num, HNX⟩
          case measure => simp [intOf]; omega
    · obtain rfl : i' = C := by omega
      have hnx := hinv.out
      rw [pre_tab] at hnx
      have hwf := tab_wf (r := i') (c := R) (f := fun i j => xs.getD (j * i' + i) 0) fun i j _ _ => getD_wf HE.out.2.2.1 rfl _
      have hlen := tab_length i' R fun i j => xs.getD (j * i' + i) 0
      obtain ⟨cs, hcs⟩ : ∃ cs, tab i' R (fun i j => xs.getD (j * i' + i) 0) = cs := ⟨_, rfl⟩
      rw [hcs] at hnx hwf hlen
      have HCS := Lib.hid hcs
      obtain ⟨h1, k0, k1, k2, f0, f1, f2⟩ := hnx.b2
      obtain ⟨h3, l0, l1, l2, g0, g1, g2⟩ := hnx.b3
      have hown := hnx.own
      have hbel := hnx.bel
      have hown2 := own_grown hown (grownBy_res wr (w.heap.size + 1) (.int .i64 i') (.int .i64 R) u) (by omega)
      obtain ⟨K, hu, f1, f2, f3, f4, hK⟩ := own_gr hown2 (by omega) hwf i' R ⟨by omega, by omega⟩ ⟨by omega, by omega⟩
      subst hu
      have hbr := below_res hbel (b := w.heap.size + 1) (by omega) (.int .i64 i') (.int .i64 R) (.slice K.a K.n K.cap)
      have hfr := own_fresh hown2
      have HK := Lib.hid (And.intro f1 (And.intro f2 (And.intro f3 (And.intro f4 (And.intro hK (And.intro hlen hfr))))))
      clear hinv hnx hcs hown hown2 hlen f1 f2 f3 f4 hK hfr
      go_wp2
      exact bodyPost_ret (v := .agg #[.int .i64 i', .int .i64 R, .slice K.a K.n K.cap]) (by simp [results, Try.results26, go_sem, k0, k1, k2]) rfl
        ⟨⟨K, by rw [HK.out.1, HK.out.2.1], HK.out.1, HK.out.2.1, by rw [HK.out.2.2.1, HK.out.2.2.2.2.2.1], by rw [HK.out.2.2.2.1, HCS.out], HK.out.2.2.2.2.1, fun x hx => by have := HK.out.2.2.2.2.2.2 x hx; exact ⟨by omega, this.2⟩⟩, hbr⟩


theorem ref_turn_fresh (g : Gr) (R C : Nat) (w : World) (h : g.In w) (e1 : g.r = R) (e2 : g.c = C) (e3 : g.n = R * C) (hR : R ≤ 4096) (hC : C ≤ 4096) :
    Calls Try.prog 26 #[.agg #[.int .i64 g.r, .int .i64 g.c, .slice g.a g.n g.cap]] w fun e w' => FreshGr w w' C R (tab C R fun i j => g.v.getD (j * C + i) 0) e ∧ Below w.heap.size w w' := by
  have a1 := h.1
  rw [e1, e2, e3]
  rw [e3] at a1
  exact ref_turn2 R C g.a g.cap g.v w a1 hR hC

theorem Gr.In.grown {w w' : World} {g : Gr} {row : Option Nat} (h : g.In w) (hg : w.grownBy w' row) (hne : ∀ x, g.a = some x → some x.block ≠ row) : g.In w' := by
  refine ⟨⟨h.1.1, h.1.2.1, h.1.2.2.1, fun hn => ?_⟩, h.2⟩
  obtain ⟨b, off, he, _⟩ := h.1.2.2.2 hn
  have h1 := h.1
  rw [he] at h1
  obtain ⟨b', off', e, hc⟩ := (h1.grown hg (hne _ he)).2.2.2 hn
  exact ⟨b', off', he.trans e, hc⟩

/-- a grid turned -/
def turnG (g : Gr) : Gr := ⟨g.c, g.r, none, g.n, 0, tab g.c.toNat g.r.toNat fun i j => g.v.getD (j * g.c.toNat + i) 0⟩
/-- what is said of a grid, without where it lies -/
def strip (g : Gr) : Gr := ⟨g.r, g.c, none, g.n, 0, g.v⟩

/-- what Beside's loop keeps -/
structure BesInv (w : World) (gs : List Gr) (k : Nat) (v : Value) (gs' : List Gr) (wr : World) : Prop where
  b2 : Box3 wr w.heap.size (.int .i64 0) (.int .i64 0) (.slice none 0 0)
  own : wr.ownsRow (w.heap.size + 1) 24 3 v k (gs'.flatMap flat)
  inn : ∀ g ∈ gs', g.In wr ∧ ∀ x, g.a = some x → some x.block ≠ v.ownBlock ∧ x.block < wr.heap.size
  len : gs'.length = k
  trn : gs'.map strip = (gs.take k).map turnG
  bel : Below w.heap.size w wr

theorem BesInv.grids {w : World} {gs : List Gr} {k : Nat} {v : Value} {gs' : List Gr} {wr : World} (h : BesInv w gs k v gs' wr) (hk : k ≤ 1000) : ∃ a cap, v = .slice a k cap ∧ Grids wr a k gs' := by
  obtain ⟨a, cap, hv, _, _, _, hG⟩ := own_grids h.own h.len hk (fun g hg => (h.inn g hg).1)
  exact ⟨a, cap, hv, hG⟩

/-- one grid more -/
theorem BesInv.next {w : World} {gs : List Gr} {k : Nat} {v : Value} {gs' : List Gr} {wr wc : World} (h : BesInv w gs k v gs' wr) (hk : k < 1000) (hkl : k < gs.length) (g : Gr) (hg : gs.getD k default = g) (hb : Below wr.heap.size wr wc) (K : Gr) (hK : K.In wc) (hs : strip K = turnG g) (hfr : ∀ x, K.a = some x → wr.heap.size ≤ x.block ∧ x.block < wc.heap.size) :
    ∃ v2 w2, Sem.run Try.prog (Builtin.append_ #[36, 36] 36 #[v, .slice (some ⟨wc.heap.size, 0, none⟩) 1 1]) (wc.alloc (.cells #[.int .i64 K.r, .int .i64 K.c, .slice K.a K.n K.cap] 24)) = .ok v2 w2 ∧ BesInv w gs (k + 1) v2 (gs' ++ [K]) w2 := by
  have hlw := h.bel.size
  have hb2 := h.b2.1
  have hsz := hb.size
  have hown := own_below h.own hb
  obtain ⟨v2, w2, hr, hown2, hg2, hob, hlt⟩ := run_append_gr wc (w.heap.size + 1) v k gs' K hown (by omega) (by omega)
  have hsz2 := hg2.size
  have hneK : ∀ x, K.a = some x → some x.block ≠ v.ownBlock := fun x hx e => by
    have h1 := (h.own.lt x.block e.symm).2
    have h2 := (hfr x hx).1
    omega
  have hlim : ∀ b, b < wc.heap.size → some b ≠ v.ownBlock → some b ≠ v2.ownBlock := fun b hb' hne => by
    rcases hob with e | e
    · rw [e]; exact hne
    · rw [e]; intro e2; have := Option.some.inj e2; omega
  refine ⟨v2, w2, hr, (h.b2.below hb).kept hg2 (fun e => by have := (h.own.lt _ e.symm).1; omega), hown2, ?_, by rw [List.length_append, h.len]; rfl, ?_, ?_⟩
  · intro x hx
    rcases List.mem_append.1 hx with hx | hx
    · obtain ⟨hin, hap⟩ := h.inn x hx
      refine ⟨(hin.below hb).grown hg2 (fun y hy => (hap y hy).1), fun y hy => ?_⟩
      have hl := (hap y hy).2
      exact ⟨hlim _ (by omega) (hap y hy).1, by omega⟩
    · simp only [List.mem_singleton] at hx
      subst hx
      refine ⟨hK.grown hg2 hneK, fun y hy => ?_⟩
      have hl := (hfr y hy).2
      exact ⟨hlim _ hl (hneK y hy), by omega⟩
  · rw [List.map_append, h.trn, take_g gs k hkl g hg, List.map_append]
    show _ ++ [strip K] = _
    rw [hs]; rfl
  · exact (below_two h.bel hb).grown hg2 (by omega) (fun b hb' => by have := (h.own.lt b hb').1; omega)

theorem commonB_strip (p : Gr → Int) (hp : ∀ g, p (strip g) = p g) (gs : List Gr) : commonB p (gs.map strip) = commonB p gs := by
  cases gs with
  | nil => rfl
  | cons g gs => unfold commonB; simp [List.all_map, Function.comp_def, hp]
theorem side0_strip (p : Gr → Int) (hp : ∀ g, p (strip g) = p g) (gs : List Gr) : side0 p (gs.map strip) = side0 p gs := by
  cases gs with
  | nil => rfl
  | cons g gs => unfold side0; simp [hp]
theorem sumOf_strip (p : Gr → Int) (hp : ∀ g, p (strip g) = p g) (gs : List Gr) : sumOf p (gs.map strip) = sumOf p gs := by
  unfold sumOf; rw [List.map_map]; congr 1; apply List.map_congr_left; intro g _; exact hp g
theorem fitAll_strip (gs : List Gr) : fitAll (gs.map strip) = fitAll gs := by
  unfold fitAll; rw [List.all_map]; rfl
theorem cells_strip (gs : List Gr) : cells (gs.map strip) = cells gs := by
  unfold cells; rw [List.map_map]; rfl
theorem stackB_strip (gs : List Gr) : stackB (gs.map strip) = stackB gs := by
  unfold stackB
  rw [commonB_strip _ (fun _ => rfl), fitAll_strip, sumOf_strip _ (fun _ => rfl), side0_strip _ (fun _ => rfl)]
theorem flatV_strip (gs : List Gr) : (gs.map strip).flatMap Gr.v = gs.flatMap Gr.v := by
  rw [List.flatMap_map]; rfl

/-- what the document's Beside answers, where it answers a grid -/
def BesOk (w : World) (ts : List Gr) (e : Ending) : Prop :=
  ∃ R C : Nat, side0 (fun g => g.c) ts = R ∧ sumOf (fun g => g.r) ts = C ∧ R ≤ 4096 ∧ C ≤ 4096 ∧ RefOk w R C (tab R C fun i j => (ts.flatMap Gr.v).getD (j * R + i) 0) e

set_option maxHeartbeats 4000000 in
set_option maxRecDepth 100000 in
theorem ref_beside (a : Option Addr) (n cap : Nat) (gs : List Gr) (w : World) (h : Grids w a n gs) (h12 : n ≤ 12) (hsm : ∀ g ∈ gs, g.n ≤ 400) :
    Calls Try.prog 32 #[.slice a n cap] w fun e w' => (((fitAll gs && stackB (gs.map turnG)) = false ∧ NoneOf e) ∨ ((fitAll gs && stackB (gs.map turnG)) = true ∧ BesOk w' (gs.map turnG) e)) ∧ Below w.heap.size w w' := by
  have HH := Lib.hid h
  have HL := Lib.hid h.1
  have HS := Lib.hid hsm
  have HI0 := Lib.hid (show BesInv w gs 0 (.slice none 0 0) [] (w.alloc (.cells #[.int .i64 0, .int .i64 0, .slice none 0 0] 24)) from
    ⟨box3_at rfl _ _ _ _, ⟨rfl, .inl ⟨rfl, rfl⟩⟩, (fun g hg => by cases hg), rfl, rfl, (Below.refl _ _).alloc (Nat.le_refl _) _⟩)
  clear h hsm
  go_enter Try.func32, Try.ntmps32
  go_wp2_with fail
  go_loopw [4, 5] (fun v i wr => ∃ (k : Nat) (gs' : List Gr), k ≤ n ∧ i = .int .i64 k ∧ Hid (fitAll (gs.take k) = true) ∧ Hid (BesInv w gs k v gs' wr)) (fun _ i _ => n - (intOf i).toNat)
  case atStart => exact ⟨0, [], by omega, rfl, Lib.hid rfl, HI0⟩
  case round =>
    clear HI0
    obtain ⟨k, gs', hk, rfl, hS, hinv⟩ := hrel
    by_cases hlt : k < n
    · obtain ⟨b, off, g, rfl, hbw, m0, m1, m2, hgk, hin⟩ := HH.out.at_ hlt
      have c0 := cell_keep m0 hinv.out.bel
      have c1 := cell_keep m1 hinv.out.bel
      have c2 := cell_keep m2 hinv.out.bel
      have hkl : k < gs.length := by rw [HL.out]; exact hlt
      have htk := Lib.hid (take_g gs k hkl g hgk.out)
      have i0 : (0 : Int) ≤ (k : Int) := by omega
      have i1 : (k : Int) < (n : Int) := by omega
      have HIN := Lib.hid hin
      clear hin m0 m1 m2
      cases hf : fitB g.r g.c g.n with
      | false =>
        have HNO : Hid ((fitAll gs && stackB (gs.map turnG)) = false) := Lib.hid (by
          have e : fitAll (gs.take (k + 1)) = false := by rw [htk.out, fitAll_app, fitAll_one, hf]; simp
          have e2 : fitAll gs = (fitAll (gs.take (k + 1)) && fitAll (gs.drop (k + 1))) := by rw [← fitAll_app, List.take_append_drop]
          rw [e2, e]; rfl)
        have hfit := fun W => ref_fit g.r g.c g.a g.n g.cap W (by have := HIN.out.2.1; have := HIN.out.2.2.1; omega) false hf
        clear hf
        go_wp2_with fail
        refine (hfit _).mono ?_
        rintro e wc ⟨rfl, hb1⟩
        obtain ⟨z1, d0, d1, d2, e0, e1, e2⟩ := hinv.out.b2.below hb1
        have hbr := below_res (below_two hinv.out.bel hb1) (b := w.heap.size) (Nat.le_refl _) (.int .i64 0) (.int .i64 0) (.slice none 0 0)
        clear hb1 hinv c0 c1 c2
        go_wp2
        exact bodyPost_ret (v := .tuple #[.agg #[.int .i64 0, .int .i64 0, .slice none 0 0], .bool false]) (by simp [results, Try.results32, go_sem, d0, d1, d2]) rfl
          ⟨.inl ⟨HNO.out, rfl⟩, hbr⟩
      | true =>
        obtain ⟨R, C, x1, x2, hR, hC, x3, _⟩ := fitB_yes hf
        have HX := Lib.hid (And.intro x1 (And.intro x2 x3))
        have HF := Lib.hid hf
        have hfit := fun W => ref_fit g.r g.c g.a g.n g.cap W (by have := HIN.out.2.1; have := HIN.out.2.2.1; omega) true hf
        clear hf x1 x2 x3
        go_wp2_with fail
        refine (hfit _).mono ?_
        rintro e wc ⟨rfl, hb1⟩
        have n0 := cell_keep c0 hb1
        have n1 := cell_keep c1 hb1
        have n2 := cell_keep c2 hb1
        have hbel1 := below_two hinv.out.bel hb1
        go_wp2_with fail
        refine (ref_turn_fresh g R C _ (HIN.out.below hbel1) HX.out.1 HX.out.2.1 HX.out.2.2 hR hC).mono ?_
        rintro e wd ⟨⟨K, rfl, f1, f2, f3, f4, hK, hfr⟩, hb2⟩
        have hb12 := below_two hb1 hb2
        have hsK : strip K = turnG g := by
          unfold strip turnG
          rw [f1, f2, f3, f4, HX.out.1, HX.out.2.1, HX.out.2.2]
          simp [Nat.mul_comm]
        obtain ⟨v2, w2, hrun, hnext⟩ := hinv.out.next (by omega) hkl g hgk.out hb12 K hK hsK (fun x hx => by have := hfr x hx; have := hb1.size; omega)
        have HN := Lib.hid hnext
        have hfa : Hid (fitAll (gs.take (k + 1)) = true) := Lib.hid (by rw [htk.out, fitAll_app, fitAll_one, hS.out, HF.out]; rfl)
        clear f1 f2 f3 f4 hK hfr hb2 hb12 hsK hnext hbel1 hb1 hinv hS n0 n1 n2 c0 c1 c2 hfit
        go_wp2_with (at_builtin; refine wpList_append_run (by rfl) _ _ _ (by rfl) _ _ (by rfl) (by rfl) hrun ?_)
        go_roundw
        case rel => exact ⟨k + 1, _, by omega, by go_num, hfa, HN⟩
        case measure => simp [intOf]; omega
    · obtain rfl : k = n := by omega
      have ht : gs.take k = gs := List.take_of_length_le (by rw [HL.out]; omega)
      have hall := hS.out
      have htrn := hinv.out.trn
      rw [ht] at hall htrn
      obtain ⟨la, lcap, hv, hG⟩ := hinv.out.grids (by omega)
      subst hv
      have hsm2 : ∀ g ∈ gs', g.n ≤ 400 := fun g hg => by
        have h1 : strip g ∈ gs.map turnG := by rw [← htrn]; exact List.mem_map_of_mem hg
        obtain ⟨y, hy, e⟩ := List.mem_map.1 h1
        have e2 : g.n = y.n := (congrArg Gr.n e).symm
        rw [e2]; exact HS.out y hy
      have e1 : stackB gs' = stackB (gs.map turnG) := by rw [← htrn, stackB_strip]
      have e2 : sumOf (fun g => g.r) gs' = sumOf (fun g => g.r) (gs.map turnG) := by rw [← htrn, sumOf_strip _ (fun _ => rfl)]
      have e3 : side0 (fun g => g.c) gs' = side0 (fun g => g.c) (gs.map turnG) := by rw [← htrn, side0_strip _ (fun _ => rfl)]
      have e4 : gs'.flatMap Gr.v = (gs.map turnG).flatMap Gr.v := by rw [← htrn, flatV_strip]
      have e5 := Lib.hid (show ((gs.map turnG).flatMap Gr.v).length = cells (gs.map turnG) by rw [← e4, flat_len_cells hG.2.2.1, ← htrn, cells_strip])
      have hst := fun W hG => ref_stack la k lcap gs' W hG hsm2
      rw [e1, e2, e3, e4] at hst
      have HALL := Lib.hid hall
      clear e1 e2 e3 e4 hall htrn ht hsm2 hS
      go_wp2_with fail
      refine (hst _ hG).mono ?_
      rintro e wc ⟨hc, hb1⟩
      have b2 := hinv.out.b2.below hb1
      have hbel := below_two hinv.out.bel hb1
      clear hst hG hinv
      rcases hc with ⟨hno, he⟩ | ⟨hyes, K, rfl, f1, f2, f3, f4, hK⟩
      · unfold NoneOf at he
        subst he
        have HNO : Hid ((fitAll gs && stackB (gs.map turnG)) = false) := Lib.hid (by rw [hno]; simp)
        obtain ⟨_, q0, q1, q2, _, _, _⟩ := (((b2.set0 (.int .i64 0)).set1 (.int .i64 0)).set2 (.slice none 0 0)).alloc (.cells #[.int .i64 0, .int .i64 0, .slice none 0 0] 24)
        have HQ := Lib.hid (And.intro q0 (And.intro q1 q2))
        clear q0 q1 q2
        obtain ⟨z3, l0, l1, l2, y0, y1, y2⟩ := b2
        have hbr := below_alloc (below_res hbel (b := w.heap.size) (Nat.le_refl _) (.int .i64 0) (.int .i64 0) (.slice none 0 0)) (.cells #[.int .i64 0, .int .i64 0, .slice none 0 0] 24)
        clear hno hbel hb1
        go_wp2
        exact bodyPost_ret (v := .tuple #[.agg #[.int .i64 0, .int .i64 0, .slice none 0 0], .bool false]) (by simp [results, Try.results32, go_sem, HQ.out.1, HQ.out.2.1, HQ.out.2.2]) rfl
          ⟨.inl ⟨HNO.out, rfl⟩, hbr⟩
      · obtain ⟨y1, y2, y3, y4, y5, y6, y7, y8⟩ := stackB_yes hyes
        obtain ⟨R, hRe⟩ : ∃ R : Nat, side0 (fun g => g.c) (gs.map turnG) = R := ⟨(side0 (fun g => g.c) (gs.map turnG)).toNat, by omega⟩
        obtain ⟨C, hCe⟩ : ∃ C : Nat, sumOf (fun g => g.r) (gs.map turnG) = C := ⟨(sumOf (fun g => g.r) (gs.map turnG)).toNat, by omega⟩
        rw [hRe] at f2 y5 y6 y7
        rw [hCe] at f1 y3 y4 y7
        have hn : K.n = C * R := by
          have hc : ((gs.map turnG).flatMap Gr.v).length = C * R := by
            rw [e5.out]
            have h7 : ((cells (gs.map turnG) : Nat) : Int) = ((C * R : Nat) : Int) := by rw [y7]; push_cast; rfl
            exact_mod_cast h7
          rw [f3, hc]
        have HY := Lib.hid (And.intro hyes (And.intro hRe (And.intro hCe f4)))
        have HK := Lib.hid (And.intro f1 (And.intro f2 hn))
        have hbel2 := below_alloc hbel (.cells #[.int .i64 K.r, .int .i64 K.c, .slice K.a K.n K.cap] 24)
        have b3 := (b2.alloc (.cells #[.int .i64 K.r, .int .i64 K.c, .slice K.a K.n K.cap] 24))
        have HIN := Lib.hid (hK.below ((Below.refl _ _).alloc (Nat.le_refl _) (.cells #[.int .i64 K.r, .int .i64 K.c, .slice K.a K.n K.cap] 24)))
        clear hyes hRe hCe f1 f2 f3 f4 hn hK y1 y2 y3 y5 y7 y8 hbel hb1 b2
        go_wp2_with fail
        refine (ref_turn_fresh K C R _ HIN.out HK.out.1 HK.out.2.1 HK.out.2.2 (by omega) (by omega)).mono ?_
        rintro e wd ⟨⟨T, rfl, f1, f2, f3, f4, hT, hfr⟩, hb2⟩
        obtain ⟨z1, d0, d1, d2, e0, e1, e2⟩ := b3.below hb2
        have hbr := below_res (below_two hbel2 hb2) (b := w.heap.size) (Nat.le_refl _) (.int .i64 T.r) (.int .i64 T.c) (.slice T.a T.n T.cap)
        have hz : w.heap.size < wd.heap.size := z1
        have hT2 := hT.grown (grownBy_res wd w.heap.size (.int .i64 T.r) (.int .i64 T.c) (.slice T.a T.n T.cap)) (fun x hx e => by have := (hfr x hx).1; have := Option.some.inj e; have := b3.1; omega)
        have HT := Lib.hid (And.intro f1 (And.intro f2 (And.intro f3 (And.intro f4 hT2))))
        clear f1 f2 f3 f4 hT hT2 hfr hb2 b3 hbel2 hz
        go_wp2
        exact bodyPost_ret (v := .tuple #[.agg #[.int .i64 T.r, .int .i64 T.c, .slice T.a T.n T.cap], .bool true]) (by simp [results, Try.results32, go_sem, d0, d1, d2]) rfl
          ⟨.inr ⟨by rw [HALL.out, HY.out.1]; rfl, R, C, HY.out.2.1, HY.out.2.2.1, by omega, by omega, T, rfl, HT.out.1, HT.out.2.1, by rw [HT.out.2.2.1, tab_length], by rw [HT.out.2.2.2.1, HY.out.2.2.2], HT.out.2.2.2.2⟩, hbr⟩

end Go.Proofs.Ytocjcfblpifdhaa
