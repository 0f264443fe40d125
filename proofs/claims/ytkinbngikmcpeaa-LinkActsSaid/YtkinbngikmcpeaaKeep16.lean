/-
  The code's unnumbered and keep.
-/
import Derived.Test.YtkinbngikmcpeaaRel16
namespace Go.Proofs.Ytkinbngikmcpeaa
open Go.RowKit Go.Maps
set_option linter.unusedVariables false

set_option maxRecDepth 100000 in
theorem unnumbered16 (e s k : Int) (q : Rw) (w : World) : Calls Try.prog 35 #[.agg #[.int .i64 e, .int .i64 s, .int .i64 k, .slice q.a q.n q.cap]] w fun en w' => en = .returned (.bool (decide (s = 0 ∧ 0 < q.n))) ∧ Below w.heap.size w w' := by
  have hal : Below w.heap.size w (w.alloc (.cells #[.int .i64 e, .int .i64 s, .int .i64 k, .slice q.a q.n q.cap] 39)) := (Below.refl _ _).alloc (Nat.le_refl _) _
  by_cases h1 : s = 0
  · subst h1
    by_cases h2 : 0 < q.n
    · rw [decide_eq_true ⟨rfl, h2⟩]
      have h3 : (0 : Int) < (q.n : Int) := by omega
      go_enter Try.func35, Try.ntmps35
      go_wp2
      go_ret
      exact ⟨rfl, hal⟩
    · rw [decide_eq_false (fun h => h2 h.2)]
      have h3 : ¬ (0 : Int) < (q.n : Int) := by omega
      have h4 : q.n = 0 := by omega
      rw [h4] at hal
      go_enter Try.func35, Try.ntmps35
      go_wp2
      go_ret
      exact ⟨rfl, hal⟩
  · rw [decide_eq_false (fun h => h1 h.1)]
    have h3 : (s == 0) = false := by simpa using h1
    go_enter Try.func35, Try.ntmps35
    go_wp2
    go_ret
    exact ⟨rfl, hal⟩

theorem zero_bytes (w : World) : (zeroValue 37).run Try.prog w = .ok (.slice none 0 0) w := by kernel_rfl
theorem wf_nat {n : Nat} (h : n ≤ 9000000000000000000) : (Lit.int .i64 (n : Int)).wf = true := WalkArith.wf_i64 ⟨by omega, by omega⟩
theorem key_nat {n : Nat} (h : n ≤ 9000000000000000000) : keyOf Try.prog 3 (.int .i64 n) = some (.int .i64 n) := keyOf_int_mk Try.underlying3 (wf_nat h)
theorem key_ne {n m : Nat} (h : n ≠ m) : Lit.int .i64 (n : Int) ≠ Lit.int .i64 (m : Int) := fun e => h (by have := (Lit.int.inj e).2; omega)
/-- what a look-up among the early bodies gives -/
theorem FitQ.look {w : World} {E : List (Nat × List Int)} {F : Lit → Option Value} (h : FitQ w E F) (n : Nat) : ∃ q : Rw, (F (.int .i64 n)).getD (.slice none 0 0) = rowQ q ∧ q.In .u8 w ∧ q.n ≤ 65536 ∧ ∀ x, findQ E n = some x → q.v = x.2 := by
  cases hf : findQ E n with
  | some x =>
    obtain ⟨q, e, h1, h2, h3⟩ := h.2 n x hf
    exact ⟨q, by rw [e]; rfl, h1, h3, fun y hy => by cases hy; exact h2⟩
  | none =>
    have : F (.int .i64 n) = none := by
      have := h.1 n
      rw [hf] at this
      cases hF : F (.int .i64 n) with
      | none => rfl
      | some y => rw [hF] at this; cases this
    exact ⟨⟨none, 0, 0, []⟩, by rw [this]; rfl, ⟨Elems.nil_ _ _ _, Nat.le_refl _, by show 0 ≤ _; omega, ⟨fun _ => rfl, fun x e _ => by cases e⟩⟩, by show 0 ≤ _; omega, fun x hx => by cases hx⟩
theorem findQ_app {E : List (Nat × List Int)} {N n : Nat} {b : List Int} (h : findQ E N = none) : findQ (E ++ [(N, b)]) n = if n = N then some (N, b) else findQ E n := by
  unfold findQ at h ⊢
  rw [List.find?_append]
  split
  · rename_i e
    subst e
    rw [h]
    simp
  · rename_i e
    have : ((N, b) : Nat × List Int).1 ≠ n := fun x => e x.symm
    cases hf : List.find? (fun x => x.1 == n) E with
    | some y => rfl
    | none => simp [this]
theorem FitQ.put {w w' : World} {E : List (Nat × List Int)} {F : Lit → Option Value} (h : FitQ w E F) {N : Nat} {q : Rw} (hN : findQ E N = none) (hr : ∀ q : Rw, q.In .u8 w → q.In .u8 w') (hq : q.In .u8 w') (hn : q.n ≤ 65536) : FitQ w' (E ++ [(N, q.v)]) (upF F (.int .i64 N) (rowQ q)) := by
  refine ⟨fun n => ?_, fun n x hx => ?_⟩
  · rw [findQ_app hN]
    by_cases e : n = N
    · subst e; rw [upF_same, if_pos rfl]; rfl
    · rw [upF_other _ (key_ne e), if_neg e, h.1]
  · rw [findQ_app hN] at hx
    by_cases e : n = N
    · subst e
      rw [if_pos rfl] at hx
      cases hx
      exact ⟨q, upF_same _ _ _, hq, rfl, hn⟩
    · rw [if_neg e] at hx
      obtain ⟨q', a, b, c⟩ := h.2 n x hx
      exact ⟨q', by rw [upF_other _ (key_ne e)]; exact a, hr _ b, c⟩
theorem findQ_drop {E : List (Nat × List Int)} {N n : Nat} : findQ (dropQ E N) n = if n = N then none else findQ E n := by
  unfold findQ dropQ
  induction E with
  | nil => simp
  | cons x E ih =>
    by_cases h1 : x.1 = N
    · rw [List.filter_cons_of_neg (by simp [h1]), ih]
      split
      · rfl
      · rename_i e
        rw [List.find?_cons_of_neg (by simp [h1]; exact fun h => e h.symm)]
    · rw [List.filter_cons_of_pos (by simpa using h1)]
      by_cases h2 : x.1 = n
      · rw [List.find?_cons_of_pos (by simpa using h2), List.find?_cons_of_pos (by simpa using h2), if_neg (by omega)]
      · rw [List.find?_cons_of_neg (by simpa using h2), List.find?_cons_of_neg (by simpa using h2), ih]
theorem FitQ.del {w w' : World} {E : List (Nat × List Int)} {F : Lit → Option Value} (h : FitQ w E F) (N : Nat) (hr : ∀ q : Rw, q.In .u8 w → q.In .u8 w') : FitQ w' (dropQ E N) (delF F (.int .i64 N)) := by
  refine ⟨fun n => ?_, fun n x hx => ?_⟩
  · rw [findQ_drop]
    by_cases e : n = N
    · subst e; rw [delF_same, if_pos rfl]; rfl
    · rw [delF_other (key_ne e), if_neg e, h.1]
  · rw [findQ_drop] at hx
    by_cases e : n = N
    · rw [if_pos e] at hx; cases hx
    · rw [if_neg e] at hx
      obtain ⟨q', a, b, c⟩ := h.2 n x hx
      exact ⟨q', by rw [delF_other (key_ne e)]; exact a, hr _ b, c⟩
/-- the map turns alone -/
theorem LinkAt.early {w w' : World} {f : Foot} {W Sp R : Nat} {st : Lk16} (h : LinkAt w f W Sp R st) {E : List (Nat × List Int)} {F : Lit → Option Value} (hg : w.grownBy w' (some f.mb)) (hF : MapAt w' 3 f.mb E.length F) (hFit : (∀ q : Rw, q.In .u8 w → q.In .u8 w') → FitQ w' E F) (hE : GoodQ W st.got E) : LinkAt w' f W Sp R { st with early := E } ∧ Moves w w' f := by
  have hm : Moves w w' f := Moves.of_row hg (fun b hb => by cases hb; exact ⟨.inr (.inl rfl), h.ok _ (.inr (.inl rfl))⟩)
  obtain ⟨es, h1, h2, h3⟩ := h.left
  have hap := h.apart
  have hgd := h.good
  exact ⟨⟨h.box.kept hg (fun e => hap.1 (Option.some.inj e)), ⟨es, h1, h2.kept hg (fun g e x => (hap.2 g e).2 (Option.some.inj x).symm), fun x hx => ⟨hm.rows _ (h3 x hx).1, (h3 x hx).2⟩⟩, ⟨F, hF, hFit hm.rows⟩, ⟨hgd.pm, hgd.room, hgd.sent, hgd.ages, hE, hgd.ep⟩⟩, hm⟩

set_option maxHeartbeats 1600000 in
set_option maxRecDepth 100000 in
theorem keep16 {w : World} {f : Foot} {W Sp R : Nat} {st : Lk16} (h : LinkAt w f W Sp R st) (n : Int) (q : Rw) (hq : q.In .u8 w) (hqn : q.n ≤ 65536) (hbd : st.got ≤ 1000000000) :
    Calls Try.prog 37 #[.pointer (some ⟨f.lb, 0, none⟩), .int .i64 n, .slice q.a q.n q.cap] w fun e w' => e = .returned (.tuple #[]) ∧ LinkAt w' f W Sp R { st with early := keepE W st.got st.early n q.v } ∧ Moves w w' f := by
  have c7 : w.cell? ⟨f.lb, 7, none⟩ = some (.int .i64 st.got) := h.box.cell 7
  have c0 : w.cell? ⟨f.lb, 0, none⟩ = some (.int .i64 W) := h.box.cell 0
  have hW := h.good.pm.1
  have hwr : IntKind.i64.wrap ((st.got : Int) + (W : Int)) = (st.got : Int) + (W : Int) := IntWalk.i64_in _ (by omega)
  have H0 := Lib.hid h
  by_cases h1 : n ≤ (st.got : Int)
  · have e1 : keepE W st.got st.early n q.v = st.early := by unfold keepE; rw [if_neg (by omega)]
    rw [e1]
    clear h e1 hq hqn hW
    go_enter Try.func37, Try.ntmps37
    go_wp2_with fail
    go_quiet (fail)
    go_wp2_with fail
    exact bodyPost_ret (v := .tuple #[]) (results_none rfl _ _ _) rfl ⟨rfl, H0.out.bel (below_drewN (Below.refl _ _) _), Moves.of_below (below_drewN (Below.refl _ _) _) _⟩
  · have h1' : decide (n ≤ (st.got : Int)) = false := decide_eq_false h1
    by_cases h2 : (st.got : Int) + (W : Int) < n
    · have e1 : keepE W st.got st.early n q.v = st.early := by unfold keepE; rw [if_neg (by omega)]
      rw [e1]
      clear h e1 hq hqn hW h1
      go_enter Try.func37, Try.ntmps37
      go_wp2_with fail
      go_quiet (fail)
      go_wp2_with fail
      exact bodyPost_ret (v := .tuple #[]) (results_none rfl _ _ _) rfl ⟨rfl, H0.out.bel (below_drewN (Below.refl _ _) _), Moves.of_below (below_drewN (Below.refl _ _) _) _⟩
    · have h2' : decide ((st.got : Int) + (W : Int) < n) = false := decide_eq_false h2
      obtain ⟨N, rfl⟩ : ∃ N : Nat, n = N := ⟨n.toNat, by omega⟩
      have hkey := key_nat (n := N) (by omega)
      have k1 : decide (N ≤ st.got) = false := decide_eq_false (by omega)
      have k2 : decide (st.got + W < N) = false := decide_eq_false (by omega)
      obtain ⟨F, hM, hF⟩ := h.map
      obtain ⟨v, hv, hvi, hvn, hvv⟩ := hF.look N
      have hok := hF.1 N
      have c8 : ∀ d, (w.drewN d).cell? ⟨f.lb, 8, none⟩ = some (.map (some f.mb)) := fun d => h.box.cell 8
      have hlk : ∀ d, (Instr.lookup 75 (.map (some f.mb)) (.int .i64 (N : Int)) true).run Try.prog (w.drewN d) = .ok (.tuple #[rowQ v, .bool (findQ st.early N).isSome]) (w.drewN d) := fun d =>
        MapAt.look (show MapAt (w.drewN d) 3 f.mb st.early.length F from hM) int_law16 Try.underlying75 (zero_bytes _) hkey hv hok
      unfold rowQ at hlk
      have HN : Hid (st.got < N ∧ N ≤ st.got + W) := Lib.hid (by omega)
      cases hfq : findQ st.early N with
      | some x =>
        have e1 : keepE W st.got st.early (N : Int) q.v = st.early := by unfold keepE; rw [if_neg (by rw [Int.toNat_natCast, hfq]; simp)]
        rw [e1]
        rw [hfq] at hlk
        simp only [Option.isSome_some] at hlk
        clear h e1 hq hqn hW h1 h2 hM hF hv hvi hvn hvv hok hkey hfq
        go_enter Try.func37, Try.ntmps37
        go_wp2_with fail
        go_quiet (fail)
        go_wp2_with fail
        exact bodyPost_end (v := .tuple #[]) (results_none rfl _ _ _) rfl ⟨rfl, H0.out.bel (below_drewN (Below.refl _ _) _), Moves.of_below (below_drewN (Below.refl _ _) _) _⟩
      | none =>
        have e1 : keepE W st.got st.early (N : Int) q.v = st.early ++ [(N, q.v)] := by unfold keepE; rw [if_pos ⟨by omega, by omega, by rw [Int.toNat_natCast]; exact hfq⟩, Int.toNat_natCast]
        rw [e1]
        rw [hfq] at hlk hok
        simp only [Option.isSome_none] at hlk hok
        have hgE : GoodQ W st.got (st.early ++ [(N, q.v)]) := by rw [← e1]; exact h.good.early.keep _ _
        have hlen := h.good.early.len
        have HX := Lib.hid (And.intro hM (And.intro hF (And.intro hgE (And.intro hfq (And.intro hok hkey)))))
        have HQ := Lib.hid (And.intro hq hqn)
        have HEL : Hid (st.early.length ≤ 64) := Lib.hid (by omega)
        have cl := fun d => cloneB q (w.drewN d).drew (hq.below (below_drewN (Below.refl _ _) d).drew) (by omega)
        clear h e1 hq hqn hW h1 h2 hM hF hv hvi hvn hvv hok hkey hfq hgE hlen
        go_enter Try.func37, Try.ntmps37
        go_wp2_with fail
        go_quiet (fail)
        go_upto_region 3 with fail
        refine wp_region_held_drew (S := (fun W => W.cell? ⟨f.lb, 8, none⟩ = some (.map (some f.mb)))) (by kernel_rfl) ?_ (fun hHeld => ?_)
        · (first | go_keep | assumption)
        refine wpAnyH_take (i := 0) (oi := ⟨some 38, _, _, _, _, _⟩) (v := ?_) rfl (by kernel_rfl) (by kernel_rfl) (by kernel_rfl) (fun _ _ _ h => h) (Or.inl ⟨by rfl, ?hy1⟩) hHeld ?rest1
        case hy1 => (intro W hSw; (try dsimp only at hSw); go_simp; (try with_reducible rfl))
        simp only [Act.put, List.setIfInBounds_toArray, List.set_cons_zero, List.set_cons_succ]
        refine wpAnyH_take (i := 1) (oi := ⟨some 39, _, _, _, _, _⟩) (v := ?_) rfl (by kernel_rfl) (by kernel_rfl) (by kernel_rfl) (fun _ _ _ h => h) (Or.inl ⟨by rfl, ?hy2⟩) hHeld ?rest2
        case hy2 => (intro W hSw; (try dsimp only at hSw); go_simp; (try with_reducible rfl))
        simp only [Act.put, List.setIfInBounds_toArray, List.set_cons_zero, List.set_cons_succ]
        refine wpAnyH_take (i := 2) (oi := ⟨some 40, _, _, _, _, _⟩) (v := ?_) rfl (by kernel_rfl) (by kernel_rfl) (by kernel_rfl) (fun _ _ _ h => h) (Or.inl ⟨by rfl, ?hy3⟩) hHeld ?rest3
        case hy3 => (intro W hSw; (try dsimp only at hSw); go_simp; (try with_reducible rfl))
        simp only [Act.put, List.setIfInBounds_toArray, List.set_cons_zero, List.set_cons_succ]
        refine wpAnyH_take (i := 3) (oi := ⟨some 41, _, _, _, _, _⟩) (v := ?_) rfl (by kernel_rfl) (by kernel_rfl) (by kernel_rfl) (fun _ _ _ h => h) (Or.inl ⟨by rfl, ?hy4⟩) hHeld ?rest4
        case hy4 => (intro W hSw; (try dsimp only at hSw); go_simp; (try with_reducible rfl))
        simp only [Act.put, List.setIfInBounds_toArray, List.set_cons_zero, List.set_cons_succ]
        refine wpAnyH_take (i := 4) (oi := ⟨some 42, _, _, _, _, _⟩) (v := ?_) rfl (by kernel_rfl) (by kernel_rfl) (by kernel_rfl) (fun _ _ _ h => h) (Or.inl ⟨by rfl, ?hy5⟩) hHeld ?rest5
        case hy5 => (intro W hSw; (try dsimp only at hSw); go_simp; (try with_reducible rfl))
        simp only [Act.put, List.setIfInBounds_toArray, List.set_cons_zero, List.set_cons_succ]
        refine wpAnyH_take (i := 5) (oi := ⟨some 43, _, _, _, _, _⟩) (v := ?_) rfl (by kernel_rfl) (by kernel_rfl) (by kernel_rfl) (fun _ _ _ h => h) (Or.inl ⟨by rfl, ?hy6⟩) hHeld ?rest6
        case hy6 => (intro W hSw; (try dsimp only at hSw); go_simp; (try with_reducible rfl))
        simp only [Act.put, List.setIfInBounds_toArray, List.set_cons_zero, List.set_cons_succ]
        refine wpAnyH_ready (rs := [6]) (by kernel_rfl) (by simp) ?_
        refine AllReadyH.cons (o := ⟨some 44, _, _, _, _, _⟩) rfl (fun K hK => ?_) AllReadyH.nil
        go_simp
        go_at_call 31
        refine (cl _).mono ?_
        rintro e w2 ⟨g, rfl, hgi, hgv, hga, hb⟩
        have HB := Lib.hid (below_two (below_drewN (Below.refl _ w) nq).drew hb)
        obtain ⟨w3, hu, hM3, hg3⟩ := (HX.out.1.bel HB.out HX.out.1.lt).upd int_law16 Try.underlying75 (by unfold maxLen; have := HEL.out; omega) HX.out.2.2.2.2.2 (rowQ g) (n' := st.early.length + 1) (by rw [if_neg (by rw [HX.out.2.2.2.2.1]; simp)])
        unfold rowQ at hu
        have hb2 := H0.out.box.bel HB.out
        have c82 : w2.cell? ⟨f.lb, 8, none⟩ = some (.map (some f.mb)) := hb2.cell 8
        have c83 : w3.cell? ⟨f.lb, 8, none⟩ = some (.map (some f.mb)) := (hb2.kept hg3 (fun e => H0.out.apart.1 (Option.some.inj e))).cell 8
        have HR := Lib.hid (And.intro hM3 (And.intro hg3 (And.intro hgi hgv)))
        clear hM3 hg3 hgi hgv hga hb hb2 cl
        refine hK.out _ _ ?_ (fun hNew => ?_)
        · ((try dsimp only); (first | go_keep | assumption))
        clear hK K hHeld
        have hHeld := hNew
        clear hNew
        try simp only [Act.put, List.setIfInBounds_toArray, List.set_cons_zero, List.set_cons_succ]
        refine wpAnyH_ready (rs := [7]) (by kernel_rfl) (by simp) ?_
        refine AllReadyH.cons (o := ⟨none, _, _, _, _, _⟩) rfl (fun K hK => ?_) AllReadyH.nil
        go_simp
        refine hK.out _ _ ?_ (fun hNew => ?_)
        · ((try dsimp only); (first | go_keep | assumption))
        clear hK K hHeld
        have hHeld := hNew
        clear hNew
        try simp only [Act.put, List.setIfInBounds_toArray, List.set_cons_zero, List.set_cons_succ]
        refine wpAnyH_done (by kernel_rfl) ?_ _
        have HFIN : Hid (LinkAt w3 f W Sp R { st with early := st.early ++ [(N, q.v)] } ∧ Moves w w3 f) := Lib.hid (by
          obtain ⟨hM3, hg3, hgi, hgv⟩ := HR.out
          obtain ⟨hM, hF, hgE, hfq, hok, hkey⟩ := HX.out
          have hL2 := H0.out.bel HB.out
          have hFit2 : FitQ w2 st.early F := ⟨hF.1, fun n x hx => let ⟨q, a, b, c⟩ := hF.2 n x hx; ⟨q, a, b.below HB.out, c⟩⟩
          obtain ⟨r1, r2⟩ := hL2.early (E := st.early ++ [(N, q.v)]) hg3 (by rw [List.length_append]; exact hM3) (fun hr => by
            rw [← hgv]
            exact hFit2.put hfq hr (hr _ hgi) (by have h1 := hgi.1.1; rw [hgv] at h1; have h2 := HQ.out.1.1.1; have := HQ.out.2; omega)) hgE
          exact ⟨r1, (Moves.of_below HB.out f).trans (FootTo.refl _ _) r2⟩)
        clear HR hu
        go_wp2_with fail
        exact bodyPost_end (v := .tuple #[]) (results_none rfl _ _ _) rfl ⟨rfl, HFIN.out⟩

end Go.Proofs.Ytkinbngikmcpeaa
