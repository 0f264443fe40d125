/-
  The code's take: what is there behind got, one behind the other.
-/
import Derived.Test.YtkinbngikmcpeaaKeep16
namespace Go.Proofs.Ytkinbngikmcpeaa
open Go.RowKit Go.Maps
open Go.ChangeMaps (setBlock heap_setBlock_same heap_setBlock_other)
set_option linter.unusedVariables false

theorem MapAt.del {w : World} {k : TypeId} {b n : Nat} {F : Lit → Option Value} (h : MapAt w k b n F) {t e : TypeId} (K : Keyed Try.prog k) (ht : Try.prog.underlying t = some (.map k e)) {key : Value} {kl : Lit} (hkey : keyOf Try.prog k key = some kl) (ty : TypeId) {n' : Nat} (hn' : (if (F kl).isSome then n - 1 else n) = n') :
    ∃ w', (Builtin.delete_ #[t, k] ty #[.map (some b), key]).run Try.prog w = .ok (.tuple #[]) w' ∧ MapAt w' k b n' (delF F kl) ∧ w.grownBy w' (some b) := by
  obtain ⟨D, hD, hs⟩ := h
  obtain ⟨w', h1, h2, h3⟩ := hD.drop K ht hkey ty
  refine ⟨w', h1, mapAt_fix ⟨_, _, h2, ?_⟩, h3.grown⟩
  rw [← hn']
  exact hs.del kl
theorem dropQ_len_eq {E : List (Nat × List Int)} {n : Nat} {x : Nat × List Int} (ho : E.Pairwise fun x y => x.1 ≠ y.1) (h : findQ E n = some x) : E.length - 1 = (dropQ E n).length := by
  induction E with
  | nil => simp [findQ] at h
  | cons y E ih =>
    obtain ⟨h1, h2⟩ := List.pairwise_cons.1 ho
    by_cases e : y.1 = n
    · have : dropQ (y :: E) n = E := by
        unfold dropQ
        rw [List.filter_cons_of_neg (by simp [e]), List.filter_eq_self]
        intro z hz
        have := h1 z hz
        simp; omega
      rw [this]; simp
    · have h3 : findQ E n = some x := by
        unfold findQ at h ⊢
        rw [List.find?_cons_of_neg (by simpa using e)] at h
        exact h
      have h4 : dropQ (y :: E) n = y :: dropQ E n := by unfold dropQ; rw [List.filter_cons_of_pos (by simpa using e)]
      have := ih h2 h3
      have := dropQ_len h3
      rw [h4, List.length_cons, List.length_cons]; omega
def gotSt (st : Lk16) (g : Nat) (E : List (Nat × List Int)) : Lk16 := { st with got := g, early := E }
theorem gotSt_self (st : Lk16) : gotSt st st.got st.early = st := rfl
/-- one body more is got -/
theorem take_step {wr w6 : World} {f : Foot} {W Sp R g : Nat} {st : Lk16} {E : List (Nat × List Int)} {F : Lit → Option Value} {x : Nat × List Int} (h : LinkAt wr f W Sp R (gotSt st g E)) (hF : FitQ wr E F) (hx : findQ E (g + 1) = some x)
    (hg : (wr.setCell ⟨f.lb, 7, none⟩ (.int .i64 (g + 1 : Nat))).grownBy w6 (some f.mb)) (hM : MapAt w6 3 f.mb (E.length - 1) (delF F (.int .i64 (g + 1 : Nat)))) :
    LinkAt w6 f W Sp R (gotSt st (g + 1) (dropQ E (g + 1))) ∧ Moves wr w6 f := by
  obtain ⟨w5, hw5⟩ : ∃ w5, wr.setCell ⟨f.lb, 7, none⟩ (.int .i64 (g + 1 : Nat)) = w5 := ⟨_, rfl⟩
  rw [hw5] at hg
  have g5 : wr.grownBy w5 (some f.lb) := by rw [← hw5]; exact grown_set _ _ _ _
  have hap := h.apart
  have b5 : Box w5 f.lb 77 (linkCells W Sp R (gotSt st (g + 1) E) f.va f.mb) := by rw [← hw5]; exact h.box.set 7 _
  have m1 : Moves wr w5 f := Moves.of_row g5 (fun b hb => by cases hb; exact ⟨.inl rfl, h.ok _ (.inl rfl)⟩)
  obtain ⟨F0, hF0, _⟩ := h.map
  have m2 : Moves w5 w6 f := Moves.of_row hg (fun b hb => by cases hb; exact ⟨.inr (.inl rfl), blkOk_map (hF0.kept g5 (fun e => hap.1 (Option.some.inj e).symm))⟩)
  have hm := m1.trans (FootTo.refl _ _) m2
  obtain ⟨es, h1, h2, h3⟩ := h.left
  have hgd := h.good
  refine ⟨⟨b5.kept hg (fun e => hap.1 (Option.some.inj e)), ⟨es, h1, (h2.kept g5 (fun g e x => (hap.2 g e).1 (Option.some.inj x).symm)).kept hg (fun g e x => (hap.2 g e).2 (Option.some.inj x).symm), fun x hx => ⟨hm.rows _ (h3 x hx).1, (h3 x hx).2⟩⟩, ⟨_, ?_, hF.del (g + 1) hm.rows⟩, ⟨hgd.pm, hgd.room, hgd.sent, hgd.ages, hgd.early.next, hgd.ep⟩⟩, hm⟩
  have := dropQ_len_eq hgd.early.once hx
  simp only [gotSt] at this ⊢
  rw [← this]
  exact hM
theorem listR_moved {T : TypeId} {w w' : World} {base n : Nat} {v : Value} {qs : List Rw} {f : Foot} (h : ListR .u8 T w base v n qs) (hm : Moves w w' f) (h1 : T ≠ 77) (h2 : T ≠ 82) : ListR .u8 T w' base v n qs := by
  have hk : ∀ g, v.ownBlock = some g → w'.heap[g]? = w.heap[g]? := fun g e => by
    obtain ⟨cs, hb, _⟩ := h.all g e
    exact (hm.box g _ cs hb h1 h2).trans hb.symm
  refine ⟨⟨h.own.1, ?_⟩, fun g e => (h.all g e).blk (hk g e), fun q hq => hm.rows q (h.rows q hq)⟩
  rcases h.own.2 with hn | ⟨g, cap, cur, rfl, hb, hg, rest⟩
  · exact .inl hn
  · exact .inr ⟨g, cap, cur, rfl, hb, (hk g rfl).trans hg, rest⟩
theorem info_rows16 : (Try.prog.info? 37).map (fun i => (i.zero, i.size, i.bytes)) = some (some (.slice none 0 0), 1, 24) := by kernel_rfl
def lenV : Value → Nat | .slice _ n _ => n | _ => 0
/-- take's loop -/
def TakeI (w : World) (f : Foot) (W Sp R : Nat) (st : Lk16) (v b o : Value) (wr : World) : Prop :=
  ∃ fu g E n qs q, ListR .u8 37 wr w.heap.size v n qs ∧ n + E.length ≤ 64 ∧ g ≤ st.got + n ∧ LinkAt wr f W Sp R (gotSt st g E) ∧ Moves w wr f ∧ E.length ≤ fu ∧
    takeE st.early.length st.got st.early = ((takeE fu g E).1, (takeE fu g E).2.1, qs.map Rw.v ++ (takeE fu g E).2.2) ∧ b = rowQ q ∧ o = .bool (findQ E (g + 1)).isSome ∧ q.In .u8 wr ∧ q.n ≤ 65536 ∧ ∀ x, findQ E (g + 1) = some x → q.v = x.2
theorem look16 {wr : World} {f : Foot} {W Sp R g : Nat} {st : Lk16} {E : List (Nat × List Int)} (h : LinkAt wr f W Sp R (gotSt st g E)) (hg : g ≤ 2000000000) :
    ∃ q : Rw, (∀ d, (Instr.lookup 75 (.map (some f.mb)) (.int .i64 ((g : Int) + 1)) true).run Try.prog (wr.drewN d) = .ok (.tuple #[.slice q.a q.n q.cap, .bool (findQ E (g + 1)).isSome]) (wr.drewN d)) ∧ q.In .u8 wr ∧ q.n ≤ 65536 ∧ ∀ x, findQ E (g + 1) = some x → q.v = x.2 := by
  obtain ⟨F, hM, hF⟩ := h.map
  obtain ⟨q, hv, hvi, hvn, hvv⟩ := hF.look (g + 1)
  refine ⟨q, fun d => ?_, hvi, hvn, hvv⟩
  have e : (Value.int .i64 ((g : Int) + 1)) = .int .i64 ((g + 1 : Nat) : Int) := val_int (by omega)
  rw [e]
  exact MapAt.look (show MapAt (wr.drewN d) 3 f.mb E.length F from hM) int_law16 Try.underlying75 (zero_bytes _) (key_nat (by omega)) hv (hF.1 (g + 1))

set_option maxHeartbeats 3200000 in
set_option maxRecDepth 100000 in
theorem take16 {w : World} {f : Foot} {W Sp R : Nat} {st : Lk16} (h : LinkAt w f W Sp R st) (hbd : st.got ≤ 1000000000) :
    Calls Try.prog 38 #[.pointer (some ⟨f.lb, 0, none⟩)] w fun e w' => ∃ v n qs, e = .returned v ∧ ListR .u8 37 w' w.heap.size v n qs ∧ n ≤ 64 ∧ qs.map Rw.v = (takeE st.early.length st.got st.early).2.2 ∧ LinkAt w' f W Sp R (gotSt st (takeE st.early.length st.got st.early).1 (takeE st.early.length st.got st.early).2.1) ∧ Moves w w' f := by
  have hlen := h.good.early.len
  have hW := h.good.pm.1
  obtain ⟨q0, hlk, hq0, hq1, hq2⟩ := look16 (st := st) (g := st.got) (E := st.early) h (by omega)
  have c7 : ∀ d, (w.drewN d).cell? ⟨f.lb, 7, none⟩ = some (.int .i64 st.got) := fun d => h.box.cell 7
  have c8 : ∀ d, (w.drewN d).cell? ⟨f.lb, 8, none⟩ = some (.map (some f.mb)) := fun d => h.box.cell 8
  have hw1 : IntKind.i64.wrap ((st.got : Int) + 1) = (st.got : Int) + 1 := IntWalk.i64_in _ (by omega)
  have H0 := Lib.hid h
  have HQ := Lib.hid (And.intro hq0 (And.intro hq1 hq2))
  have HB := Lib.hid (And.intro hbd (show st.early.length ≤ 64 by omega))
  clear h hlen hW hq0 hq1 hq2 hbd
  go_enter Try.func38, Try.ntmps38
  go_wp2_with fail
  go_quiet (fail)
  go_wp2_with fail
  go_loopw [3, 4, 5] (fun v b o wr => Hid (TakeI w f W Sp R st v b o wr) ∧ ∃ ok, o = .bool ok) (fun v _ _ _ => 65 - lenV v)
  case atStart => exact ⟨Lib.hid ⟨st.early.length, st.got, st.early, 0, [], q0, listR_nil _ _ _ _, by have := HB.out.2; omega, Nat.le_refl _, H0.out.bel (below_drewN (Below.refl _ _) _), Moves.of_below (below_drewN (Below.refl _ _) _) _, Nat.le_refl _, rfl, rfl, rfl, HQ.out.1, HQ.out.2.1, HQ.out.2.2⟩, _, rfl⟩
  case round =>
    obtain ⟨HJ, ok, rfl⟩ := hrel
    clear c7 c8 hlk hw1
    obtain ⟨fu, g, E, n, qs, q, hL, hn, hgn, hA, hM, hfu, ht, rfl, ho, hqi, hqn, hqv⟩ := HJ.out
    unfold rowQ
    cases ok with
    | false =>
      have hno : findQ E (g + 1) = none := by
        have : false = (findQ E (g + 1)).isSome := by simpa using ho
        cases hf : findQ E (g + 1) with
        | none => rfl
        | some y => rw [hf] at this; cases this
      have HFIN : Hid (ListR .u8 37 wr w.heap.size u3 n qs ∧ n ≤ 64 ∧ qs.map Rw.v = (takeE st.early.length st.got st.early).2.2 ∧ LinkAt wr f W Sp R (gotSt st (takeE st.early.length st.got st.early).1 (takeE st.early.length st.got st.early).2.1) ∧ Moves w wr f) := Lib.hid (by
        rw [ht, takeE_stop hno]
        exact ⟨hL, by omega, by simp, hA, hM⟩)
      clear hL hn hgn hA hM hfu ht ho hqi hqn hqv hno HJ
      go_wp2_with fail
      go_ret
      exact ⟨_, _, _, rfl, HFIN.out⟩
    | true =>
      obtain ⟨x, hx⟩ : ∃ x, findQ E (g + 1) = some x := by
        have : true = (findQ E (g + 1)).isSome := by simpa using ho
        cases hf : findQ E (g + 1) with
        | none => rw [hf] at this; cases this
        | some y => exact ⟨y, rfl⟩
      have hEpos : 0 < E.length := by have := dropQ_len hx; omega
      have hg2 : g ≤ 1000000064 := by have := HB.out.1; omega
      have e7 : wr.cell? ⟨f.lb, 7, none⟩ = some (.int .i64 g) := hA.box.cell 7
      have f7 : wr.frozen? ⟨f.lb, 7, none⟩ = false := hA.box.frozen 7
      have hwg : IntKind.i64.wrap ((g : Int) + 1) = (g : Int) + 1 := IntWalk.i64_in _ (by omega)
      have hww : IntKind.i64.wrap ((g : Int) + 1 + 1) = (g : Int) + 1 + 1 := IntWalk.i64_in _ (by omega)
      obtain ⟨w5, hw5⟩ : ∃ w5, wr.setCell ⟨f.lb, 7, none⟩ (.int .i64 ((g : Int) + 1)) = w5 := ⟨_, rfl⟩
      have B5 : Box w5 f.lb 77 (linkCells W Sp R (gotSt st (g + 1) E) f.va f.mb) := by
        rw [← hw5]; have := hA.box.set 7 (.int .i64 ((g : Int) + 1)); exact this
      obtain ⟨F, hMF, hFit⟩ : ∃ F, MapAt wr 3 f.mb E.length F ∧ FitQ wr E F := hA.map
      have g5 : wr.grownBy w5 (some f.lb) := by rw [← hw5]; exact grown_set _ _ _ _
      have hM5 : MapAt w5.drew 3 f.mb E.length F := MapAt.drew (hMF.kept g5 (fun e => hA.apart.1 (Option.some.inj e).symm))
      have hsome : (F (.int .i64 ((g + 1 : Nat) : Int))).isSome = true := by rw [hFit.1, hx]; rfl
      have hdel0 := fun ty => hM5.del int_law16 Try.underlying75 (key_nat (n := g + 1) (by omega)) ty (n' := E.length - 1) (by rw [if_pos hsome])
      obtain ⟨w6, hdel, hM6, hg6⟩ := hdel0 0
      have hk5 : Value.int .i64 ((g + 1 : Nat) : Int) = .int .i64 ((g : Int) + 1) := val_int (by omega)
      rw [hk5] at hdel
      have d7 : w5.cell? ⟨f.lb, 7, none⟩ = some (.int .i64 ((g : Int) + 1)) := B5.cell 7
      have d8 : w5.cell? ⟨f.lb, 8, none⟩ = some (.map (some f.mb)) := B5.cell 8
      have B6 : Box w6 f.lb 77 (linkCells W Sp R (gotSt st (g + 1) E) f.va f.mb) := B5.drew.kept hg6 (fun e => hA.apart.1 (Option.some.inj e))
      have j7 : w6.cell? ⟨f.lb, 7, none⟩ = some (.int .i64 ((g : Int) + 1)) := B6.cell 7
      have j8 : w6.cell? ⟨f.lb, 8, none⟩ = some (.map (some f.mb)) := B6.cell 8
      obtain ⟨hA6, hm6⟩ := take_step (w6 := w6) hA hFit hx (by
        rw [hk5, hw5]
        exact ⟨hg6.os, hg6.tape, hg6.output, hg6.size, hg6.block⟩) hM6
      have hL6 := listR_moved hL hm6 (by decide) (by decide)
      have hsz : w.heap.size ≤ w6.heap.size := Nat.le_trans hM.size hm6.size
      obtain ⟨gr, cap, w7, hrun, hL7, _, hr7, hg7⟩ := hL6.next (P := Try.prog) Try.underlying36 info_rows16 q (hm6.rows q hqi) (by omega) hsz
      have hA7 := hA6.other hg7 (fun b e => ⟨_, hL6.all b e, by decide, by decide⟩)
      have hm7 : Moves w w7 f := (hM.trans (FootTo.refl _ _) hm6).new hg7 (fun b e => (hL6.own.lt b e).1) hr7
      obtain ⟨q7, hlk7, hq7i, hq7n, hq7v⟩ := look16 hA7 (by omega)
      have p7 : ∀ d, (w7.drewN d).cell? ⟨f.lb, 7, none⟩ = some (.int .i64 ((g : Int) + 1)) := fun d => by have := hA7.box.cell 7; exact this
      have p8 : ∀ d, (w7.drewN d).cell? ⟨f.lb, 8, none⟩ = some (.map (some f.mb)) := fun d => hA7.box.cell 8
      obtain ⟨fu', rfl, hfu', htt⟩ := takeE_on hx hfu
      have hE' := dropQ_len hx
      have HFIN : Hid (∀ d, TakeI w f W Sp R st (.slice (some ⟨gr, 0, none⟩) (n + 1) cap) (.slice q7.a q7.n q7.cap) (.bool (findQ (dropQ E (g + 1)) (g + 1 + 1)).isSome) (w7.drewN d)) := Lib.hid (fun d => ⟨fu', g + 1, dropQ E (g + 1), n + 1, qs ++ [q], q7, hL7.bel (below_drewN (Below.refl _ _) d), by omega, by omega, hA7.bel (below_drewN (Below.refl _ _) d), hm7.trans (FootTo.refl _ _) (Moves.of_below (below_drewN (Below.refl _ _) d) _), hfu', by
        rw [ht, htt]
        simp only [List.map_append, List.map_cons, List.map_nil, List.append_assoc, hqv x hx]
        rfl, rfl, rfl, hq7i, hq7n, hq7v⟩)
      obtain ⟨ok7, hok7⟩ : ∃ ok, (findQ (dropQ E (g + 1)) (g + 1 + 1)).isSome = ok := ⟨_, rfl⟩
      rw [hok7] at HFIN hlk7
      obtain ⟨a3, c3, rfl, _⟩ := hL.shape
      have hc1 : ((g + 1 : Nat) : Int) = (g : Int) + 1 := by omega
      rw [hc1] at hlk7
      have hn64 : n ≤ 64 := by omega
      clear hc1 hok7 hE' htt hfu' hq7i hq7n hq7v hm7 hA7 hL7 hr7 hg7 hsz hL6 hA6 hm6 B5 B6 hg6 hM6 hsome hM5 hMF hFit hdel0 hL hn hgn hA hM hfu ht ho hqi hqn hqv HJ hx g5 hk5 hEpos hg2
      go_upto_region 6 with fail
      clear hw5
      refine wp_region_held_drew (S := (fun W => W.cell? ⟨f.lb, 8, none⟩ = some (.map (some f.mb)) ∧ W.cell? ⟨f.lb, 7, none⟩ = some (.int .i64 ((g : Int) + 1)))) (by kernel_rfl) ?_ (fun hHeld => ?_)
      · (first | go_keep | (go_split_ands; refine ⟨?_, ?_⟩ <;> assumption))
      refine wpAnyH_take (i := 0) (oi := ⟨some 40, _, _, _, _, _⟩) (v := ?_) rfl (by kernel_rfl) (by kernel_rfl) (by kernel_rfl) (fun _ _ _ h => h) (Or.inl ⟨by rfl, ?hy1⟩) hHeld ?rest1
      case hy1 => (intro W hSw; (try dsimp only at hSw); go_simp; (try with_reducible rfl))
      simp only [Act.put, List.setIfInBounds_toArray, List.set_cons_zero, List.set_cons_succ]
      refine wpAnyH_take (i := 1) (oi := ⟨some 41, _, _, _, _, _⟩) (v := ?_) rfl (by kernel_rfl) (by kernel_rfl) (by kernel_rfl) (fun _ _ _ h => h) (Or.inl ⟨by rfl, ?hy2⟩) hHeld ?rest2
      case hy2 => (intro W hSw; (try dsimp only at hSw); go_simp; (try with_reducible rfl))
      simp only [Act.put, List.setIfInBounds_toArray, List.set_cons_zero, List.set_cons_succ]
      refine wpAnyH_take (i := 2) (oi := ⟨some 42, _, _, _, _, _⟩) (v := ?_) rfl (by kernel_rfl) (by kernel_rfl) (by kernel_rfl) (fun _ _ _ h => h) (Or.inl ⟨by rfl, ?hy3⟩) hHeld ?rest3
      case hy3 => (intro W hSw; (try dsimp only at hSw); go_simp; (try with_reducible rfl))
      simp only [Act.put, List.setIfInBounds_toArray, List.set_cons_zero, List.set_cons_succ]
      refine wpAnyH_take (i := 3) (oi := ⟨some 43, _, _, _, _, _⟩) (v := ?_) rfl (by kernel_rfl) (by kernel_rfl) (by kernel_rfl) (fun _ _ _ h => h) (Or.inl ⟨by rfl, ?hy4⟩) hHeld ?rest4
      case hy4 => (intro W hSw; (try dsimp only at hSw); go_simp; (try with_reducible rfl))
      simp only [Act.put, List.setIfInBounds_toArray, List.set_cons_zero, List.set_cons_succ]
      refine wpAnyH_take (i := 4) (oi := ⟨some 44, _, _, _, _, _⟩) (v := ?_) rfl (by kernel_rfl) (by kernel_rfl) (by kernel_rfl) (fun _ _ _ h => h) (Or.inl ⟨by rfl, ?hy5⟩) hHeld ?rest5
      case hy5 => (intro W hSw; (try dsimp only at hSw); go_simp; (try with_reducible rfl))
      simp only [Act.put, List.setIfInBounds_toArray, List.set_cons_zero, List.set_cons_succ]
      refine wpAnyH_take (i := 5) (oi := ⟨some 45, _, _, _, _, _⟩) (v := ?_) rfl (by kernel_rfl) (by kernel_rfl) (by kernel_rfl) (fun _ _ _ h => h) (Or.inl ⟨by rfl, ?hy6⟩) hHeld ?rest6
      case hy6 => (intro W hSw; (try dsimp only at hSw); go_simp; (try with_reducible rfl))
      simp only [Act.put, List.setIfInBounds_toArray, List.set_cons_zero, List.set_cons_succ]
      refine wpAnyH_take (i := 6) (oi := ⟨some 46, _, _, _, _, _⟩) (v := ?_) rfl (by kernel_rfl) (by kernel_rfl) (by kernel_rfl) (fun _ _ _ h => h) (Or.inl ⟨by rfl, ?hy7⟩) hHeld ?rest7
      case hy7 => (intro W hSw; (try dsimp only at hSw); go_simp; (try with_reducible rfl))
      simp only [Act.put, List.setIfInBounds_toArray, List.set_cons_zero, List.set_cons_succ]
      refine wpAnyH_take (i := 7) (oi := ⟨some 47, _, _, _, _, _⟩) (v := ?_) rfl (by kernel_rfl) (by kernel_rfl) (by kernel_rfl) (fun _ _ _ h => h) (Or.inl ⟨by rfl, ?hy8⟩) hHeld ?rest8
      case hy8 => (intro W hSw; (try dsimp only at hSw); go_simp; (try with_reducible rfl))
      simp only [Act.put, List.setIfInBounds_toArray, List.set_cons_zero, List.set_cons_succ]
      refine wpAnyH_ready (rs := [8]) (by kernel_rfl) (by simp) ?_
      refine AllReadyH.cons (o := ⟨none, _, _, _, _, _⟩) rfl (fun K hK => ?_) AllReadyH.nil
      go_simp
      refine hK.out _ _ ?_ (fun hNew => ?_)
      · ((try dsimp only); (first | go_keep | (go_split_ands; refine ⟨?_, ?_⟩ <;> assumption)))
      clear hK K hHeld
      have hHeld := hNew
      clear hNew
      try simp only [Act.put, List.setIfInBounds_toArray, List.set_cons_zero, List.set_cons_succ]
      refine wpAnyH_done (by kernel_rfl) ?_ _
      clear hdel d7 d8 e7 f7 hwg
      have HF2 := Lib.hid (And.intro (show n ≤ 64 from hn64) (And.intro hlk7 hww))
      go_wp2_with (first | (at_builtin; refine wpList_append_run (by rfl) _ _ _ (by rfl) _ _ (by rfl) (by rfl) hrun ?_))
      go_quiet (fail)
      go_wp2_with fail
      exact ⟨⟨Lib.hid (HFIN.out _), _, rfl⟩, by simp only [lenV]; omega⟩

end Go.Proofs.Ytkinbngikmcpeaa
