/-
  The code's Hear.
-/
import Derived.Test.YtkinbngikmcpeaaTake16
namespace Go.Proofs.Ytkinbngikmcpeaa
open Go.RowKit Go.Maps
set_option linter.unusedVariables false

def HearR (w : World) (f : Foot) (W Sp R : Nat) (st : Lk16) (x : Sg16) (e : Ending) (w' : World) : Prop :=
  ∃ v n qs, e = .returned (.tuple #[v, .int .i64 (hearE W st x).1.2]) ∧ ListR .u8 37 w' w.heap.size v n qs ∧ n ≤ 64 ∧ qs.map Rw.v = (hearE W st x).1.1 ∧ Ends w w' f W Sp R (hearE W st x).2
theorem hear_no {w w' : World} {f : Foot} {W Sp R : Nat} {st : Lk16} {x : Sg16} (h : LinkAt w f W Sp R st) (hb : Below w.heap.size w w') {c : Int} (he : hearE W st x = (([], c), st)) : HearR w f W Sp R st x (.returned (.tuple #[.slice none 0 0, .int .i64 c])) w' := by
  unfold HearR
  rw [he]
  exact ⟨_, 0, [], rfl, listR_nil _ _ _ _, by omega, rfl, h.same hb⟩
theorem hear_bad {W : Nat} {st : Lk16} {x : Sg16} (he : x.e = st.ep) (hb : badE st x = true) : hearE W st x = (([], 150), st) := by
  unfold hearE
  rw [if_neg (by simpa using he), if_pos hb]

theorem listR_base {kd : IntKind} {T : TypeId} {w : World} {base base' n : Nat} {v : Value} {qs : List Rw} (h : ListR kd T w base v n qs) (hb : base' ≤ base) : ListR kd T w base' v n qs := by
  refine ⟨⟨h.own.1, ?_⟩, h.all, h.rows⟩
  rcases h.own.2 with hn | ⟨g, cap, cur, e, h1, rest⟩
  · exact .inl hn
  · exact .inr ⟨g, cap, cur, e, by omega, rest⟩
set_option maxHeartbeats 3200000 in
set_option maxRecDepth 100000 in
theorem hear16 {w : World} {f : Foot} {W Sp R : Nat} {st : Lk16} (h : LinkAt w f W Sp R st) (e s k : Int) (q : Rw) (hq : q.In .u8 w) (hqn : q.n ≤ 65536) (hbd : st.acked + st.out.length ≤ 1000000000) (hgot : st.got ≤ 1000000000) :
    Calls Try.prog 16 #[.pointer (some ⟨f.lb, 0, none⟩), .agg #[.int .i64 e, .int .i64 s, .int .i64 k, .slice q.a q.n q.cap]] w fun en w' => HearR w f W Sp R st ⟨e, s, k, q.v⟩ en w' := by
  have hbw : Below w.heap.size w (w.alloc (.cells #[.int .i64 e, .int .i64 s, .int .i64 k, .slice q.a q.n q.cap] 39)) := (Below.refl _ _).alloc (Nat.le_refl _) _
  obtain ⟨w0, hw0⟩ : ∃ w0, w.alloc (.cells #[.int .i64 e, .int .i64 s, .int .i64 k, .slice q.a q.n q.cap] 39) = w0 := ⟨_, rfl⟩
  have X0 : Box w0 w.heap.size 39 #[.int .i64 e, .int .i64 s, .int .i64 k, .slice q.a q.n q.cap] := by rw [← hw0]; exact box_new _ _ _
  rw [hw0] at hbw
  obtain ⟨tb, htb⟩ : ∃ tb, w.heap.size = tb := ⟨_, rfl⟩
  rw [htb] at X0
  have L0 := h.bel (w' := w0) hbw
  have c3 : w0.cell? ⟨f.lb, 3, none⟩ = some (.int .i64 st.ep) := L0.box.cell 3
  have c6 : ∀ d, (w0.drewN d).cell? ⟨f.lb, 6, none⟩ = some (.int .i64 st.sent) := fun d => L0.box.cell 6
  have x0 : w0.cell? ⟨tb, 0, none⟩ = some (.int .i64 e) := X0.cell 0
  have x1 : ∀ d, (w0.drewN d).cell? ⟨tb, 1, none⟩ = some (.int .i64 s) := fun d => X0.cell 1
  have x2 : ∀ d, (w0.drewN d).cell? ⟨tb, 2, none⟩ = some (.int .i64 k) := fun d => X0.cell 2
  have x3 : ∀ d, (w0.drewN d).cell? ⟨tb, 3, none⟩ = some (.slice q.a q.n q.cap) := fun d => X0.cell 3
  have H := Lib.hid h
  have HX := Lib.hid X0
  have HL0 := Lib.hid L0
  have HB := Lib.hid hbw
  have HQ := Lib.hid (And.intro hq hqn)
  have HBD := Lib.hid (And.intro hbd hgot)
  have hql : q.v.length = q.n := hq.1.1
  have HTB := Lib.hid htb
  by_cases he : e = st.ep
  rotate_left
  · have e1 := hear_no (x := ⟨e, s, k, q.v⟩) h (w' := w0.drewN 1) (below_drewN hbw 1) (c := 160) (by unfold hearE; rw [if_pos he])
    have HFIN : Hid (∀ d, HearR w f W Sp R st ⟨e, s, k, q.v⟩ (.returned (.tuple #[.slice none 0 0, .int .i64 160])) (w0.drewN d)) := Lib.hid (fun d => hear_no h (below_drewN hbw d) (by unfold hearE; rw [if_pos he]))
    have hne : (e != st.ep) = true := by simpa using he
    clear e1 h X0 hbw L0 hq hqn hbd hgot hql he
    go_enter Try.func16, Try.ntmps16
    go_wp2_with fail
    go_quiet (fail)
    go_wp2_with fail
    exact bodyPost_ret (v := .tuple #[.slice none 0 0, .int .i64 160]) (by simp [results, Try.results16, go_sem]) rfl (HFIN.out _)
  subst he
  have hnee : (st.ep != st.ep) = false := by simp
  have HNO : Hid (∀ W', Below w.heap.size w W' → badE st ⟨st.ep, s, k, q.v⟩ = true → HearR w f W Sp R st ⟨st.ep, s, k, q.v⟩ (.returned (.tuple #[.slice none 0 0, .int .i64 150])) W') := Lib.hid (fun W' hW hb => hear_no h hW (hear_bad rfl hb))
  by_cases b1 : k < 0
  · have HFIN := Lib.hid (fun d d' => HNO.out ((w0.drewN d).drewN d') (below_drewN (below_drewN hbw d) d') (by unfold badE; exact decide_eq_true (.inl b1)))
    clear h X0 hbw L0 hq hqn hbd hgot hql
    go_enter Try.func16, Try.ntmps16
    go_wp2_with fail
    go_quiet (fail)
    go_wp2_with fail
    go_quiet (fail)
    go_wp2_with fail
    exact bodyPost_ret (v := .tuple #[.slice none 0 0, .int .i64 150]) (by simp [results, Try.results16, go_sem]) rfl (HFIN.out _ _)
  have n1 : decide (k < 0) = false := decide_eq_false b1
  obtain ⟨a, rfl⟩ : ∃ a : Nat, k = a := ⟨k.toNat, by omega⟩
  by_cases b2 : (st.sent : Int) < (a : Int)
  · have HFIN := Lib.hid (fun d d' => HNO.out ((w0.drewN d).drewN d') (below_drewN (below_drewN hbw d) d') (by unfold badE; exact decide_eq_true (.inr (.inl b2))))
    clear h X0 hbw L0 hq hqn hbd hgot hql
    go_enter Try.func16, Try.ntmps16
    go_wp2_with fail
    go_quiet (fail)
    go_wp2_with fail
    go_quiet (fail)
    go_wp2_with fail
    exact bodyPost_ret (v := .tuple #[.slice none 0 0, .int .i64 150]) (by simp [results, Try.results16, go_sem]) rfl (HFIN.out _ _)
  have n2 : decide ((st.sent : Int) < (a : Int)) = false := decide_eq_false b2
  have n2' : decide (st.sent < a) = false := decide_eq_false (by omega)
  have HAS : Hid (a ≤ st.sent) := Lib.hid (by omega)
  by_cases b3 : s < 0
  · have HFIN := Lib.hid (fun d d' => HNO.out ((w0.drewN d).drewN d') (below_drewN (below_drewN hbw d) d') (by unfold badE; exact decide_eq_true (.inr (.inr (.inl b3)))))
    clear h X0 hbw L0 hq hqn hbd hgot hql
    go_enter Try.func16, Try.ntmps16
    go_wp2_with fail
    go_quiet (fail)
    go_wp2_with fail
    go_quiet (fail)
    go_wp2_with fail
    exact bodyPost_ret (v := .tuple #[.slice none 0 0, .int .i64 150]) (by simp [results, Try.results16, go_sem]) rfl (HFIN.out _ _)
  have n3 : decide (s < 0) = false := decide_eq_false b3
  have UN := fun d => unnumbered16 st.ep s a q (w0.drewN d)
  by_cases b4 : s = 0 ∧ 0 < q.n
  · have HFIN := Lib.hid (fun W' hW => HNO.out W' hW (by unfold badE; exact decide_eq_true (.inr (.inr (.inr ⟨b4.1, by simp only; rw [hql]; exact b4.2⟩)))))
    rw [decide_eq_true b4] at UN
    clear b4
    clear h X0 hbw L0 hq hqn hbd hgot hql
    go_enter Try.func16, Try.ntmps16
    go_wp2_with fail
    go_quiet (fail)
    go_wp2_with fail
    refine wp_region_held_drew (S := (fun W => W.cell? ⟨f.lb, 6, none⟩ = some (.int .i64 st.sent) ∧ W.cell? ⟨tb, 0, none⟩ = some (.int .i64 st.ep) ∧ W.cell? ⟨tb, 1, none⟩ = some (.int .i64 s) ∧ W.cell? ⟨tb, 2, none⟩ = some (.int .i64 a) ∧ W.cell? ⟨tb, 3, none⟩ = some (.slice q.a q.n q.cap))) (by kernel_rfl) ?_ (fun hHeld => ?_)
    · (first | go_keep | (go_split_ands; refine ⟨?_, ?_, ?_, ?_, ?_⟩ <;> assumption))
    refine wpAnyH_take (i := 0) (oi := ⟨some 13, _, _, _, _, _⟩) (v := ?_) rfl (by kernel_rfl) (by kernel_rfl) (by kernel_rfl) (fun _ _ _ h => h) (Or.inl ⟨by rfl, ?hy1⟩) hHeld ?rest1
    case hy1 => (intro W hSw; (try dsimp only at hSw); go_simp; (try with_reducible rfl))
    simp only [Act.put, List.setIfInBounds_toArray, List.set_cons_zero, List.set_cons_succ]
    refine wpAnyH_take (i := 1) (oi := ⟨some 14, _, _, _, _, _⟩) (v := ?_) rfl (by kernel_rfl) (by kernel_rfl) (by kernel_rfl) (fun _ _ _ h => h) (Or.inl ⟨by rfl, ?hy2⟩) hHeld ?rest2
    case hy2 => (intro W hSw; (try dsimp only at hSw); go_simp; (try with_reducible rfl))
    simp only [Act.put, List.setIfInBounds_toArray, List.set_cons_zero, List.set_cons_succ]
    refine wpAnyH_take (i := 2) (oi := ⟨some 15, _, _, _, _, _⟩) (v := ?_) rfl (by kernel_rfl) (by kernel_rfl) (by kernel_rfl) (fun _ _ _ h => h) (Or.inl ⟨by rfl, ?hy3⟩) hHeld ?rest3
    case hy3 => (intro W hSw; (try dsimp only at hSw); go_simp; (try with_reducible rfl))
    simp only [Act.put, List.setIfInBounds_toArray, List.set_cons_zero, List.set_cons_succ]
    refine wpAnyH_take (i := 3) (oi := ⟨some 16, _, _, _, _, _⟩) (v := ?_) rfl (by kernel_rfl) (by kernel_rfl) (by kernel_rfl) (fun _ _ _ h => h) (Or.inl ⟨by rfl, ?hy4⟩) hHeld ?rest4
    case hy4 => (intro W hSw; (try dsimp only at hSw); go_simp; (try with_reducible rfl))
    simp only [Act.put, List.setIfInBounds_toArray, List.set_cons_zero, List.set_cons_succ]
    refine wpAnyH_take (i := 4) (oi := ⟨some 17, _, _, _, _, _⟩) (v := ?_) rfl (by kernel_rfl) (by kernel_rfl) (by kernel_rfl) (fun _ _ _ h => h) (Or.inl ⟨by rfl, ?hy5⟩) hHeld ?rest5
    case hy5 => (intro W hSw; (try dsimp only at hSw); go_simp; (try with_reducible rfl))
    simp only [Act.put, List.setIfInBounds_toArray, List.set_cons_zero, List.set_cons_succ]
    refine wpAnyH_take (i := 5) (oi := ⟨some 18, _, _, _, _, _⟩) (v := ?_) rfl (by kernel_rfl) (by kernel_rfl) (by kernel_rfl) (fun _ _ _ h => h) (Or.inl ⟨by rfl, ?hy6⟩) hHeld ?rest6
    case hy6 => (intro W hSw; (try dsimp only at hSw); go_simp; (try with_reducible rfl))
    simp only [Act.put, List.setIfInBounds_toArray, List.set_cons_zero, List.set_cons_succ]
    refine wpAnyH_take (i := 6) (oi := ⟨some 19, _, _, _, _, _⟩) (v := ?_) rfl (by kernel_rfl) (by kernel_rfl) (by kernel_rfl) (fun _ _ _ h => h) (Or.inl ⟨by rfl, ?hy7⟩) hHeld ?rest7
    case hy7 => (intro W hSw; (try dsimp only at hSw); go_simp; (try with_reducible rfl))
    simp only [Act.put, List.setIfInBounds_toArray, List.set_cons_zero, List.set_cons_succ]
    refine wpAnyH_take (i := 7) (oi := ⟨some 20, _, _, _, _, _⟩) (v := ?_) rfl (by kernel_rfl) (by kernel_rfl) (by kernel_rfl) (fun _ _ _ h => h) (Or.inl ⟨by rfl, ?hy8⟩) hHeld ?rest8
    case hy8 => (intro W hSw; (try dsimp only at hSw); go_simp; (try with_reducible rfl))
    simp only [Act.put, List.setIfInBounds_toArray, List.set_cons_zero, List.set_cons_succ]
    refine wpAnyH_take (i := 8) (oi := ⟨some 21, _, _, _, _, _⟩) (v := ?_) rfl (by kernel_rfl) (by kernel_rfl) (by kernel_rfl) (fun _ _ _ h => h) (Or.inl ⟨by rfl, ?hy9⟩) hHeld ?rest9
    case hy9 => (intro W hSw; (try dsimp only at hSw); go_simp; (try with_reducible rfl))
    simp only [Act.put, List.setIfInBounds_toArray, List.set_cons_zero, List.set_cons_succ]
    refine wpAnyH_take (i := 9) (oi := ⟨some 22, _, _, _, _, _⟩) (v := ?_) rfl (by kernel_rfl) (by kernel_rfl) (by kernel_rfl) (fun _ _ _ h => h) (Or.inl ⟨by rfl, ?hy10⟩) hHeld ?rest10
    case hy10 => (intro W hSw; (try dsimp only at hSw); go_simp; (try with_reducible rfl))
    simp only [Act.put, List.setIfInBounds_toArray, List.set_cons_zero, List.set_cons_succ]
    refine wpAnyH_take (i := 10) (oi := ⟨some 23, _, _, _, _, _⟩) (v := ?_) rfl (by kernel_rfl) (by kernel_rfl) (by kernel_rfl) (fun _ _ _ h => h) (Or.inl ⟨by rfl, ?hy11⟩) hHeld ?rest11
    case hy11 => (intro W hSw; (try dsimp only at hSw); go_simp; (try with_reducible rfl))
    simp only [Act.put, List.setIfInBounds_toArray, List.set_cons_zero, List.set_cons_succ]
    refine wpAnyH_take (i := 11) (oi := ⟨some 24, _, _, _, _, _⟩) (v := ?_) rfl (by kernel_rfl) (by kernel_rfl) (by kernel_rfl) (fun _ _ _ h => h) (Or.inl ⟨by rfl, ?hy12⟩) hHeld ?rest12
    case hy12 => (intro W hSw; (try dsimp only at hSw); go_simp; (try with_reducible rfl))
    simp only [Act.put, List.setIfInBounds_toArray, List.set_cons_zero, List.set_cons_succ]
    refine wpAnyH_take (i := 12) (oi := ⟨some 25, _, _, _, _, _⟩) (v := ?_) rfl (by kernel_rfl) (by kernel_rfl) (by kernel_rfl) (fun _ _ _ h => h) (Or.inl ⟨by rfl, ?hy13⟩) hHeld ?rest13
    case hy13 => (intro W hSw; (try dsimp only at hSw); go_simp; (try with_reducible rfl))
    simp only [Act.put, List.setIfInBounds_toArray, List.set_cons_zero, List.set_cons_succ]
    refine wpAnyH_take (i := 13) (oi := ⟨some 26, _, _, _, _, _⟩) (v := ?_) rfl (by kernel_rfl) (by kernel_rfl) (by kernel_rfl) (fun _ _ _ h => h) (Or.inl ⟨by rfl, ?hy14⟩) hHeld ?rest14
    case hy14 => (intro W hSw; (try dsimp only at hSw); go_simp; (try with_reducible rfl))
    simp only [Act.put, List.setIfInBounds_toArray, List.set_cons_zero, List.set_cons_succ]
    refine wpAnyH_take (i := 14) (oi := ⟨some 27, _, _, _, _, _⟩) (v := ?_) rfl (by kernel_rfl) (by kernel_rfl) (by kernel_rfl) (fun _ _ _ h => h) (Or.inl ⟨by rfl, ?hy15⟩) hHeld ?rest15
    case hy15 => (intro W hSw; (try dsimp only at hSw); go_simp; (try with_reducible rfl))
    simp only [Act.put, List.setIfInBounds_toArray, List.set_cons_zero, List.set_cons_succ]
    refine wpAnyH_take (i := 15) (oi := ⟨some 28, _, _, _, _, _⟩) (v := ?_) rfl (by kernel_rfl) (by kernel_rfl) (by kernel_rfl) (fun _ _ _ h => h) (Or.inl ⟨by rfl, ?hy16⟩) hHeld ?rest16
    case hy16 => (intro W hSw; (try dsimp only at hSw); go_simp; (try with_reducible rfl))
    simp only [Act.put, List.setIfInBounds_toArray, List.set_cons_zero, List.set_cons_succ]
    refine wpAnyH_take (i := 16) (oi := ⟨some 29, _, _, _, _, _⟩) (v := ?_) rfl (by kernel_rfl) (by kernel_rfl) (by kernel_rfl) (fun _ _ _ h => h) (Or.inl ⟨by rfl, ?hy17⟩) hHeld ?rest17
    case hy17 => (intro W hSw; (try dsimp only at hSw); go_simp; (try with_reducible rfl))
    simp only [Act.put, List.setIfInBounds_toArray, List.set_cons_zero, List.set_cons_succ]
    refine wpAnyH_take (i := 17) (oi := ⟨some 30, _, _, _, _, _⟩) (v := ?_) rfl (by kernel_rfl) (by kernel_rfl) (by kernel_rfl) (fun _ _ _ h => h) (Or.inl ⟨by rfl, ?hy18⟩) hHeld ?rest18
    case hy18 => (intro W hSw; (try dsimp only at hSw); go_simp; (try with_reducible rfl))
    simp only [Act.put, List.setIfInBounds_toArray, List.set_cons_zero, List.set_cons_succ]
    refine wpAnyH_take (i := 18) (oi := ⟨some 31, _, _, _, _, _⟩) (v := ?_) rfl (by kernel_rfl) (by kernel_rfl) (by kernel_rfl) (fun _ _ _ h => h) (Or.inl ⟨by rfl, ?hy19⟩) hHeld ?rest19
    case hy19 => (intro W hSw; (try dsimp only at hSw); go_simp; (try with_reducible rfl))
    simp only [Act.put, List.setIfInBounds_toArray, List.set_cons_zero, List.set_cons_succ]
    refine wpAnyH_ready (rs := [19]) (by kernel_rfl) (by simp) ?_
    refine AllReadyH.cons (o := ⟨some 32, _, _, _, _, _⟩) rfl (fun K hK => ?_) AllReadyH.nil
    go_simp
    go_at_call 35
    refine (UN _).mono ?_
    rintro e w3 ⟨rfl, hb3⟩
    have HB3 := Lib.hid (HB.out.trans ((below_two (below_drewN (Below.refl _ w0) _) hb3).mono HB.out.size))
    have hL3 := H.out.bel HB3.out
    have hX3 := Box.bel (show Box (w0.drewN _) tb _ _ from HX.out) hb3
    have y6 : w3.cell? ⟨f.lb, 6, none⟩ = some (.int .i64 st.sent) := hL3.box.cell 6
    have y0 : w3.cell? ⟨tb, 0, none⟩ = some (.int .i64 st.ep) := hX3.cell 0
    have y1 : w3.cell? ⟨tb, 1, none⟩ = some (.int .i64 s) := hX3.cell 1
    have y2 : w3.cell? ⟨tb, 2, none⟩ = some (.int .i64 a) := hX3.cell 2
    have y3 : w3.cell? ⟨tb, 3, none⟩ = some (.slice q.a q.n q.cap) := hX3.cell 3
    have HL3 := Lib.hid hL3
    have HX3 := Lib.hid hX3
    clear hL3 hX3 hb3 UN
    refine hK.out _ _ ?_ (fun hNew => ?_)
    · ((try dsimp only); (first | go_keep | (go_split_ands; refine ⟨?_, ?_, ?_, ?_, ?_⟩ <;> assumption)))
    clear hK K hHeld
    have hHeld := hNew
    clear hNew
    try simp only [Act.put, List.setIfInBounds_toArray, List.set_cons_zero, List.set_cons_succ]
    refine wpAnyH_take (i := 20) (oi := ⟨some 33, _, _, _, _, _⟩) (v := ?_) rfl (by kernel_rfl) (by kernel_rfl) (by kernel_rfl) (fun _ _ _ h => h) (Or.inl ⟨by rfl, ?hy21⟩) hHeld ?rest21
    case hy21 => (intro W hSw; (try dsimp only at hSw); go_simp; (try with_reducible rfl))
    simp only [Act.put, List.setIfInBounds_toArray, List.set_cons_zero, List.set_cons_succ]
    refine wpAnyH_done (by kernel_rfl) ?_ _
    go_wp2_with fail
    exact bodyPost_ret (v := .tuple #[.slice none 0 0, .int .i64 150]) (by simp [results, Try.results16, go_sem]) rfl (HFIN.out _ HB3.out)
  rw [decide_eq_false b4] at UN
  have HGOOD : Hid (badE st ⟨st.ep, s, a, q.v⟩ = false) := Lib.hid (by
    unfold badE
    rw [decide_eq_false_iff_not]
    simp only
    intro hh
    rcases hh with hh | hh | hh | hh
    · exact b1 hh
    · exact b2 hh
    · exact b3 hh
    · exact b4 ⟨hh.1, by rw [hql] at hh; exact hh.2⟩)
  have HSN : Hid (¬ s < 0) := Lib.hid b3
  clear h X0 hbw L0 hq hqn hbd hgot hql HNO b4
  go_enter Try.func16, Try.ntmps16
  go_wp2_with fail
  go_quiet (fail)
  go_wp2_with fail
  refine wp_region_held_drew (S := (fun W => W.cell? ⟨f.lb, 6, none⟩ = some (.int .i64 st.sent) ∧ W.cell? ⟨tb, 0, none⟩ = some (.int .i64 st.ep) ∧ W.cell? ⟨tb, 1, none⟩ = some (.int .i64 s) ∧ W.cell? ⟨tb, 2, none⟩ = some (.int .i64 a) ∧ W.cell? ⟨tb, 3, none⟩ = some (.slice q.a q.n q.cap))) (by kernel_rfl) ?_ (fun hHeld => ?_)
  · (first | go_keep | (go_split_ands; refine ⟨?_, ?_, ?_, ?_, ?_⟩ <;> assumption))
  refine wpAnyH_take (i := 0) (oi := ⟨some 13, _, _, _, _, _⟩) (v := ?_) rfl (by kernel_rfl) (by kernel_rfl) (by kernel_rfl) (fun _ _ _ h => h) (Or.inl ⟨by rfl, ?hy22⟩) hHeld ?rest22
  case hy22 => (intro W hSw; (try dsimp only at hSw); go_simp; (try with_reducible rfl))
  simp only [Act.put, List.setIfInBounds_toArray, List.set_cons_zero, List.set_cons_succ]
  refine wpAnyH_take (i := 1) (oi := ⟨some 14, _, _, _, _, _⟩) (v := ?_) rfl (by kernel_rfl) (by kernel_rfl) (by kernel_rfl) (fun _ _ _ h => h) (Or.inl ⟨by rfl, ?hy23⟩) hHeld ?rest23
  case hy23 => (intro W hSw; (try dsimp only at hSw); go_simp; (try with_reducible rfl))
  simp only [Act.put, List.setIfInBounds_toArray, List.set_cons_zero, List.set_cons_succ]
  refine wpAnyH_take (i := 2) (oi := ⟨some 15, _, _, _, _, _⟩) (v := ?_) rfl (by kernel_rfl) (by kernel_rfl) (by kernel_rfl) (fun _ _ _ h => h) (Or.inl ⟨by rfl, ?hy24⟩) hHeld ?rest24
  case hy24 => (intro W hSw; (try dsimp only at hSw); go_simp; (try with_reducible rfl))
  simp only [Act.put, List.setIfInBounds_toArray, List.set_cons_zero, List.set_cons_succ]
  refine wpAnyH_take (i := 3) (oi := ⟨some 16, _, _, _, _, _⟩) (v := ?_) rfl (by kernel_rfl) (by kernel_rfl) (by kernel_rfl) (fun _ _ _ h => h) (Or.inl ⟨by rfl, ?hy25⟩) hHeld ?rest25
  case hy25 => (intro W hSw; (try dsimp only at hSw); go_simp; (try with_reducible rfl))
  simp only [Act.put, List.setIfInBounds_toArray, List.set_cons_zero, List.set_cons_succ]
  refine wpAnyH_take (i := 4) (oi := ⟨some 17, _, _, _, _, _⟩) (v := ?_) rfl (by kernel_rfl) (by kernel_rfl) (by kernel_rfl) (fun _ _ _ h => h) (Or.inl ⟨by rfl, ?hy26⟩) hHeld ?rest26
  case hy26 => (intro W hSw; (try dsimp only at hSw); go_simp; (try with_reducible rfl))
  simp only [Act.put, List.setIfInBounds_toArray, List.set_cons_zero, List.set_cons_succ]
  refine wpAnyH_take (i := 5) (oi := ⟨some 18, _, _, _, _, _⟩) (v := ?_) rfl (by kernel_rfl) (by kernel_rfl) (by kernel_rfl) (fun _ _ _ h => h) (Or.inl ⟨by rfl, ?hy27⟩) hHeld ?rest27
  case hy27 => (intro W hSw; (try dsimp only at hSw); go_simp; (try with_reducible rfl))
  simp only [Act.put, List.setIfInBounds_toArray, List.set_cons_zero, List.set_cons_succ]
  refine wpAnyH_take (i := 6) (oi := ⟨some 19, _, _, _, _, _⟩) (v := ?_) rfl (by kernel_rfl) (by kernel_rfl) (by kernel_rfl) (fun _ _ _ h => h) (Or.inl ⟨by rfl, ?hy28⟩) hHeld ?rest28
  case hy28 => (intro W hSw; (try dsimp only at hSw); go_simp; (try with_reducible rfl))
  simp only [Act.put, List.setIfInBounds_toArray, List.set_cons_zero, List.set_cons_succ]
  refine wpAnyH_take (i := 7) (oi := ⟨some 20, _, _, _, _, _⟩) (v := ?_) rfl (by kernel_rfl) (by kernel_rfl) (by kernel_rfl) (fun _ _ _ h => h) (Or.inl ⟨by rfl, ?hy29⟩) hHeld ?rest29
  case hy29 => (intro W hSw; (try dsimp only at hSw); go_simp; (try with_reducible rfl))
  simp only [Act.put, List.setIfInBounds_toArray, List.set_cons_zero, List.set_cons_succ]
  refine wpAnyH_take (i := 8) (oi := ⟨some 21, _, _, _, _, _⟩) (v := ?_) rfl (by kernel_rfl) (by kernel_rfl) (by kernel_rfl) (fun _ _ _ h => h) (Or.inl ⟨by rfl, ?hy30⟩) hHeld ?rest30
  case hy30 => (intro W hSw; (try dsimp only at hSw); go_simp; (try with_reducible rfl))
  simp only [Act.put, List.setIfInBounds_toArray, List.set_cons_zero, List.set_cons_succ]
  refine wpAnyH_take (i := 9) (oi := ⟨some 22, _, _, _, _, _⟩) (v := ?_) rfl (by kernel_rfl) (by kernel_rfl) (by kernel_rfl) (fun _ _ _ h => h) (Or.inl ⟨by rfl, ?hy31⟩) hHeld ?rest31
  case hy31 => (intro W hSw; (try dsimp only at hSw); go_simp; (try with_reducible rfl))
  simp only [Act.put, List.setIfInBounds_toArray, List.set_cons_zero, List.set_cons_succ]
  refine wpAnyH_take (i := 10) (oi := ⟨some 23, _, _, _, _, _⟩) (v := ?_) rfl (by kernel_rfl) (by kernel_rfl) (by kernel_rfl) (fun _ _ _ h => h) (Or.inl ⟨by rfl, ?hy32⟩) hHeld ?rest32
  case hy32 => (intro W hSw; (try dsimp only at hSw); go_simp; (try with_reducible rfl))
  simp only [Act.put, List.setIfInBounds_toArray, List.set_cons_zero, List.set_cons_succ]
  refine wpAnyH_take (i := 11) (oi := ⟨some 24, _, _, _, _, _⟩) (v := ?_) rfl (by kernel_rfl) (by kernel_rfl) (by kernel_rfl) (fun _ _ _ h => h) (Or.inl ⟨by rfl, ?hy33⟩) hHeld ?rest33
  case hy33 => (intro W hSw; (try dsimp only at hSw); go_simp; (try with_reducible rfl))
  simp only [Act.put, List.setIfInBounds_toArray, List.set_cons_zero, List.set_cons_succ]
  refine wpAnyH_take (i := 12) (oi := ⟨some 25, _, _, _, _, _⟩) (v := ?_) rfl (by kernel_rfl) (by kernel_rfl) (by kernel_rfl) (fun _ _ _ h => h) (Or.inl ⟨by rfl, ?hy34⟩) hHeld ?rest34
  case hy34 => (intro W hSw; (try dsimp only at hSw); go_simp; (try with_reducible rfl))
  simp only [Act.put, List.setIfInBounds_toArray, List.set_cons_zero, List.set_cons_succ]
  refine wpAnyH_take (i := 13) (oi := ⟨some 26, _, _, _, _, _⟩) (v := ?_) rfl (by kernel_rfl) (by kernel_rfl) (by kernel_rfl) (fun _ _ _ h => h) (Or.inl ⟨by rfl, ?hy35⟩) hHeld ?rest35
  case hy35 => (intro W hSw; (try dsimp only at hSw); go_simp; (try with_reducible rfl))
  simp only [Act.put, List.setIfInBounds_toArray, List.set_cons_zero, List.set_cons_succ]
  refine wpAnyH_take (i := 14) (oi := ⟨some 27, _, _, _, _, _⟩) (v := ?_) rfl (by kernel_rfl) (by kernel_rfl) (by kernel_rfl) (fun _ _ _ h => h) (Or.inl ⟨by rfl, ?hy36⟩) hHeld ?rest36
  case hy36 => (intro W hSw; (try dsimp only at hSw); go_simp; (try with_reducible rfl))
  simp only [Act.put, List.setIfInBounds_toArray, List.set_cons_zero, List.set_cons_succ]
  refine wpAnyH_take (i := 15) (oi := ⟨some 28, _, _, _, _, _⟩) (v := ?_) rfl (by kernel_rfl) (by kernel_rfl) (by kernel_rfl) (fun _ _ _ h => h) (Or.inl ⟨by rfl, ?hy37⟩) hHeld ?rest37
  case hy37 => (intro W hSw; (try dsimp only at hSw); go_simp; (try with_reducible rfl))
  simp only [Act.put, List.setIfInBounds_toArray, List.set_cons_zero, List.set_cons_succ]
  refine wpAnyH_take (i := 16) (oi := ⟨some 29, _, _, _, _, _⟩) (v := ?_) rfl (by kernel_rfl) (by kernel_rfl) (by kernel_rfl) (fun _ _ _ h => h) (Or.inl ⟨by rfl, ?hy38⟩) hHeld ?rest38
  case hy38 => (intro W hSw; (try dsimp only at hSw); go_simp; (try with_reducible rfl))
  simp only [Act.put, List.setIfInBounds_toArray, List.set_cons_zero, List.set_cons_succ]
  refine wpAnyH_take (i := 17) (oi := ⟨some 30, _, _, _, _, _⟩) (v := ?_) rfl (by kernel_rfl) (by kernel_rfl) (by kernel_rfl) (fun _ _ _ h => h) (Or.inl ⟨by rfl, ?hy39⟩) hHeld ?rest39
  case hy39 => (intro W hSw; (try dsimp only at hSw); go_simp; (try with_reducible rfl))
  simp only [Act.put, List.setIfInBounds_toArray, List.set_cons_zero, List.set_cons_succ]
  refine wpAnyH_take (i := 18) (oi := ⟨some 31, _, _, _, _, _⟩) (v := ?_) rfl (by kernel_rfl) (by kernel_rfl) (by kernel_rfl) (fun _ _ _ h => h) (Or.inl ⟨by rfl, ?hy40⟩) hHeld ?rest40
  case hy40 => (intro W hSw; (try dsimp only at hSw); go_simp; (try with_reducible rfl))
  simp only [Act.put, List.setIfInBounds_toArray, List.set_cons_zero, List.set_cons_succ]
  refine wpAnyH_ready (rs := [19]) (by kernel_rfl) (by simp) ?_
  refine AllReadyH.cons (o := ⟨some 32, _, _, _, _, _⟩) rfl (fun K hK => ?_) AllReadyH.nil
  go_simp
  go_at_call 35
  refine (UN _).mono ?_
  rintro e w3 ⟨rfl, hb3⟩
  have HB3 := Lib.hid (HB.out.trans ((below_two (below_drewN (Below.refl _ w0) _) hb3).mono HB.out.size))
  have hL3 := H.out.bel HB3.out
  have hX3 := Box.bel (show Box (w0.drewN _) tb _ _ from HX.out) hb3
  have y6 : w3.cell? ⟨f.lb, 6, none⟩ = some (.int .i64 st.sent) := hL3.box.cell 6
  have y0 : w3.cell? ⟨tb, 0, none⟩ = some (.int .i64 st.ep) := hX3.cell 0
  have y1 : w3.cell? ⟨tb, 1, none⟩ = some (.int .i64 s) := hX3.cell 1
  have y2 : w3.cell? ⟨tb, 2, none⟩ = some (.int .i64 a) := hX3.cell 2
  have y3 : w3.cell? ⟨tb, 3, none⟩ = some (.slice q.a q.n q.cap) := hX3.cell 3
  have HL3 := Lib.hid hL3
  have HX3 := Lib.hid hX3
  clear hL3 hX3 hb3 UN
  refine hK.out _ _ ?_ (fun hNew => ?_)
  · ((try dsimp only); (first | go_keep | (go_split_ands; refine ⟨?_, ?_, ?_, ?_, ?_⟩ <;> assumption)))
  clear hK K hHeld
  have hHeld := hNew
  clear hNew
  try simp only [Act.put, List.setIfInBounds_toArray, List.set_cons_zero, List.set_cons_succ]
  refine wpAnyH_take (i := 20) (oi := ⟨some 33, _, _, _, _, _⟩) (v := ?_) rfl (by kernel_rfl) (by kernel_rfl) (by kernel_rfl) (fun _ _ _ h => h) (Or.inl ⟨by rfl, ?hy42⟩) hHeld ?rest42
  case hy42 => (intro W hSw; (try dsimp only at hSw); go_simp; (try with_reducible rfl))
  simp only [Act.put, List.setIfInBounds_toArray, List.set_cons_zero, List.set_cons_succ]
  refine wpAnyH_done (by kernel_rfl) ?_ _
  have R1 := release16 HL3.out a HAS.out HBD.out.1
  clear c3 c6 x0 x1 x2 x3 htb hw0
  go_wp2_with fail
  refine R1.mono ?_
  rintro e w4 ⟨rfl, ⟨l1, m1, v1⟩, hL4, hF4, hM4⟩
  obtain rfl : l1 = f.lb := hF4.1
  have X4 := hM4.box _ _ _ HX3.out (by decide) (by decide)
  have z1 : w4.cell? ⟨tb, 1, none⟩ = some (.int .i64 s) := X4.cell 1
  have H4 := Lib.hid (And.intro hL4 (And.intro hF4 (And.intro hM4 X4)))
  have e9 : ∃ b, w4.cell? ⟨f.lb, 9, none⟩ = some (.bool b) := ⟨_, hL4.box.cell 9⟩
  obtain ⟨b9, e9⟩ := e9
  have f9 : w4.frozen? ⟨f.lb, 9, none⟩ = false := hL4.box.frozen 9
  clear R1 hL4 hF4 hM4 X4 y0 y1 y2 y3 y6
  by_cases s0 : s = 0
  · have HFIN : Hid (HearR w f W Sp R st ⟨st.ep, s, a, q.v⟩ (.returned (.tuple #[.slice none 0 0, .int .i64 0])) w4) := Lib.hid (by
      obtain ⟨hL4, hF4, hM4, X4⟩ := H4.out
      have he : hearE W st ⟨st.ep, s, a, q.v⟩ = (([], 0), ackE st a) := by
        unfold hearE
        rw [if_neg (by simp), HGOOD.out, if_neg (by simp), if_pos s0]
      unfold HearR
      rw [he]
      exact ⟨_, 0, [], rfl, listR_nil _ _ _ _, by omega, rfl, ⟨_, hL4, ⟨hF4.1, fun b hb => (hF4.2 b hb).imp id (Nat.le_trans HB3.out.size)⟩, (Moves.of_below HB3.out f).trans (FootTo.refl _ _) hM4⟩⟩)
    have hs0 : (s == 0) = true := by simpa using s0
    clear s0
    go_wp2_with fail
    exact bodyPost_ret (v := .tuple #[.slice none 0 0, .int .i64 0]) (by simp [results, Try.results16, go_sem]) rfl HFIN.out
  · have hs0 : (s == 0) = false := by simpa using s0
    have HS0 := Lib.hid s0
    obtain ⟨w5, hw5⟩ : ∃ w5, w4.setCell ⟨f.lb, 9, none⟩ (.bool true) = w5 := ⟨_, rfl⟩
    have g5 : w4.grownBy w5 (some f.lb) := by rw [← hw5]; exact grown_set _ _ _ _
    obtain ⟨hL4, hF4, hM4, X4⟩ := H4.out
    have hgd := hL4.good
    obtain ⟨hL5, hM5⟩ := hL4.own (w' := w5) (st' := { ackE st a with owes := true }) (by rw [← hw5]; exact hL4.box.set 9 _) g5 rfl rfl ⟨hgd.pm, hgd.room, hgd.sent, hgd.ages, hgd.early, hgd.ep⟩
    have hrow : ∀ p : Rw, p.In .u8 w → p.In .u8 w5 := fun p hp => hM5.rows p (hM4.rows p (hp.below HB3.out))
    have X5 := hM5.box _ _ _ X4 (by decide) (by decide)
    have v1' : w5.cell? ⟨tb, 1, none⟩ = some (.int .i64 s) := X5.cell 1
    have v3 : w5.cell? ⟨tb, 3, none⟩ = some (.slice q.a q.n q.cap) := X5.cell 3
    have K1 := keep16 hL5 s q (hrow q HQ.out.1) HQ.out.2 HBD.out.2
    have hm35 : Moves w w5 f := ((Moves.of_below HB3.out f).trans (FootTo.refl _ _) hM4).trans ⟨hF4.1, fun b hb => (hF4.2 b hb).imp id (Nat.le_trans HB3.out.size)⟩ hM5
    have HM5 := Lib.hid hm35
    have HF4 : Hid (FootTo w f ⟨f.lb, m1, v1⟩) := Lib.hid ⟨hF4.1, fun b hb => (hF4.2 b hb).imp id (Nat.le_trans HB3.out.size)⟩
    clear hL4 hF4 hM4 X4 hgd hL5 hM5 hrow X5 hm35 g5 s0
    go_wp2_with fail
    clear e9 f9
    refine K1.mono ?_
    rintro e w6 ⟨rfl, hL6, hM6⟩
    have T1 := take16 hL6 HBD.out.2
    have HM6 := Lib.hid (HM5.out.trans HF4.out hM6)
    clear K1 hM6 hL6 v1' v3 hw5
    go_wp2_with fail
    refine T1.mono ?_
    rintro e w7 ⟨v, n, qs, rfl, hLR, hn, hqs, hL7, hM7⟩
    have HFIN : Hid (HearR w f W Sp R st ⟨st.ep, s, a, q.v⟩ (.returned (.tuple #[v, .int .i64 0])) w7) := Lib.hid (by
      have he : hearE W st ⟨st.ep, s, a, q.v⟩ = (((earlyE W st ⟨st.ep, s, a, q.v⟩).2.2, 0), { ackE st a with owes := true, got := (earlyE W st ⟨st.ep, s, a, q.v⟩).1, early := (earlyE W st ⟨st.ep, s, a, q.v⟩).2.1 }) := by
        unfold hearE
        rw [if_neg (by simp), HGOOD.out, if_neg (by simp), if_neg HS0.out]
      unfold HearR
      rw [he]
      exact ⟨v, n, qs, rfl, listR_base hLR HM6.out.size, hn, hqs, ⟨_, hL7, HF4.out, HM6.out.trans HF4.out hM7⟩⟩)
    obtain ⟨va7, vc7, rfl, _⟩ := hLR.shape
    clear hLR hqs hL7 hM7 T1
    go_wp2_with fail
    exact bodyPost_ret (v := .tuple #[.slice va7 n vc7, .int .i64 0]) (by simp [results, Try.results16, go_sem]) rfl HFIN.out

end Go.Proofs.Ytkinbngikmcpeaa
