/-
  Contracts: mayGo, segment; lists of segments that a call owns.
-/
import Derived.Test.YtkinbngikmcpeaaSend16
import Derived.Test.YtkinbngikmcpeaaResRow
import Derived.Deep.RegionHeld3
namespace Go.Proofs.Ytkinbngikmcpeaa
open Go.RowKit Go.Maps
set_option linter.unusedVariables false

theorem set_set (w : World) (b o : Nat) (u v : Value) : (w.setCell ⟨b, o, none⟩ u).setCell ⟨b, o, none⟩ v = w.setCell ⟨b, o, none⟩ v := by
  unfold World.setCell
  congr 1
  apply Array.ext_getElem?
  intro i
  simp only [Array.getElem?_modify]
  split
  · cases w.heap[i]? with
    | none => rfl
    | some x => cases x <;> simp
  · rfl

set_option maxRecDepth 100000 in
theorem mayGo16 {w : World} {f : Foot} {W Sp R : Nat} {st : Lk16} (h : LinkAt w f W Sp R st) {va : Option Addr} {vc : Nat} (hv : f.va = .slice va st.out.length vc) :
    Calls Try.prog 33 #[.pointer (some ⟨f.lb, 0, none⟩)] w fun e w' => e = .returned (.slice va (min W st.out.length) vc) ∧ Below w.heap.size w w' := by
  have c4 : w.cell? ⟨f.lb, 4, none⟩ = some (.slice va st.out.length vc) := by rw [← hv]; exact h.box.cell 4
  have c0 : w.cell? ⟨f.lb, 0, none⟩ = some (.int .i64 W) := h.box.cell 0
  obtain ⟨es, _, hl, _⟩ := h.left
  have hcap : st.out.length ≤ vc ∧ vc ≤ 9223372036854775807 := by
    rcases hl.own.2 with ⟨h1, h2⟩ | ⟨g, cap, cur, h1, _, _, h3, h4, _⟩
    · rw [hv] at h1; simp only [Value.slice.injEq] at h1; omega
    · rw [hv] at h1; simp only [Value.slice.injEq] at h1; unfold maxLen at h4; omega
  clear h hl hv
  generalize st.out.length = n at *
  by_cases hlt : n < W
  · have e : min W n = n := by omega
    have h1 : (n : Int) < (W : Int) := by omega
    rw [e]
    clear e
    go_enter Try.func33, Try.ntmps33
    go_wp2_with fail
    go_quiet (fail)
    go_wp2_with fail
    go_ret
    exact ⟨rfl, below_drewN (Below.refl _ _) _⟩
  · have e : min W n = W := by omega
    have h1 : ¬ (n : Int) < (W : Int) := by omega
    rw [e]
    clear e
    go_enter Try.func33, Try.ntmps33
    go_wp2_with fail
    go_quiet (fail)
    go_wp2_with fail
    go_ret
    exact ⟨rfl, below_drewN (Below.refl _ _) _⟩

set_option maxRecDepth 100000 in
theorem segment16 {w : World} {f : Foot} {W Sp R : Nat} {st : Lk16} (h : LinkAt w f W Sp R st) (n : Int) (q : Rw) (hq : q.In .u8 w) (hn : q.n ≤ 65536) :
    Calls Try.prog 34 #[.pointer (some ⟨f.lb, 0, none⟩), .int .i64 n, .slice q.a q.n q.cap] w fun e w' => ∃ g : Rw, e = .returned (.agg #[.int .i64 st.ep, .int .i64 n, .int .i64 st.got, .slice g.a g.n g.cap]) ∧ g.In .u8 w' ∧ g.v = q.v ∧ (∀ x, g.a = some x → w.heap.size ≤ x.block) ∧ Below w.heap.size w w' := by
  have c3 : w.cell? ⟨f.lb, 3, none⟩ = some (.int .i64 st.ep) := h.box.cell 3
  have c7 : w.cell? ⟨f.lb, 7, none⟩ = some (.int .i64 st.got) := h.box.cell 7
  have hlb := h.box.lt
  have H0 := Lib.hid h
  have HQ := Lib.hid hq
  have HN := Lib.hid hn
  clear h hq hn
  have hal : Below w.heap.size w (w.alloc (.cells #[.int .i64 0, .int .i64 0, .int .i64 0, .slice none 0 0] 39)) := (Below.refl _ _).alloc (Nat.le_refl _) _
  have hX : Box (w.alloc (.cells #[.int .i64 0, .int .i64 0, .int .i64 0, .slice none 0 0] 39)) w.heap.size 39 #[.int .i64 0, .int .i64 0, .int .i64 0, .slice none 0 0] := box_new _ _ _
  have HAL := Lib.hid hal
  have HX := Lib.hid hX
  have L1 := H0.out.bel hal
  have c3' : (w.alloc (.cells #[.int .i64 0, .int .i64 0, .int .i64 0, .slice none 0 0] 39)).cell? ⟨f.lb, 3, none⟩ = some (.int .i64 st.ep) := L1.box.cell 3
  have c7' : (w.alloc (.cells #[.int .i64 0, .int .i64 0, .int .i64 0, .slice none 0 0] 39)).cell? ⟨f.lb, 7, none⟩ = some (.int .i64 st.got) := L1.box.cell 7
  have cl := cloneB q (w.alloc (.cells #[.int .i64 0, .int .i64 0, .int .i64 0, .slice none 0 0] 39)).drew (HQ.out.below hal.drew) (by have := HN.out; omega)
  clear hal hX L1
  go_enter Try.func34, Try.ntmps34
  go_wp2_with fail
  refine wp_region_noPanic ?_
  refine wp_region_Z (S := (fun W => W.cell? ⟨f.lb, 3, none⟩ = some (.int .i64 st.ep) ∧ W.cell? ⟨f.lb, 7, none⟩ = some (.int .i64 st.got))) 12 (by kernel_rfl) ?_ (fun hHeld => ?_)
  · (first | go_keep | (go_split_ands; refine ⟨?_, ?_⟩ <;> assumption))
  refine wpAnyZ_take (i := 0) (oi := ⟨some 7, _, _, _, _, _⟩) (v := ?_) rfl (by kernel_rfl) (by kernel_rfl) (by kernel_rfl) (by kernel_rfl) (fun _ _ _ h => h) (Or.inl ⟨by rfl, ?hy1⟩) hHeld ?rest1
  case hy1 => (intro W hSw; (try dsimp only at hSw); go_simp; (try with_reducible rfl))
  simp only [Act.put, List.setIfInBounds_toArray, List.set_cons_zero, List.set_cons_succ]
  refine wpAnyZ_take (i := 1) (oi := ⟨some 8, _, _, _, _, _⟩) (v := ?_) rfl (by kernel_rfl) (by kernel_rfl) (by kernel_rfl) (by kernel_rfl) (fun _ _ _ h => h) (Or.inl ⟨by rfl, ?hy2⟩) hHeld ?rest2
  case hy2 => (intro W hSw; (try dsimp only at hSw); go_simp; (try with_reducible rfl))
  simp only [Act.put, List.setIfInBounds_toArray, List.set_cons_zero, List.set_cons_succ]
  refine wpAnyZ_take (i := 2) (oi := ⟨some 9, _, _, _, _, _⟩) (v := ?_) rfl (by kernel_rfl) (by kernel_rfl) (by kernel_rfl) (by kernel_rfl) (fun _ _ _ h => h) (Or.inl ⟨by rfl, ?hy3⟩) hHeld ?rest3
  case hy3 => (intro W hSw; (try dsimp only at hSw); go_simp; (try with_reducible rfl))
  simp only [Act.put, List.setIfInBounds_toArray, List.set_cons_zero, List.set_cons_succ]
  refine wpAnyZ_take (i := 3) (oi := ⟨some 10, _, _, _, _, _⟩) (v := ?_) rfl (by kernel_rfl) (by kernel_rfl) (by kernel_rfl) (by kernel_rfl) (fun _ _ _ h => h) (Or.inl ⟨by rfl, ?hy4⟩) hHeld ?rest4
  case hy4 => (intro W hSw; (try dsimp only at hSw); go_simp; (try with_reducible rfl))
  simp only [Act.put, List.setIfInBounds_toArray, List.set_cons_zero, List.set_cons_succ]
  refine wpAnyZ_take (i := 4) (oi := ⟨some 11, _, _, _, _, _⟩) (v := ?_) rfl (by kernel_rfl) (by kernel_rfl) (by kernel_rfl) (by kernel_rfl) (fun _ _ _ h => h) (Or.inl ⟨by rfl, ?hy5⟩) hHeld ?rest5
  case hy5 => (intro W hSw; (try dsimp only at hSw); go_simp; (try with_reducible rfl))
  simp only [Act.put, List.setIfInBounds_toArray, List.set_cons_zero, List.set_cons_succ]
  refine wpAnyZ_take (i := 5) (oi := ⟨some 12, _, _, _, _, _⟩) (v := ?_) rfl (by kernel_rfl) (by kernel_rfl) (by kernel_rfl) (by kernel_rfl) (fun _ _ _ h => h) (Or.inl ⟨by rfl, ?hy6⟩) hHeld ?rest6
  case hy6 => (intro W hSw; (try dsimp only at hSw); go_simp; (try with_reducible rfl))
  simp only [Act.put, List.setIfInBounds_toArray, List.set_cons_zero, List.set_cons_succ]
  refine wpAnyZ_take (i := 6) (oi := ⟨some 13, _, _, _, _, _⟩) (v := ?_) rfl (by kernel_rfl) (by kernel_rfl) (by kernel_rfl) (by kernel_rfl) (fun _ _ _ h => h) (Or.inl ⟨by rfl, ?hy7⟩) hHeld ?rest7
  case hy7 => (intro W hSw; (try dsimp only at hSw); go_simp; (try with_reducible rfl))
  simp only [Act.put, List.setIfInBounds_toArray, List.set_cons_zero, List.set_cons_succ]
  refine wpAnyZ_take (i := 7) (oi := ⟨some 14, _, _, _, _, _⟩) (v := ?_) rfl (by kernel_rfl) (by kernel_rfl) (by kernel_rfl) (by kernel_rfl) (fun _ _ _ h => h) (Or.inl ⟨by rfl, ?hy8⟩) hHeld ?rest8
  case hy8 => (intro W hSw; (try dsimp only at hSw); go_simp; (try with_reducible rfl))
  simp only [Act.put, List.setIfInBounds_toArray, List.set_cons_zero, List.set_cons_succ]
  refine wpAnyZ_take (i := 8) (oi := ⟨some 15, _, _, _, _, _⟩) (v := ?_) rfl (by kernel_rfl) (by kernel_rfl) (by kernel_rfl) (by kernel_rfl) (fun _ _ _ h => h) (Or.inl ⟨by rfl, ?hy9⟩) hHeld ?rest9
  case hy9 => (intro W hSw; (try dsimp only at hSw); go_simp; (try with_reducible rfl))
  simp only [Act.put, List.setIfInBounds_toArray, List.set_cons_zero, List.set_cons_succ]
  refine wpAnyZ_take (i := 9) (oi := ⟨some 16, _, _, _, _, _⟩) (v := ?_) rfl (by kernel_rfl) (by kernel_rfl) (by kernel_rfl) (by kernel_rfl) (fun _ _ _ h => h) (Or.inl ⟨by rfl, ?hy10⟩) hHeld ?rest10
  case hy10 => (intro W hSw; (try dsimp only at hSw); go_simp; (try with_reducible rfl))
  simp only [Act.put, List.setIfInBounds_toArray, List.set_cons_zero, List.set_cons_succ]
  refine wpAnyZ_ready (rs := [10]) (by kernel_rfl) (by simp) ?_
  refine (AllReadyZ.cons (o := ⟨some 17, _, _, _, _, _⟩) rfl (fun K hK => ?_) AllReadyZ.nil)
  go_simp
  go_at_call 31
  refine cl.mono ?_
  rintro e w2 ⟨g, rfl, hgi, hgv, hga, hb⟩
  have HB := Lib.hid (HAL.out.trans ((Below.mono (B' := w.heap.size) (below_two (Below.refl _ _).drew hb) HAL.out.size)))
  have hL2 := H0.out.bel HB.out
  have c32 : w2.cell? ⟨f.lb, 3, none⟩ = some (.int .i64 st.ep) := hL2.box.cell 3
  have c72 : w2.cell? ⟨f.lb, 7, none⟩ = some (.int .i64 st.got) := hL2.box.cell 7
  have HXB := Lib.hid (HX.out.drew.bel hb)
  have HG0 := Lib.hid (And.intro hgi (And.intro hgv hga))
  clear hL2 hgi hgv hga hb cl
  refine hK.out _ _ ?_ (fun hNew => ?_)
  · ((try dsimp only); (first | go_keep | (go_split_ands; refine ⟨?_, ?_⟩ <;> assumption)))
  clear hK K hHeld
  have hHeld := hNew
  clear hNew
  try simp only [Act.put, List.setIfInBounds_toArray, List.set_cons_zero, List.set_cons_succ]
  refine wpAnyZ_take (i := 11) (oi := ⟨some 18, _, _, _, _, _⟩) (v := ?_) rfl (by kernel_rfl) (by kernel_rfl) (by kernel_rfl) (by kernel_rfl) (fun _ _ _ h => h) (Or.inl ⟨by rfl, ?hy11⟩) hHeld ?rest11
  case hy11 => (intro W hSw; (try dsimp only at hSw); go_simp; (try with_reducible rfl))
  simp only [Act.put, List.setIfInBounds_toArray, List.set_cons_zero, List.set_cons_succ]
  refine wpAnyZ_ready (rs := [12]) (by kernel_rfl) (by simp) ?_
  refine AllReadyZ.last (o := ⟨none, _, _, _, _, _⟩) rfl (fun K hK => ?_) AllReadyZ.nil
  refine wp_store_row 39 _ _ rfl w.heap.size #[.int .i64 st.ep, .int .i64 n, .int .i64 st.got, .slice g.a g.n g.cap] rfl rfl 39 _ HXB.out (by kernel_rfl) rfl (by simp [Value.oneCell']) ?_
  refine hK.out _ _ ?_
  clear hK K hHeld
  try simp only [Act.put]
  refine wpAnyZ_done (by kernel_rfl) ?_ _
  refine NoPanic.normal ?_
  have HG : Hid (g.In .u8 (w2.setRow w.heap.size #[.int .i64 st.ep, .int .i64 n, .int .i64 st.got, .slice g.a g.n g.cap]) ∧ g.v = q.v ∧ (∀ x, g.a = some x → w.heap.size ≤ x.block) ∧ Below w.heap.size w (w2.setRow w.heap.size #[.int .i64 st.ep, .int .i64 n, .int .i64 st.got, .slice g.a g.n g.cap])) := Lib.hid ⟨rw_noK HG0.out.1 (X := 39) ⟨_, HXB.out, by intro u hu; simp at hu; rcases hu with rfl | rfl <;> first | exact noU_i64 _ | exact noU_slice _ _ _⟩ (grownBy_setRow _ _ _), HG0.out.2.1, fun x hx => Nat.le_trans HAL.out.size (HG0.out.2.2 x hx), below_setRow HB.out (Nat.le_refl _) HB.out.size⟩
  go_wp2_with fail
  refine bodyPost_ret (v := .agg #[.int .i64 st.ep, .int .i64 n, .int .i64 st.got, .slice g.a g.n g.cap]) (results_row Try.results34 rfl (Box.setRow HXB.out) (d := _) Try.underlying39 rfl (by kernel_rfl)) rfl ?_
  exact ⟨g, rfl, HG.out⟩

end Go.Proofs.Ytkinbngikmcpeaa
