/-
  Contracts of the document's Split and of the code's: which frames bytes begin with.
-/
import Derived.Test.YtpcnikbggpodgaaParse14
import Derived.Test.YtpcnikbggpodgaaListR
namespace Go.Proofs.Ytpcnikbggpodgaa
open Go.RowKit
set_option linter.unusedVariables false

theorem bg_eq (ys : List Int) : bg ys = (decide ((dsz ys).2 = 0) && (decide ((dsz ys).1 ≤ ys.length) && sd (ys.take (dsz ys).1))) := by
  unfold bg
  by_cases h : (csz ys).2 = 0
  · obtain ⟨h1, h2, h3⟩ := csz_ok h
    rw [decide_eq_true h, decide_eq_true h1, decide_eq_true h2, h3]
    rfl
  · rw [decide_eq_false h, Bool.false_and]
    by_cases h1 : (dsz ys).2 = 0
    · by_cases h2 : (dsz ys).1 ≤ ys.length
      · exfalso
        apply h
        unfold csz
        rw [if_neg (by simpa using h1), if_neg (by omega)]
      · rw [decide_eq_false h2]; simp
    · rw [decide_eq_false h1]; simp

/-- a round of the document's Split: what stands ahead of it -/
structure DSplI (base : Nat) (w0 : World) (xs : List Int) (n : Nat) (k m : Nat) (fs : List (List Int)) (ys : List Int) (v : Value) (w : World) : Prop where
  sp : SplitI xs fs ys
  len : fs.flatten.length = k
  le : k ≤ n
  m_ : fs.length = m
  ml : m ≤ k
  own : w.ownsRow base 3 1 v m ((ends14 fs).map (.int .i64))
  bel : Below base w0 w

theorem dsize_none (a : Option Addr) (c : Nat) (w : World) : Calls Try.prog 23 #[.slice a 0 c] w fun e w' => e = .returned (.tuple #[.int .i64 0, .int .i64 70]) ∧ w' = w := by
  go_enter Try.func23, Try.ntmps23
  go_wp2
  go_ret2
  exact ⟨rfl, rfl⟩

set_option maxHeartbeats 3200000 in
theorem dsplit14 (q : Rw) (w : World) (h : q.In .u8 w) (hn : q.n ≤ 1000000) :
    Calls Try.prog 14 #[.slice q.a q.n q.cap] w fun e w' => ∃ (fs : List (List Int)) (r : List Int) (v : Value), e = .returned v ∧ SplitR q.v fs r ∧ w'.ownsRow w.heap.size 3 1 v fs.length ((ends14 fs).map (.int .i64)) ∧ fs.length ≤ q.n ∧ Below w.heap.size w w' := by
  obtain ⟨a, n, cap, xs⟩ := q
  have HQ := Lib.hid h
  have hl : xs.length = n := h.1.1
  have HL := Lib.hid hl
  have hcap : n ≤ cap := h.2.1
  have hcap2 : cap ≤ 9223372036854775807 := h.2.2.1
  simp only at hn ⊢
  clear h hl
  go_enter Try.func14, Try.ntmps14
  go_wp2_with fail
  go_loopw [3, 4] (fun v at_ wr => ∃ (k m : Nat) (fs : List (List Int)) (ys : List Int), at_ = .int .i64 k ∧ Hid (DSplI w.heap.size w xs n k m fs ys v wr)) (fun _ at_ _ => n - (intOf at_).toNat)
  case atStart => exact ⟨0, 0, [], xs, rfl, Lib.hid ⟨SplitI.start xs, rfl, by omega, rfl, by omega, own_nil _ _ _, Below.refl _ _⟩⟩
  case round =>
    obtain ⟨k, m, fs, ys, rfl, HI⟩ := hrel
    have hk := HI.out.le
    have hys : Hid (ys = xs.drop k) := Lib.hid (by have := HI.out.sp.1; rw [this, ← HI.out.len, List.drop_left])
    have hyl : Hid (ys.length = n - k) := Lib.hid (by rw [hys.out, List.length_drop, HL.out])
    by_cases hlt : k < n
    · obtain ⟨b, off, x0, rfl, _, _, _⟩ := HQ.out.1.at_ (show 0 < n by omega)
      have hE : Elems .u8 wr (some ⟨b, off, none⟩) n xs := (HQ.out.below HI.out.bel).1
      have hq : Rw.In .u8 wr ⟨some ⟨b, off + k, none⟩, n - k, cap - k, ys⟩ := ⟨by rw [hys.out]; exact hE.drop k hk, by show n - k ≤ cap - k; omega, by show cap - k ≤ _; omega, ⟨fun e => (by cases e), fun x e _ => (by cases e; rfl)⟩⟩
      have hS := dsize14 _ wr hq
      unfold DSizeE at hS
      simp only at hS
      have hbg := bg_eq ys
      obtain ⟨N, hN⟩ : ∃ N, n - k = N := ⟨_, rfl⟩
      have t1 : (n : Int) - (k : Int) = (N : Int) := by omega
      have s0 : (0 : Int) ≤ (k : Int) := by omega
      have s1 : (k : Int) ≤ (n : Int) := by omega
      have s2 : ¬ cap = k := by omega
      have s3 : ¬ k = cap := by omega
      have s4 : k ≤ cap := by omega
      have s5 : (k : Int) ≤ (cap : Int) := by omega
      have s6 : IntKind.i64.wrap (N : Int) = (N : Int) := IntWalk.i64_in _ (by omega)
      have HB := Lib.hid HI.out.bel
      rw [hN] at hS hq hyl
      by_cases h1 : (dsz ys).2 = 0
      · rw [h1] at hS
        rw [decide_eq_true h1, Bool.true_and] at hbg
        have hok := dsz_ok h1
        have h12 : 12 ≤ (dsz ys).1 ∧ (dsz ys).1 ≤ 1048588 := by rw [hok.2.2.2.2.2]; simp only; have := hok.2.2.2.2.1; omega
        by_cases h2 : (dsz ys).1 ≤ N
        · rw [decide_eq_true (show (dsz ys).1 ≤ ys.length by rw [hyl.out]; exact h2), Bool.true_and] at hbg
          have hcs : csz ys = ((dsz ys).1, 0) := by unfold csz; rw [if_neg (by simpa using h1), if_neg (by rw [hyl.out]; omega)]
          have hft := flt_take (xs := ys) (by rw [hcs])
          rw [hcs] at hft
          simp only at hft
          have hqt : Rw.In .u8 wr ⟨some ⟨b, off + k, none⟩, (dsz ys).1, cap - k, ys.take (dsz ys).1⟩ := ⟨hq.1.take _ h2, by show (dsz ys).1 ≤ cap - k; omega, by show cap - k ≤ _; omega, ⟨fun e => (by cases e), fun x e _ => (by cases e; rfl)⟩⟩
          have hF := fun d => dfault14 _ (wr.drewN d) (show Rw.In .u8 (wr.drewN d) _ from hqt) (by show (dsz ys).1 ≤ _; omega)
          unfold FaultE at hF
          simp only at hF
          have HST := fun hb => Lib.hid (HI.out.sp.step (ys := ys) hb)
          rw [hcs] at HST
          simp only at HST
          generalize (dsz ys).1 = S at *
          have HBG := Lib.hid hbg
          have HFT := Lib.hid hft
          generalize flt (ys.take S) = f at hF HFT
          have t2 : ¬ (N : Int) < (S : Int) := by omega
          have t3 : (S : Int) ≤ (N : Int) := by omega
          obtain ⟨E, hE2⟩ : ∃ E, k + S = E := ⟨_, rfl⟩
          have t4 : (k : Int) + (S : Int) = (E : Int) := by omega
          have t5 : (E : Int) ≤ (cap : Int) := by omega
          have t6 : E ≤ cap := by omega
          have t7 : k ≤ E := by omega
          have t8 : (k : Int) ≤ (E : Int) := by omega
          have t9 : E - k = S := by omega
          have t10 : (E : Int) - (k : Int) = (S : Int) := by omega
          have t11 : IntKind.i64.wrap (E : Int) = (E : Int) := IntWalk.i64_in _ (by omega)
          have HE2 := Lib.hid hE2
          clear hbg hft hqt hok hE hcs hq h1 hE2
          cases hsd : sd (ys.take S) with
          | true =>
            have hF0 : f = 0 := by rw [HFT.out, hsd]; rfl
            have hb1 : bg ys = true := by rw [HBG.out, hsd]
            have HST2 := HST hb1
            subst hF0
            clear hsd hb1 HST
            go_wp2_with fail
            refine hS.mono ?_
            rintro e w4 ⟨rfl, d, rfl⟩
            clear hS
            go_wp2_with fail
            refine (hF d).mono ?_
            rintro e w5 ⟨rfl, hb5⟩
            have hB5 : Below wr.heap.size wr w5 := below_two (below_drewN (Below.refl _ _) d) hb5
            have ho5 : w5.ownsRow w.heap.size 3 1 u3 m ((ends14 fs).map (.int .i64)) := own_below HI.out.own hB5
            have HB5 : Hid (Below w.heap.size w w5) := Lib.hid (HB.out.trans (hB5.mono HB.out.size))
            obtain ⟨v6, w6, hr6, ho6, hg6, _⟩ := run_append_lits (P := Try.prog) .i64 w5 w.heap.size 35 3 8 (by omega) Try.underlying35 info_int _ m 1 _ [(E : Int)] _ rfl rfl ho5 (by have := HI.out.ml; omega) (by omega) HB5.out.size
            have HB6 : Hid (Below w.heap.size w w6) := Lib.hid (HB5.out.grown hg6 HB5.out.size (fun q hq => (ho5.lt q hq).1))
            have HO6 := Lib.hid ho6
            clear hF hb5 hB5 ho5 ho6 hg6
            go_wp2_with (at_builtin; refine wpList_append_at (by rfl) _ _ _ (by rfl) _ _ (by rfl) (by rfl) hr6 ?_)
            go_roundw
            case rel =>
              refine ⟨E, m + 1, fs ++ [ys.take S], ys.drop S, rfl, Lib.hid ⟨HST2.out, ?_, by omega, by rw [List.length_append, HI.out.m_]; rfl, by have := HI.out.ml; omega, ?_, HB6.out⟩⟩
              · rw [List.flatten_append, List.length_append, HI.out.len]; simp only [List.flatten_cons, List.flatten_nil, List.append_nil, List.length_take, hyl.out]; omega
              · rw [ends_snoc]
                have : (((fs ++ [ys.take S]).flatten.length : Nat) : Int) = (E : Int) := by
                  rw [List.flatten_append, List.length_append, HI.out.len]; simp only [List.flatten_cons, List.flatten_nil, List.append_nil, List.length_take, hyl.out]; omega
                rw [this]
                exact HO6.out
            case measure => simp [intOf]; omega
          | false =>
            have hF0 : f = 73 := by rw [HFT.out, hsd]; rfl
            have HBF : Hid (bg ys = false) := Lib.hid (by rw [HBG.out, hsd])
            subst hF0
            clear hsd HST
            go_wp2_with fail
            refine hS.mono ?_
            rintro e w4 ⟨rfl, d, rfl⟩
            clear hS
            go_wp2_with fail
            refine (hF d).mono ?_
            rintro e w5 ⟨rfl, hb5⟩
            have hB5 : Below wr.heap.size wr w5 := below_two (below_drewN (Below.refl _ _) d) hb5
            have HOWN : Hid (w5.ownsRow w.heap.size 3 1 u3 fs.length ((ends14 fs).map (.int .i64))) := Lib.hid (by rw [HI.out.m_]; exact own_below HI.out.own hB5)
            have HB5 : Hid (Below w.heap.size w w5) := Lib.hid (HB.out.trans (hB5.mono HB.out.size))
            clear hF hb5 hB5
            go_wp2_with fail
            go_ret
            exact ⟨fs, ys, u3, rfl, HI.out.sp.fin HBF.out, HOWN.out, by have := HI.out.ml; have := HI.out.m_; omega, HB5.out⟩
        · have HBF : Hid (bg ys = false) := Lib.hid (by rw [hbg, decide_eq_false (show ¬ (dsz ys).1 ≤ ys.length by rw [hyl.out]; exact h2), Bool.false_and])
          generalize (dsz ys).1 = S at hS h2
          have t2 : (N : Int) < (S : Int) := by omega
          have t3 : ¬ (S : Int) ≤ (N : Int) := by omega
          clear hbg hok hE hq h1 h12
          go_wp2_with fail
          refine hS.mono ?_
          rintro e w4 ⟨rfl, d, rfl⟩
          clear hS
          have hB5 : Below wr.heap.size wr (wr.drewN d) := below_drewN (Below.refl _ _) d
          have HOWN : Hid ((wr.drewN d).ownsRow w.heap.size 3 1 u3 fs.length ((ends14 fs).map (.int .i64))) := Lib.hid (by rw [HI.out.m_]; exact own_below HI.out.own hB5)
          have HB5 : Hid (Below w.heap.size w (wr.drewN d)) := Lib.hid (HB.out.trans (hB5.mono HB.out.size))
          clear hB5
          go_wp2_with fail
          go_ret
          exact ⟨fs, ys, u3, rfl, HI.out.sp.fin HBF.out, HOWN.out, by have := HI.out.ml; have := HI.out.m_; omega, HB5.out⟩
      · have HBF : Hid (bg ys = false) := Lib.hid (by rw [hbg, decide_eq_false h1, Bool.false_and])
        generalize (dsz ys).1 = S at hS
        generalize (dsz ys).2 = f at hS h1
        have t2 : ((f : Int) != 0) = true := by simp; omega
        clear hbg hE hq h1
        go_wp2_with fail
        refine hS.mono ?_
        rintro e w4 ⟨rfl, d, rfl⟩
        clear hS
        have hB5 : Below wr.heap.size wr (wr.drewN d) := below_drewN (Below.refl _ _) d
        have HOWN : Hid ((wr.drewN d).ownsRow w.heap.size 3 1 u3 fs.length ((ends14 fs).map (.int .i64))) := Lib.hid (by rw [HI.out.m_]; exact own_below HI.out.own hB5)
        have HB5 : Hid (Below w.heap.size w (wr.drewN d)) := Lib.hid (HB.out.trans (hB5.mono HB.out.size))
        clear hB5
        go_wp2_with fail
        go_ret
        exact ⟨fs, ys, u3, rfl, HI.out.sp.fin HBF.out, HOWN.out, by have := HI.out.ml; have := HI.out.m_; omega, HB5.out⟩
    · obtain rfl : k = n := by omega
      obtain rfl : ys = [] := List.length_eq_zero_iff.1 (by rw [hyl.out]; omega)
      have HBF : Hid (bg [] = false) := Lib.hid rfl
      have HB := Lib.hid HI.out.bel
      have HN : Hid (∀ a' c', Calls Try.prog 23 #[.slice a' 0 c'] wr fun e w' => e = .returned (.tuple #[.int .i64 0, .int .i64 70]) ∧ w' = wr) := Lib.hid (fun a' c' => dsize_none a' c' wr)
      have HOWN : Hid (wr.ownsRow w.heap.size 3 1 u3 fs.length ((ends14 fs).map (.int .i64))) := Lib.hid (by rw [HI.out.m_]; exact HI.out.own)
      by_cases hc : cap = k
      · subst hc
        go_wp2_with fail
        refine (HN.out _ _).mono ?_
        rintro e w4 ⟨rfl, rfl⟩
        go_wp2_with fail
        go_ret
        exact ⟨fs, [], u3, rfl, HI.out.sp.fin HBF.out, HOWN.out, by have := HI.out.ml; have := HI.out.m_; omega, HB.out⟩
      · have hc2 : ¬ k = cap := fun e => hc e.symm
        go_wp2_with fail
        refine (HN.out _ _).mono ?_
        rintro e w4 ⟨rfl, rfl⟩
        go_wp2_with fail
        go_ret
        exact ⟨fs, [], u3, rfl, HI.out.sp.fin HBF.out, HOWN.out, by have := HI.out.ml; have := HI.out.m_; omega, HB.out⟩

theorem info_su8 : (Try.prog.info? 22).map (fun i => (i.zero, i.size, i.bytes)) = some (some (.slice none 0 0), 1, 24) := by kernel_rfl
/-- a round of the code's Split: what stands ahead of it -/
structure CSplI (base : Nat) (w0 : World) (xs : List Int) (n : Nat) (qb : Rw) (m : Nat) (fs : List (List Int)) (qs : List Rw) (v : Value) (w : World) : Prop where
  sp : SplitI xs fs qb.v
  inn : qb.In .u8 w
  rows : ListR .u8 22 w base v m qs
  vals : qs.map (fun q => q.v) = fs
  le : m + qb.n ≤ n
  bel : Below base w0 w
/-- the length of a slice that a slot holds -/
def lenOf (v : Value) : Nat := match v with | .slice _ n _ => n | _ => 0
/-- what Split answers -/
def SplitE (xs : List Int) (w : World) (e : Ending) (w' : World) : Prop := ∃ (fs : List (List Int)) (r : List Int) (v : Value) (qs : List Rw) (g : Rw), e = .returned (.tuple #[v, .slice g.a g.n g.cap]) ∧ SplitR xs fs r ∧ ListR .u8 22 w' w.heap.size v fs.length qs ∧ qs.map (fun q => q.v) = fs ∧ g.In .u8 w' ∧ g.v = r ∧ Below w.heap.size w w'

set_option maxHeartbeats 3200000 in
theorem split14 (q : Rw) (w : World) (h : q.In .u8 w) (hn : q.n ≤ 1000000) : Calls Try.prog 15 #[.slice q.a q.n q.cap] w fun e w' => SplitE q.v w e w' := by
  obtain ⟨a, n, cap, xs⟩ := q
  have HQ := Lib.hid h
  simp only at hn ⊢
  clear h
  go_enter Try.func15, Try.ntmps15
  go_wp2_with fail
  go_loopw [0, 4] (fun b v wr => ∃ (qb : Rw) (m : Nat) (fs : List (List Int)) (qs : List Rw), b = .slice qb.a qb.n qb.cap ∧ Hid (CSplI w.heap.size w xs n qb m fs qs v wr)) (fun b _ _ => lenOf b)
  case atStart => exact ⟨⟨a, n, cap, xs⟩, 0, [], [], rfl, Lib.hid ⟨SplitI.start xs, HQ.out, listR_nil _ _ _ _, rfl, by simp, Below.refl _ _⟩⟩
  case round =>
    obtain ⟨qb, m, fs, qs, rfl, HI⟩ := hrel
    have HEX : Hid (∀ w2 e w3, Below wr.heap.size wr w2 → CopyU qb.v w2 e w3 → bg qb.v = false → ∃ g : Rw, e = .returned (.slice g.a g.n g.cap) ∧ SplitE xs w (.returned (.tuple #[u4, .slice g.a g.n g.cap])) w3) := Lib.hid (fun w2 e w3 hb hc hbg => by
      obtain ⟨g, rfl, hg, hgv, _, hb3⟩ := hc
      have hb4 := below_two hb hb3
      have hm : fs.length = m := by have := HI.out.rows.len; rw [← HI.out.vals, List.length_map]; exact this
      exact ⟨g, rfl, fs, qb.v, u4, qs, g, rfl, HI.out.sp.fin hbg, by rw [hm]; exact HI.out.rows.bel hb4, HI.out.vals, hg, hgv, HI.out.bel.trans (hb4.mono HI.out.bel.size)⟩)
    have hin := HI.out.inn
    have hle := HI.out.le
    have hS := size14 qb wr hin
    unfold SizeE at hS
    by_cases h1 : (csz qb.v).2 = 0
    · have hl := csz_le h1
      have hql : qb.v.length = qb.n := hin.1.1
      obtain ⟨qa, N, cp, ys⟩ := qb
      simp only at *
      obtain ⟨b, off, x0, rfl, _, _, _⟩ := hin.1.at_ (show 0 < N by omega)
      have hE : Elems .u8 wr (some ⟨b, off, none⟩) N ys := hin.1
      have hc1 : N ≤ cp := hin.2.1
      have hc2 : cp ≤ 9223372036854775807 := hin.2.2.1
      rw [h1] at hS
      have hbg : bg ys = sd (ys.take (csz ys).1) := by unfold bg; rw [decide_eq_true h1, Bool.true_and]
      have hST := fun hb => Lib.hid (HI.out.sp.step (ys := ys) hb)
      have HCZ := Lib.hid h1
      generalize (csz ys).1 = S at *
      have hqt : Rw.In .u8 wr ⟨some ⟨b, off, none⟩, S, cp, ys.take S⟩ := ⟨hE.take S (by omega), by show S ≤ cp; omega, hc2, ⟨fun e => (by cases e), fun x e _ => (by cases e; rfl)⟩⟩
      have hso := fun d => sound14 _ (wr.drewN d) (show Rw.In .u8 (wr.drewN d) _ from hqt) (by show 4 ≤ S; omega)
      simp only at hso
      have s1 : S ≤ cp := by omega
      have s2 : (S : Int) ≤ (cp : Int) := by omega
      have s3 : (0 : Int) ≤ (S : Int) := by omega
      have s4 : (S : Int) ≤ (N : Int) := by omega
      have s5 : S ≤ N := by omega
      cases hsd : sd (ys.take S) with
      | true =>
        have HST := hST (hbg.trans hsd)
        rw [hsd] at hso
        have HQT := Lib.hid hqt
        have HE := Lib.hid hE
        obtain ⟨M, hM⟩ : ∃ M, N - S = M := ⟨_, rfl⟩
        have t1 : (N : Int) - (S : Int) = (M : Int) := by omega
        have hS12 : 12 ≤ S := hl.1
        clear hsd hST hbg hqt hE hin h1 hl HCZ
        go_wp2_with fail
        refine hS.mono ?_
        rintro e w4 ⟨rfl, d, rfl⟩
        clear hS
        go_wp2_with fail
        refine (hso d).mono ?_
        rintro e w5 ⟨rfl, hb5⟩
        have hB5 : Below wr.heap.size wr w5 := below_two (below_drewN (Below.refl _ _) d) hb5
        have HB5 := Lib.hid hB5
        have P5 := clone14 _ w5 (HQT.out.below hB5) (by show S ≤ _; omega)
        simp only at P5
        clear hso hb5 hB5
        go_wp2_with fail
        refine P5.mono ?_
        rintro e w6 ⟨g, rfl, hg, hgv, _, hb6⟩
        have hB6 := below_two HB5.out hb6
        have hW6 : Below w.heap.size w w6 := HI.out.bel.trans (hB6.mono HI.out.bel.size)
        obtain ⟨gv, gc, w7, hr7, hR7, hbel7, hst7, _⟩ := (HI.out.rows.bel hB6).next Try.underlying33 info_su8 g hg (by omega) hW6.size
        have HR7 := Lib.hid hR7
        have HB7 := Lib.hid (hbel7 w hW6)
        have HG := Lib.hid hgv
        have hq7 := hst7 _ (HI.out.inn.below hB6)
        have HE7 : Hid (Elems .u8 w7 (some ⟨b, off, none⟩) N ys) := Lib.hid hq7.1
        clear P5 hb6 hB6 hW6 hR7 hbel7 hst7 hq7 hg hgv
        go_upto_region 6 with (at_builtin; refine wpList_append_at (by rfl) _ _ _ (by rfl) _ _ (by rfl) (by rfl) hr7 ?_)
        clear hr7
        by_cases hcS : cp = S
        · subst hcS
          have hM0 : M = 0 := by omega
          go_wp2_with fail
          go_roundw
          case rel =>
            refine ⟨⟨some ⟨b, off, none⟩, 0, 0, ys.drop cp⟩, m + 1, fs ++ [ys.take cp], qs ++ [g], rfl, Lib.hid ⟨HST.out, ?_, HR7.out, by rw [List.map_append, HI.out.vals]; simp [HG.out], ?_, HB7.out⟩⟩
            · refine ⟨Elems.empty _ (by rw [List.length_drop, hql]; show N - cp = 0; omega) rfl, by show 0 ≤ 0; omega, by show 0 ≤ _; omega, ⟨fun e => (by cases e), fun x e _ => (by cases e; rfl)⟩⟩
            · have hx : m + N ≤ n := HI.out.le; show m + 1 + 0 ≤ n; omega
          case measure => simp [lenOf]; omega
        · have hcS2 : ¬ S = cp := fun e => hcS e.symm
          go_wp2_with fail
          go_roundw
          case rel =>
            refine ⟨⟨some ⟨b, off + S, none⟩, M, cp - S, ys.drop S⟩, m + 1, fs ++ [ys.take S], qs ++ [g], rfl, Lib.hid ⟨HST.out, ?_, HR7.out, by rw [List.map_append, HI.out.vals]; simp [HG.out], ?_, HB7.out⟩⟩
            · refine ⟨by rw [← hM]; exact HE7.out.drop S s5, by show M ≤ cp - S; omega, by show cp - S ≤ _; omega, ⟨fun e => (by cases e), fun x e _ => (by cases e; rfl)⟩⟩
            · have hx : m + N ≤ n := HI.out.le; show m + 1 + M ≤ n; omega
          case measure => simp [lenOf]; omega
      | false =>
        have HBF := Lib.hid (hbg.trans hsd)
        rw [hsd] at hso
        clear hsd hST hbg hqt hE h1 hl HCZ
        have HIN := Lib.hid hin
        clear hin
        go_wp2_with fail
        refine hS.mono ?_
        rintro e w4 ⟨rfl, d, rfl⟩
        clear hS
        go_wp2_with fail
        refine (hso d).mono ?_
        rintro e w5 ⟨rfl, hb5⟩
        have hB5 : Below wr.heap.size wr w5 := below_two (below_drewN (Below.refl _ _) d) hb5
        have HB5 := Lib.hid hB5
        have P5 := clone14 _ w5 (HIN.out.below hB5) (by show N ≤ _; omega)
        simp only at P5
        clear hso hb5 hB5
        go_wp2_with fail
        refine P5.mono ?_
        intro e w6 hc6
        obtain ⟨g, rfl, hfin⟩ := HEX.out w5 e w6 HB5.out hc6 HBF.out
        have HFIN := Lib.hid hfin
        clear P5 hc6 hfin HEX
        go_wp2_with fail
        go_ret2
        exact HFIN.out
    · have HBF : Hid (bg qb.v = false) := Lib.hid (by unfold bg; rw [decide_eq_false h1, Bool.false_and])
      generalize (csz qb.v).2 = f at hS h1
      generalize (csz qb.v).1 = S at hS
      have t2 : ((f : Int) != 0) = true := by simp; omega
      have P5 := fun d => clone14 qb (wr.drewN d) (show Rw.In .u8 (wr.drewN d) qb from hin) (by omega)
      clear hin h1
      go_wp2_with fail
      refine hS.mono ?_
      rintro e w4 ⟨rfl, d, rfl⟩
      clear hS
      go_wp2_with fail
      refine (P5 d).mono ?_
      intro e w6 hc6
      obtain ⟨g, rfl, hfin⟩ := HEX.out _ e w6 (below_drewN (Below.refl _ _) d) hc6 HBF.out
      have HFIN := Lib.hid hfin
      clear P5 hc6 hfin HEX
      go_wp2_with fail
      go_ret2
      exact HFIN.out

end Go.Proofs.Ytpcnikbggpodgaa
