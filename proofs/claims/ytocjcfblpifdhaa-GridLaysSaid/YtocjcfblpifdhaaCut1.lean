/-
  The functions that fill the rows of what Rows, Cols, Turn and Times answer: each is what filled asks.
-/
import Derived.Test.YtocjcfblpifdhaaFilled
import Derived.Deep.RegionHeld3
namespace Go.Proofs.Ytocjcfblpifdhaa
open Go.RowKit
set_option linter.unusedVariables false

/-- the row k of a table, laid by copy where row 'row' is asked -/
theorem fills_rows (R C : Nat) (hR : R ≤ 4096) (hC : C ≤ 4096) (a : Option Addr) (cap : Nat) (xs : List Int) (p q fr to : Nat) (w : World) (hb : Box3 w p (.int .i64 R) (.int .i64 C) (.slice a (R * C : Nat) cap)) (hq : q < w.heap.size)
    (hqc : w.cell? ⟨q, 0, none⟩ = some (.int .i64 fr)) (hE : Elems .i32 w a (R * C) xs) (hcap : R * C ≤ cap) (hcap2 : cap ≤ 9223372036854775807) (ha : Sl a cap) (hft : fr ≤ to) (htR : to ≤ R) :
    Fills Try.prog 42 #[.pointer (some ⟨p, 0, none⟩), .pointer (some ⟨q, 0, none⟩)] w 21 (to - fr) C (fun i j => xs.getD ((fr + i) * C + j) 0) := by
  intro W row d dcap g cs hrow hW hg hM hlen hd hdc hdc2 hz
  show Calls Try.prog 42 #[.int .i64 row, .slice d C dcap, .pointer (some ⟨p, 0, none⟩), .pointer (some ⟨q, 0, none⟩)] W _
  obtain ⟨h1, c0, c1, c2, _, _, _⟩ := hb.below hW
  have cq : W.cell? ⟨q, 0, none⟩ = some (.int .i64 fr) := (hW.cell (p := ⟨q, 0, none⟩) hq).trans hqc
  have hEW := hE.below hW
  obtain ⟨k, hk⟩ : ∃ k, k = fr + row := ⟨_, rfl⟩
  have ek : (fr : Int) + (row : Int) = (k : Int) := by rw [hk]; push_cast; rfl
  have hkR : k < R := by omega
  have hspot := hEW.spot
  have HS := Lib.hid hspot
  have HD := Lib.hid hd
  have HL := Lib.hid hlen
  have HK := Lib.hid hk
  clear hb hqc hE hspot hd hz hlen hk hW
  go_enter Try.func42, Try.ntmps42
  go_wp2_with fail
  refine (line_at R C k a cap _ hcap hcap2 ha.1 HS.out hR hC hkR).mono ?_
  rintro e wc ⟨⟨a', cap', rfl, hc1, hc2, ha'⟩, hbc⟩
  have hM' := hM.below hbc hM.lt
  have hE' := hEW.below hbc
  have hsrc : 0 < (rowOf xs C k).length → Elems .i32 wc a' (rowOf xs C k).length (rowOf xs C k) := fun hpos => by
    have hl : (rowOf xs C k).length = C := by unfold rowOf; have := row_le (C := C) hkR; have := hE'.1; simp; omega
    rw [hl] at hpos ⊢
    obtain ⟨b, off, rfl, rfl⟩ := ha' hpos
    exact rowOf_elems hE' hkR
  have hl : (rowOf xs C k).length = C := by unfold rowOf; have := row_le (C := C) hkR; have := hE'.1; simp; omega
  have hrs := rowSet_splice (f := fun i j => xs.getD ((fr + i) * C + j) 0) HL.out hrow (rowOf xs C k) hl (fun j hj => by rw [rowOf_at _ _ _ _ hj, HK.out])
  have hfit : row * C + (rowOf xs C k).length ≤ cs.length := by rw [hl, HL.out]; exact row_le hrow
  have HRS := Lib.hid hrs
  have HSRC := Lib.hid hsrc
  have HFIT := Lib.hid hfit
  have HLN := Lib.hid hl
  obtain ⟨ys, hys⟩ : ∃ ys, rowOf xs C k = ys := ⟨_, rfl⟩
  rw [hys] at HRS HSRC HFIT HLN
  have hg2 := grownBy_below hbc (some g)
  clear hsrc hrs hfit hl hys ha' hbc hM hEW hE'
  go_wp2_with (with_reducible refine wpList_copy_mine rfl (.tmp 6) (.tmp 11) 22 22 rfl 21 Try.underlying22 (by kernel_rfl) d a' C dcap C cap' rfl rfl g (row * C) cs 21 hM' ys ?c1 ?c2 HFIT.out ?c3)
  case c1 => rw [HLN.out]; exact (Nat.min_self C).symm
  case c2 => intro hpos; exact ⟨HD.out (by rw [HLN.out] at hpos; exact hpos), HSRC.out hpos⟩
  case c3 =>
    intro we hMe hge
    go_wp2
    go_end0
    exact ⟨rfl, _, hg2.trans hge, hMe, HRS.out⟩

theorem cols_walk (R C row fr to n : Nat) (a : Option Addr) (cap : Nat) (d : Option Addr) (dcap p q s g : Nat) (cs ys : List Int) (W : World) (a1 : Option Addr) (cap1 : Nat)
    (hb : Box3 W p (.int .i64 R) (.int .i64 C) (.slice a n cap)) (cq : W.cell? ⟨q, 0, none⟩ = some (.int .i64 fr)) (cs' : W.cell? ⟨s, 0, none⟩ = some (.int .i64 to)) (hq : q < W.heap.size) (hs : s < W.heap.size) (hpg : p < g) (hqg : q < g) (hsg : s < g)
    (hline : ∀ W', Calls Try.prog 37 #[.agg #[.int .i64 R, .int .i64 C, .slice a n cap], .int .i64 row] W' fun e w' => e = .returned (.slice a1 C cap1) ∧ Below W'.heap.size W' w')
    (hC : C ≤ 4096) (hft : fr ≤ to) (htC : to ≤ C) (hcap1 : C ≤ cap1) (hcap2 : cap1 ≤ 9223372036854775807) (hr : row ≤ 4096)
    (form : (a1 = none ∧ cap1 = 0) ∨ (∃ x, a1 = some x ∧ fr = cap1) ∨ (∃ b o, a1 = some ⟨b, o, none⟩ ∧ fr < cap1 ∧ (0 < ys.length → Elems .i32 W (some ⟨b, o + fr, none⟩) ys.length ys)))
    (hM : Mine W g 21 cs) (hl : ys.length = to - fr) (hd : 0 < to - fr → d = some ⟨g, row * (to - fr), none⟩) (hfit : row * (to - fr) + ys.length ≤ cs.length) :
    Calls Try.prog 43 #[.int .i64 row, .slice d (to - fr : Nat) dcap, .pointer (some ⟨p, 0, none⟩), .pointer (some ⟨q, 0, none⟩), .pointer (some ⟨s, 0, none⟩)] W fun x W' => x = .returned (.tuple #[]) ∧ W.grownBy W' (some g) ∧ Mine W' g 21 (splice cs (row * (to - fr)) ys) := by
  obtain ⟨h1, c0, c1, c2, _, _, _⟩ := hb
  obtain ⟨len, hlen⟩ : ∃ len, len = to - fr := ⟨_, rfl⟩
  have elen : (to : Int) - (fr : Int) = (len : Int) := by omega
  rw [← hlen] at hl hd hfit ⊢
  have HL := Lib.hid hlen
  have HD := Lib.hid hd
  have HFIT := Lib.hid hfit
  have HYL := Lib.hid hl
  have hgl := hM.lt
  clear hlen hd hfit hl
  rcases form with ⟨rfl, rfl⟩ | ⟨x, rfl, rfl⟩ | ⟨b, o, rfl, hlt, hsrc⟩
  · obtain rfl : C = 0 := by omega
    obtain rfl : to = 0 := by omega
    obtain rfl : fr = 0 := by omega
    have h0 : ys.length = 0 := by have := HL.out; have := HYL.out; omega
    have H0 := Lib.hid h0
    clear h0
    have hline2 : ∀ W', Calls Try.prog 37 #[.agg #[.int .i64 R, .int .i64 0, .slice a n cap], .int .i64 row] W' fun e w' => e = .returned (.slice none 0 0) ∧ Below W'.heap.size W' w' := hline
    replace cq : W.cell? ⟨q, 0, none⟩ = some (.int .i64 0) := cq
    replace cs' : W.cell? ⟨s, 0, none⟩ = some (.int .i64 0) := cs'
    replace c1 : W.cell? ⟨p, 1, none⟩ = some (.int .i64 0) := c1
    clear hline
    go_enter Try.func43, Try.ntmps43
    go_wp2_with fail
    go_region_held3 (fun w' => w'.cell? ⟨p, 0, none⟩ = some (.int .i64 R) ∧ w'.cell? ⟨p, 1, none⟩ = some (.int .i64 0) ∧ w'.cell? ⟨p, 2, none⟩ = some (.slice a n cap) ∧ w'.cell? ⟨q, 0, none⟩ = some (.int .i64 0) ∧ w'.cell? ⟨s, 0, none⟩ = some (.int .i64 0))
      (first | go_keep | (go_split_ands; refine ⟨?_, ?_, ?_, ?_, ?_⟩ <;> (rw [hcl _ _ (by simp; omega)]; assumption)) | (go_split_ands; refine ⟨?_, ?_, ?_, ?_, ?_⟩ <;> (refine hge.cell ?_ (by simp; omega); rw [hcl _ _ (by simp; omega)]; assumption)))
      ((go_at_call 37; (with_reducible refine (hline2 _).mono ?_); rintro e wc ⟨rfl, hbc⟩; obtain ⟨hcl, hfr⟩ := bcell hbc; have hMc : Mine wc g 21 cs := Mine.below (w := W.drew) hM hbc hgl
        obtain ⟨we, hrun, hMe, hge⟩ := run_copy_mine (P := Try.prog) 22 22 3 21 Try.underlying22 (by kernel_rfl) d none len dcap 0 0 g (row * len) cs 21 hMc ys (by rw [H0.out]; exact (Nat.zero_min _).symm) (by intro h; have := H0.out; omega) HFIT.out))
    go_wp2
    go_end0
    exact ⟨rfl, ((grownBy_drew W _).trans (grownBy_below hbc _)).trans hge, hMe⟩
  · obtain rfl : C = fr := by omega
    obtain rfl : to = C := by omega
    have h0 : ys.length = 0 := by have := HL.out; have := HYL.out; omega
    obtain rfl : len = 0 := by have := HL.out; omega
    have H0 := Lib.hid h0
    clear h0 elen
    go_enter Try.func43, Try.ntmps43
    go_wp2_with fail
    go_region_held3 (fun w' => w'.cell? ⟨p, 0, none⟩ = some (.int .i64 R) ∧ w'.cell? ⟨p, 1, none⟩ = some (.int .i64 to) ∧ w'.cell? ⟨p, 2, none⟩ = some (.slice a n cap) ∧ w'.cell? ⟨q, 0, none⟩ = some (.int .i64 to) ∧ w'.cell? ⟨s, 0, none⟩ = some (.int .i64 to))
      (first | go_keep | (go_split_ands; refine ⟨?_, ?_, ?_, ?_, ?_⟩ <;> (rw [hcl _ _ (by simp; omega)]; assumption)) | (go_split_ands; refine ⟨?_, ?_, ?_, ?_, ?_⟩ <;> (refine hge.cell ?_ (by simp; omega); rw [hcl _ _ (by simp; omega)]; assumption)))
      ((go_at_call 37; (with_reducible refine (hline _).mono ?_); rintro e wc ⟨rfl, hbc⟩; obtain ⟨hcl, hfr⟩ := bcell hbc; have hMc : Mine wc g 21 cs := Mine.below (w := W.drew) hM hbc hgl
        obtain ⟨we, hrun, hMe, hge⟩ := run_copy_mine (P := Try.prog) 22 22 3 21 Try.underlying22 (by kernel_rfl) d (some x) 0 dcap 0 0 g (row * 0) cs 21 hMc ys (by rw [H0.out]; rfl) (by intro h; have := H0.out; omega) HFIT.out))
    go_wp2
    go_end0
    exact ⟨rfl, ((grownBy_drew W _).trans (grownBy_below hbc _)).trans hge, hMe⟩
  · have z0 : (0 : Int) ≤ (fr : Int) := by omega
    have z1 : (fr : Int) ≤ (to : Int) := by omega
    have z2 : (to : Int) ≤ (C : Int) := by omega
    have z3 : (C : Int) ≤ (cap1 : Int) := by omega
    have z4 : (to : Int) ≤ (cap1 : Int) := by omega
    have z5 : (fr : Int) < (cap1 : Int) := by omega
    have HSRC := Lib.hid hsrc
    clear hsrc
    go_enter Try.func43, Try.ntmps43
    go_wp2_with fail
    go_region_held3 (fun w' => w'.cell? ⟨p, 0, none⟩ = some (.int .i64 R) ∧ w'.cell? ⟨p, 1, none⟩ = some (.int .i64 C) ∧ w'.cell? ⟨p, 2, none⟩ = some (.slice a n cap) ∧ w'.cell? ⟨q, 0, none⟩ = some (.int .i64 fr) ∧ w'.cell? ⟨s, 0, none⟩ = some (.int .i64 to))
      (first | go_keep | (go_split_ands; refine ⟨?_, ?_, ?_, ?_, ?_⟩ <;> (rw [hcl _ _ (by simp; omega)]; assumption)) | (go_split_ands; refine ⟨?_, ?_, ?_, ?_, ?_⟩ <;> (refine hge.cell ?_ (by simp; omega); rw [hcl _ _ (by simp; omega)]; assumption)))
      ((go_at_call 37; (with_reducible refine (hline _).mono ?_); rintro e wc ⟨rfl, hbc⟩; obtain ⟨hcl, hfr⟩ := bcell hbc; have hMc : Mine wc g 21 cs := Mine.below (w := W.drew) hM hbc hgl
        obtain ⟨we, hrun, hMe, hge⟩ := run_copy_mine (P := Try.prog) 22 22 3 21 Try.underlying22 (by kernel_rfl) d (some ⟨b, o + fr, none⟩) len dcap (to - fr) (cap1 - fr) g (row * len) cs 21 hMc ys (by rw [HYL.out, ← HL.out]; exact (Nat.min_self _).symm) (fun h => ⟨HD.out (by have := HYL.out; omega), (Elems.below (w := W.drew) (HSRC.out h) hbc)⟩) HFIT.out))
    go_wp2
    go_end0
    exact ⟨rfl, ((grownBy_drew W _).trans (grownBy_below hbc _)).trans hge, hMe⟩

theorem fills_cols (R C : Nat) (hR : R ≤ 4096) (hC : C ≤ 4096) (a : Option Addr) (cap : Nat) (xs : List Int) (p q s fr to : Nat) (w : World) (hb : Box3 w p (.int .i64 R) (.int .i64 C) (.slice a (R * C : Nat) cap)) (hq : q < w.heap.size) (hs : s < w.heap.size)
    (hqc : w.cell? ⟨q, 0, none⟩ = some (.int .i64 fr)) (hsc : w.cell? ⟨s, 0, none⟩ = some (.int .i64 to)) (hE : Elems .i32 w a (R * C) xs) (hcap : R * C ≤ cap) (hcap2 : cap ≤ 9223372036854775807) (ha : Sl a cap) (hft : fr ≤ to) (htC : to ≤ C) :
    Fills Try.prog 43 #[.pointer (some ⟨p, 0, none⟩), .pointer (some ⟨q, 0, none⟩), .pointer (some ⟨s, 0, none⟩)] w 21 R (to - fr) (fun i j => xs.getD (i * C + (fr + j)) 0) := by
  intro W row d dcap g cs hrow hW hg hM hlen hd hdc hdc2 hz
  show Calls Try.prog 43 #[.int .i64 row, .slice d (to - fr : Nat) dcap, .pointer (some ⟨p, 0, none⟩), .pointer (some ⟨q, 0, none⟩), .pointer (some ⟨s, 0, none⟩)] W _
  have hb' := hb.below hW
  have cq : W.cell? ⟨q, 0, none⟩ = some (.int .i64 fr) := (hW.cell (p := ⟨q, 0, none⟩) hq).trans hqc
  have cs' : W.cell? ⟨s, 0, none⟩ = some (.int .i64 to) := (hW.cell (p := ⟨s, 0, none⟩) hs).trans hsc
  have hEW := hE.below hW
  have hsz := hW.size
  have hp := hb.1
  have hl0 : (rowOf xs C row).length = C := by unfold rowOf; have := row_le (C := C) hrow; have := hE.1; simp; omega
  have hl : (((rowOf xs C row).drop fr).take (to - fr)).length = to - fr := by simp; omega
  have hrow2 := row_le (C := to - fr) hrow
  have fin : ∀ (a1 : Option Addr) (cap1 : Nat), (∀ W', Calls Try.prog 37 #[.agg #[.int .i64 R, .int .i64 C, .slice a (R * C : Nat) cap], .int .i64 row] W' fun e w' => e = .returned (.slice a1 C cap1) ∧ Below W'.heap.size W' w') →
      C ≤ cap1 → cap1 ≤ 9223372036854775807 →
      ((a1 = none ∧ cap1 = 0) ∨ (∃ x, a1 = some x ∧ fr = cap1) ∨ (∃ b o, a1 = some ⟨b, o, none⟩ ∧ fr < cap1 ∧ (0 < (((rowOf xs C row).drop fr).take (to - fr)).length → Elems .i32 W (some ⟨b, o + fr, none⟩) (((rowOf xs C row).drop fr).take (to - fr)).length (((rowOf xs C row).drop fr).take (to - fr))))) →
      Calls Try.prog 43 #[.int .i64 row, .slice d (to - fr : Nat) dcap, .pointer (some ⟨p, 0, none⟩), .pointer (some ⟨q, 0, none⟩), .pointer (some ⟨s, 0, none⟩)] W fun x W' => x = .returned (.tuple #[]) ∧ ∃ cs', W.grownBy W' (some g) ∧ Mine W' g 21 cs' ∧ RowSet (fun i j => xs.getD (i * C + (fr + j)) 0) R (to - fr) row cs cs' := by
    intro a1 cap1 hline h1 h2 form
    refine (cols_walk R C row fr to (R * C) a cap d dcap p q s g cs _ W a1 cap1 hb' cq cs' (by omega) (by omega) (by omega) (by omega) (by omega) hline hC hft htC h1 h2 (by omega) form hM hl hd (by rw [hl, hlen]; exact hrow2)).mono ?_
    rintro e w' ⟨rfl, hg2, hM2⟩
    refine ⟨rfl, _, hg2, hM2, rowSet_splice hlen hrow _ hl fun j hj => ?_⟩
    rw [List.getD_eq_getElem?_getD, List.getElem?_take_of_lt hj, List.getElem?_drop, ← List.getD_eq_getElem?_getD, rowOf_at _ _ _ _ (by omega)]
  by_cases hC0 : 0 < C
  · have hrc := row_le (C := C) hrow
    obtain ⟨b, off, rfl, _⟩ := hE.2.2.2 (by omega)
    refine fin _ _ (fun W' => line_any R C row b off cap W' hcap hcap2 hR hC hC0 hrow) (by omega) (by omega) (.inr ?_)
    by_cases hlt : fr < cap - row * C
    · refine .inr ⟨b, off + row * C, rfl, hlt, fun _ => ?_⟩
      rw [hl]
      exact ((rowOf_elems hEW hrow).drop fr (by omega)).take (to - fr) (by omega)
    · exact .inl ⟨_, rfl, by omega⟩
  · obtain rfl : C = 0 := by omega
    cases a with
    | none =>
      obtain rfl := ha.1 rfl
      exact fin none 0 (fun W' => line_zero R row none 0 W' hcap2 (fun _ => rfl)) (by omega) hcap2 (.inl ⟨rfl, rfl⟩)
    | some x =>
      refine fin (some x) cap (fun W' => line_zero R row (some x) cap W' hcap2 (fun h => by cases h)) (by omega) hcap2 (.inr ?_)
      by_cases h0 : 0 < cap
      · obtain ⟨b, off, spot⟩ := x
        have := ha.2 _ rfl h0
        simp only at this
        subst this
        exact .inr ⟨b, off, rfl, by omega, fun h => by rw [hl] at h; omega⟩
      · exact .inl ⟨x, rfl, by omega⟩

end Go.Proofs.Ytocjcfblpifdhaa
