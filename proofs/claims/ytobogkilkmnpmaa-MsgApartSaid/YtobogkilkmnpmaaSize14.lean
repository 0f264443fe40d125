/-
  Contracts of the code's size and sound, and of the document's Size.
-/
import Derived.Test.YtobogkilkmnpmaaPut14
import Derived.Deep.RegionHeld3
import Derived.Deep.RegionLaw
import Derived.Deep.CutRange
namespace Go.Proofs.Ytobogkilkmnpmaa
open Go.RowKit
set_option linter.unusedVariables false

theorem pl_eq {xs : List Int} (hw : ∀ x ∈ xs, (Lit.int .u8 x).wf = true) (hl : 2 ≤ xs.length) : ((strOfNums (xs.take 2)).toList == [80, 76]) = decide (xs.getD 0 0 = 80 ∧ xs.getD 1 0 = 76) := by
  have e : ([80, 76] : List UInt8) = (strOfNums [80, 76]).toList := by rw [ba_toList]; rfl
  rw [e, str14_eq (fun x hx => hw x (List.mem_of_mem_take hx)) (by decide)]
  match xs, hl with
  | a :: b :: zs, _ => simp

/-- what size answers -/
def SizeE (xs : List Int) (e : Ending) : Prop := e = .returned (.tuple #[.int .i64 ((csz xs).1 : Nat), .int .i64 ((csz xs).2 : Nat)])

set_option maxHeartbeats 1600000 in
theorem size14 (q : Rw) (w : World) (h : q.In .u8 w) : Calls Try.prog 42 #[.slice q.a q.n q.cap] w fun e w' => SizeE q.v e ∧ ∃ d, w' = w.drewN d := by
  obtain ⟨a, n, cap, xs⟩ := q
  have hE : Elems .u8 w a n xs := h.1
  have hcap : n ≤ cap := h.2.1
  have hcap2 : cap ≤ 9223372036854775807 := h.2.2.1
  have hl := hE.1
  simp only
  clear h
  by_cases h12 : n < 12
  · have H : Hid (csz xs = (0, 70)) := Lib.hid (by unfold csz dsz; rw [if_pos (show xs.length < 12 by omega)]; simp)
    clear hE hl
    go_enter Try.func42, Try.ntmps42
    go_wp2
    go_ret2
    exact ⟨by unfold SizeE; rw [H.out]; rfl, 0, rfl⟩
  · obtain ⟨b, off, x0, rfl, c0, hx0, _⟩ := hE.at_ (show 0 < n by omega)
    obtain ⟨b', off', x1, he, c1, hx1, _⟩ := hE.at_ (show 1 < n by omega)
    cases he
    obtain ⟨b', off', x2, he, c2, hx2, wx2⟩ := hE.at_ (show 2 < n by omega)
    cases he
    have hpl := pl_eq hE.2.2.1 (show 2 ≤ xs.length by omega)
    have hcv := conv_u8 (cap := cap) (hE.take 2 (by omega))
    generalize strOfNums (xs.take 2) = str at hpl hcv
    have HT := take14 b (off + 4) (n - 4) (cap - 4) (xs.drop 4) w (hE.drop 4 (by omega)) (by omega)
    have hM := n14_lt (ys := xs.drop 4) (fun x hx => hE.2.2.1 x (List.mem_of_mem_drop hx))
    have HLn : Hid (len14 xs = n14 (xs.drop 4)) := Lib.hid rfl
    generalize n14 (xs.drop 4) = M at HT hM HLn
    have hne : ¬ cap = 4 := by omega
    have hne2 : ¬ 4 = cap := by omega
    have h4 : 4 ≤ n := by omega
    rw [hx0.out, hx1.out] at hpl
    have HX0 := Lib.hid hx0.out
    have HX1 := Lib.hid hx1.out
    have HX2 := Lib.hid hx2.out
    have HLL := Lib.hid hl
    clear hE hl hx0 hx1 hx2 c0 c1
    by_cases hpl2 : x0 = 80 ∧ x1 = 76
    · rw [decide_eq_true hpl2] at hpl
      by_cases hv : x2 = 1
      · by_cases hbig : 1048576 < M
        · have H : Hid (csz xs = (0, 140)) := Lib.hid (by rw [csz_eq (by have := HLL.out; omega), HX0.out, HX1.out, HX2.out, HLn.out, HLL.out]; simp [hpl2, hv, hbig])
          subst hv
          have t1 : (1048576 : Int) < (M : Int) := by omega
          clear hpl2 HX0 HX1 HX2 HLn
          go_enter Try.func42, Try.ntmps42
          go_wp2_with fail
          refine HT.mono ?_
          rintro e w' ⟨rfl, d, rfl⟩
          clear HT
          go_wp2_with fail
          go_ret2
          exact ⟨by unfold SizeE; rw [H.out]; rfl, _, rfl⟩
        · by_cases hsh : n < M + 12
          · have H : Hid (csz xs = (0, 70)) := Lib.hid (by rw [csz_eq (by have := HLL.out; omega), HX0.out, HX1.out, HX2.out, HLn.out, HLL.out]; simp [hpl2, hv, hbig, hsh])
            subst hv
            have t1 : ¬ (1048576 : Int) < (M : Int) := by omega
            have t2 : IntKind.i64.wrap (M : Int) = (M : Int) := IntWalk.i64_in _ (by omega)
            obtain ⟨N, hN⟩ : ∃ N, M + 12 = N := ⟨_, rfl⟩
            have t3 : (12 : Int) + (M : Int) = (N : Int) := by omega
            rw [hN] at hsh
            clear hN
            clear hpl2 HX0 HX1 HX2 HLn
            go_enter Try.func42, Try.ntmps42
            go_wp2_with fail
            refine HT.mono ?_
            rintro e w' ⟨rfl, d, rfl⟩
            clear HT
            go_wp2_with fail
            go_ret2
            exact ⟨by unfold SizeE; rw [H.out]; rfl, _, rfl⟩
          · have H : Hid (csz xs = (M + 12, 0)) := Lib.hid (by rw [csz_eq (by have := HLL.out; omega), HX0.out, HX1.out, HX2.out, HLn.out, HLL.out]; simp [hpl2, hv, hbig, hsh])
            subst hv
            have t1 : ¬ (1048576 : Int) < (M : Int) := by omega
            have t2 : IntKind.i64.wrap (M : Int) = (M : Int) := IntWalk.i64_in _ (by omega)
            obtain ⟨N, hN⟩ : ∃ N, M + 12 = N := ⟨_, rfl⟩
            have t3 : (12 : Int) + (M : Int) = (N : Int) := by omega
            rw [hN] at hsh H
            clear hN
            clear hpl2 HX0 HX1 HX2 HLn
            go_enter Try.func42, Try.ntmps42
            go_wp2_with fail
            refine HT.mono ?_
            rintro e w' ⟨rfl, d, rfl⟩
            clear HT
            go_wp2_with fail
            go_ret2
            exact ⟨by unfold SizeE; rw [H.out]; rfl, _, rfl⟩
      · have H : Hid (csz xs = (0, 141)) := Lib.hid (by rw [csz_eq (by have := HLL.out; omega), HX0.out, HX1.out, HX2.out, HLn.out, HLL.out]; simp [hpl2, hv])
        clear hpl2 HX0 HX1 HX2 HLn
        go_enter Try.func42, Try.ntmps42
        go_wp2_with fail
        go_ret2
        exact ⟨by unfold SizeE; rw [H.out]; rfl, 0, rfl⟩
    · rw [decide_eq_false hpl2] at hpl
      have H : Hid (csz xs = (0, 71)) := Lib.hid (by rw [csz_eq (by have := HLL.out; omega), HX0.out, HX1.out, HX2.out, HLn.out, HLL.out]; simp [hpl2])
      clear hpl2 HX0 HX1 HX2 HLn
      go_enter Try.func42, Try.ntmps42
      go_wp2_with fail
      go_ret2
      exact ⟨by unfold SizeE; rw [H.out]; rfl, 0, rfl⟩

set_option maxHeartbeats 1600000 in
theorem sound14 (q : Rw) (w : World) (h : q.In .u8 w) (h4 : 4 ≤ q.n) : Calls Try.prog 43 #[.slice q.a q.n q.cap] w fun e w' => e = .returned (.bool (sd q.v)) ∧ Below w.heap.size w w' := by
  obtain ⟨a, n, cap, xs⟩ := q
  have hE : Elems .u8 w a n xs := h.1
  have hcap : n ≤ cap := h.2.1
  have hcap2 : cap ≤ 9223372036854775807 := h.2.2.1
  have hSl : Sl a cap := h.2.2.2
  simp only at h4
  simp only
  obtain ⟨m, hmn⟩ : ∃ m, n = m + 4 := ⟨n - 4, by omega⟩
  obtain ⟨b, off, x0, rfl, c0, _, _⟩ := hE.at_ (show 0 < n by omega)
  have hq : Rw.In .u8 w ⟨some ⟨b, off, none⟩, m, cap, xs.take m⟩ := ⟨hE.take m (by omega), by show m ≤ cap; omega, hcap2, hSl⟩
  have HR := Lib.hid (rws_one (T := 27) _ hq rfl)
  have hd := hE.drop m (by omega)
  have e4 : n - m = 4 := by omega
  rw [e4] at hd
  have HE0 := Lib.hid hd
  have HE1 := Lib.hid (hd.below ((Below.refl w.heap.size w).alloc (Nat.le_refl _) (.cells #[.slice (some ⟨b, off, none⟩) m cap] 27)))
  have DS : ∀ W, Rws .u8 W (some ⟨w.heap.size, 0, none⟩) 1 [⟨some ⟨b, off, none⟩, m, cap, xs.take m⟩] → Calls Try.prog 38 #[.slice (some ⟨w.heap.size, 0, none⟩) 1 1] W fun e w' => e = .returned (.int .u32 (csum (xs.take m) : Nat)) ∧ W = w' := fun W hW => by
    have := sum_any (some ⟨w.heap.size, 0, none⟩) 1 1 _ W hW
    have e1 : catR [⟨some ⟨b, off, none⟩, m, cap, xs.take m⟩] = xs.take m := by simp [catR]
    rwa [e1] at this
  have DT : ∀ W, Elems .u8 W (some ⟨b, off + m, none⟩) 4 (xs.drop m) → Calls Try.prog 48 #[.slice (some ⟨b, off + m, none⟩) 4 (cap - m)] W fun e w' => e = .returned (.int .u32 (n14 (xs.drop m) : Nat)) ∧ ∃ d, w' = W.drewN d := fun W hW => take14 b (off + m) 4 (cap - m) (xs.drop m) W hW (by omega)
  have HSD : Hid (sd xs = decide (csum (xs.take m) = n14 (xs.drop m))) := Lib.hid (by
    have := sd_code hE.2.2.1 (by rw [hE.1]; omega)
    rw [hE.1, show n - 4 = m by omega] at this
    exact this)
  generalize csum (xs.take m) = c at *
  generalize n14 (xs.drop m) = u at *
  have t1 : (n : Int) - 4 = (m : Int) := by omega
  have t3 : (n : Int) - (m : Int) = 4 := by omega
  have m0 : (0 : Int) ≤ (m : Int) := by omega
  have m1 : (m : Int) ≤ (n : Int) := by omega
  have m2 : m ≤ n := by omega
  have m3 : (m : Int) ≤ (cap : Int) := by omega
  have m4 : ¬ (n : Int) < (m : Int) := by omega
  have hne : ¬ cap = m := by omega
  have hne2 : ¬ m = cap := by omega
  have hm0 : m ≤ cap := by omega
  clear hE hq hd h hSl c0 hmn
  go_enter Try.func43, Try.ntmps43
  go_upto_region 2 with fail
  go_region_held3 (fun w' => True)
    (exact trivial)
    (first
      | (go_at_call 38; (with_reducible refine (DS _ ?h1).mono ?_)
         case h1 => exact HR.out
         rintro e wp ⟨rfl, rfl⟩)
      | (go_at_call 48; (with_reducible refine (DT _ ?h1).mono ?_)
         case h1 => (first | exact HE0.out | exact HE1.out)
         rintro e wp ⟨rfl, d, rfl⟩))
  all_goals
    go_wp2
    go_ret
    refine ⟨ret_bool ?_, ?_⟩
    · rw [HSD.out]
      by_cases hcu : c = u
      · rw [decide_eq_true hcu, hcu]; simp
      · rw [decide_eq_false hcu]
        apply Bool.eq_false_iff.mpr
        intro h2
        exact hcu (by have := eq_of_beq h2; omega)
    · first
        | exact below_drewN ((below_drewN (Below.refl _ _) _).alloc (by simp) _) _
        | exact below_drewN ((Below.refl _ _).alloc (Nat.le_refl _) _) _
        | exact (below_drewN ((Below.refl _ _).alloc (Nat.le_refl _) _) _).drew
        | exact (Below.refl _ _).alloc (Nat.le_refl _) _
        | exact below_drewN ((Below.refl w.heap.size w).drew.alloc (Nat.le_refl _) _) _
        | exact (below_drewN ((below_drewN (Below.refl _ _) _).alloc (by simp) _) _).drew

/-- what the document's Size answers -/
def DSizeE (xs : List Int) (e : Ending) : Prop := e = .returned (.tuple #[.int .i64 ((dsz xs).1 : Nat), .int .i64 ((dsz xs).2 : Nat)])

set_option maxHeartbeats 1600000 in
theorem dsize14 (q : Rw) (w : World) (h : q.In .u8 w) : Calls Try.prog 47 #[.slice q.a q.n q.cap] w fun e w' => DSizeE q.v e ∧ ∃ d, w' = w.drewN d := by
  obtain ⟨a, n, cap, xs⟩ := q
  have hE : Elems .u8 w a n xs := h.1
  have hl := hE.1
  simp only
  clear h
  by_cases h12 : n < 12
  · have H : Hid (dsz xs = (0, 70)) := Lib.hid (by unfold dsz; rw [if_pos (show xs.length < 12 by omega)])
    clear hE hl
    go_enter Try.func47, Try.ntmps47
    go_wp2
    go_ret2
    exact ⟨by unfold DSizeE; rw [H.out]; rfl, 0, rfl⟩
  · obtain ⟨b, off, x0, rfl, c0, hx0, _⟩ := hE.at_ (show 0 < n by omega)
    obtain ⟨b', off', x1, he, c1, hx1, _⟩ := hE.at_ (show 1 < n by omega)
    cases he
    obtain ⟨b', off', x2, he, c2, hx2, _⟩ := hE.at_ (show 2 < n by omega)
    cases he
    obtain ⟨b', off', y0, he, d0, hy0, wy0⟩ := hE.at_ (show 4 < n by omega)
    cases he
    obtain ⟨b', off', y1, he, d1, hy1, wy1⟩ := hE.at_ (show 5 < n by omega)
    cases he
    obtain ⟨b', off', y2, he, d2, hy2, wy2⟩ := hE.at_ (show 6 < n by omega)
    cases he
    obtain ⟨b', off', y3, he, d3, hy3, wy3⟩ := hE.at_ (show 7 < n by omega)
    cases he
    have b0 := wfu8 wy0
    have b1 := wfu8 wy1
    have b2 := wfu8 wy2
    have b3 := wfu8 wy3
    obtain ⟨y0, rfl⟩ : ∃ k : Nat, y0 = k := ⟨y0.toNat, by omega⟩
    obtain ⟨y1, rfl⟩ : ∃ k : Nat, y1 = k := ⟨y1.toNat, by omega⟩
    obtain ⟨y2, rfl⟩ : ∃ k : Nat, y2 = k := ⟨y2.toNat, by omega⟩
    obtain ⟨y3, rfl⟩ : ∃ k : Nat, y3 = k := ⟨y3.toNat, by omega⟩
    have HLn : Hid (len14 xs = ((y0 * 256 + y1) * 256 + y2) * 256 + y3) := Lib.hid (by
      unfold len14 n14
      have e : ∀ i, (xs.drop 4).getD i 0 = xs.getD (4 + i) 0 := fun i => by simp [List.getD]
      rw [e 0, e 1, e 2, e 3, hy0.out, hy1.out, hy2.out, hy3.out, Int.toNat_natCast, Int.toNat_natCast, Int.toNat_natCast, Int.toNat_natCast])
    rw [Nat.add_zero] at c0
    have HX0 := Lib.hid hx0.out
    have HX1 := Lib.hid hx1.out
    have HX2 := Lib.hid hx2.out
    have HLL := Lib.hid hl
    have n0 : 0 < n := by omega
    have n1 : 1 < n := by omega
    have n2 : 2 < n := by omega
    have n4 : 4 < n := by omega
    have n5 : 5 < n := by omega
    have n6 : 6 < n := by omega
    have n7 : 7 < n := by omega
    clear hE hl hx0 hx1 hx2 hy0 hy1 hy2 hy3 wy0 wy1 wy2 wy3
    by_cases hp0 : x0 = 80
    · by_cases hp1 : x1 = 76
      · by_cases hv : x2 = 1
        · obtain ⟨M, hM⟩ : ∃ M, ((y0 * 256 + y1) * 256 + y2) * 256 + y3 = M := ⟨_, rfl⟩
          obtain ⟨Y1, hY1⟩ : ∃ Y, y0 * 256 + y1 = Y := ⟨_, rfl⟩
          obtain ⟨Y2, hY2⟩ : ∃ Y, Y1 * 256 + y2 = Y := ⟨_, rfl⟩
          have s0 : IntKind.i64.wrap (y0 : Int) = (y0 : Int) := IntWalk.i64_in _ (by omega)
          have s1 : IntKind.i64.wrap (y1 : Int) = (y1 : Int) := IntWalk.i64_in _ (by omega)
          have s2 : IntKind.i64.wrap (y2 : Int) = (y2 : Int) := IntWalk.i64_in _ (by omega)
          have s3 : IntKind.i64.wrap (y3 : Int) = (y3 : Int) := IntWalk.i64_in _ (by omega)
          have t1 : (y0 : Int) * 256 + (y1 : Int) = (Y1 : Int) := by omega
          have t2 : (Y1 : Int) * 256 + (y2 : Int) = (Y2 : Int) := by omega
          have t3 : (Y2 : Int) * 256 + (y3 : Int) = (M : Int) := by omega
          have hMb : M < 4294967296 := by omega
          have hYb1 : Y1 < 65536 := by omega
          have hYb2 : Y2 < 16777216 := by omega
          rw [hM] at HLn
          clear hM hY1 hY2
          subst hp0 hp1 hv
          by_cases hbig : 1048576 < M
          · have H : Hid (dsz xs = (0, 140)) := Lib.hid (by rw [dsz_eq (by have := HLL.out; omega), HX0.out, HX1.out, HX2.out, HLn.out]; simp [hbig])
            have t4 : (1048576 : Int) < (M : Int) := by omega
            clear HX0 HX1 HX2 HLn
            go_enter Try.func47, Try.ntmps47
            go_wp2_with fail
            go_quiet (fail)
            go_wp2
            go_ret2
            exact ⟨by unfold DSizeE; rw [H.out]; rfl, _, rfl⟩
          · have H : Hid (dsz xs = (M + 12, 0)) := Lib.hid (by rw [dsz_eq (by have := HLL.out; omega), HX0.out, HX1.out, HX2.out, HLn.out]; simp [hbig])
            have t4 : ¬ (1048576 : Int) < (M : Int) := by omega
            obtain ⟨N, hN⟩ : ∃ N, M + 12 = N := ⟨_, rfl⟩
            have t5 : (M : Int) + 12 = (N : Int) := by omega
            rw [hN] at H
            clear HX0 HX1 HX2 HLn hN
            go_enter Try.func47, Try.ntmps47
            go_wp2_with fail
            go_quiet (fail)
            go_wp2
            go_ret2
            exact ⟨by unfold DSizeE; rw [H.out]; rfl, _, rfl⟩
        · have H : Hid (dsz xs = (0, 141)) := Lib.hid (by rw [dsz_eq (by have := HLL.out; omega), HX0.out, HX1.out, HX2.out]; simp [hp0, hp1, hv])
          subst hp0 hp1
          have t4 : (x2 != 1) = true := by simp [hv]
          clear HX0 HX1 HX2 HLn d0 d1 d2 d3
          go_enter Try.func47, Try.ntmps47
          go_wp2_with fail
          go_ret2
          exact ⟨by unfold DSizeE; rw [H.out]; rfl, 0, rfl⟩
      · have H : Hid (dsz xs = (0, 71)) := Lib.hid (by rw [dsz_eq (by have := HLL.out; omega), HX0.out, HX1.out]; simp [hp1])
        subst hp0
        have t4 : (x1 != 76) = true := by simp [hp1]
        clear HX0 HX1 HX2 HLn d0 d1 d2 d3
        go_enter Try.func47, Try.ntmps47
        go_wp2_with fail
        go_ret2
        exact ⟨by unfold DSizeE; rw [H.out]; rfl, 0, rfl⟩
    · have H : Hid (dsz xs = (0, 71)) := Lib.hid (by rw [dsz_eq (by have := HLL.out; omega), HX0.out, HX1.out]; simp [hp0])
      have t4 : (x0 != 80) = true := by simp [hp0]
      clear HX0 HX1 HX2 HLn d0 d1 d2 d3
      go_enter Try.func47, Try.ntmps47
      go_wp2_with fail
      go_ret2
      exact ⟨by unfold DSizeE; rw [H.out]; rfl, 0, rfl⟩

end Go.Proofs.Ytobogkilkmnpmaa
