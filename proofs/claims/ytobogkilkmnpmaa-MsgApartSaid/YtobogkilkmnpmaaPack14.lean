/-
  Contracts of the code's Pack and of the document's: the frame, in new memory.
-/
import Derived.Test.YtobogkilkmnpmaaPut14
import Derived.Test.YtobogkilkmnpmaaAppStr
import Derived.Lib.AppendStr
import Derived.Deep.CutRange
namespace Go.Proofs.Ytobogkilkmnpmaa
open Go.RowKit
set_option linter.unusedVariables false

/-- a row of bytes of the call's own, as a row -/
theorem own_row8 {w : World} {base n : Nat} {v : Value} {xs : List Int} (h : w.ownsRow base 5 1 v n (xs.map (.int .u8))) (hw : ∀ x ∈ xs, (Lit.int .u8 x).wf = true) (hn : n ≤ 9223372036854775807) :
    ∃ q : Rw, v = .slice q.a q.n q.cap ∧ q.n = n ∧ q.v = xs ∧ q.In .u8 w ∧ (0 < n → ∃ b, q.a = some ⟨b, 0, none⟩ ∧ base ≤ b ∧ b < w.heap.size) := by
  obtain ⟨a, cap, rfl, hE, h1, h2, h3⟩ := own_reads h hw hn
  refine ⟨⟨a, n, cap, xs⟩, rfl, rfl, rfl, ⟨hE, h1, h2, h3, fun x e _ => ?_⟩, fun h0 => ?_⟩
  · rcases h.2 with ⟨h4, h5⟩ | ⟨g, c, cur, h4, _⟩
    · cases h4; cases e
    · cases h4; cases e; rfl
  · rcases h.2 with ⟨h4, h5⟩ | ⟨g, c, cur, h4, h5, h6, _⟩
    · omega
    · cases h4; exact ⟨g, rfl, h5, (Array.getElem?_eq_some_iff.1 h6).1⟩

set_option maxHeartbeats 1600000 in
theorem pack14 (k : Int) (hk : (Lit.int .u8 k).wf = true) (q : Rw) (w : World) (h : q.In .u8 w) (hn : q.n ≤ 1048576) :
    Calls Try.prog 21 #[.int .u8 k, .slice q.a q.n q.cap] w fun e w' => (∃ v, e = .returned (.tuple #[v, .int .i64 0]) ∧ w'.ownsRow w.heap.size 5 1 v (q.n + 12) ((frm k q.v).map (.int .u8))) ∧ Below w.heap.size w w' := by
  obtain ⟨a, n, cap, xs⟩ := q
  have hE : Elems .u8 w a n xs := h.1
  have hSl : a = none → cap = 0 := h.2.2.2.1
  have HL := Lib.hid hE.1
  have HP := Lib.hid (pre14_wf hk hE.2.2.1 (by rw [hE.1]; show n < _; simp only at hn; omega))
  have HPl := Lib.hid (pre14_len k xs)
  simp only at hn
  simp only
  obtain ⟨C, hC⟩ : ∃ C, 12 + n = C := ⟨_, rfl⟩
  obtain ⟨i0, hi, hz0, hz1, hz2⟩ := info_u8
  -- the row, of room enough
  obtain ⟨w1, hmk, ho1, hg1⟩ := run_make_own (P := Try.prog) w w.heap.size 27 5 i0 _ 1 Try.underlying27 hi hz0 hz1 .i64 .i64 C (by rw [hz2]; omega) (by unfold maxLen; omega) (Nat.le_refl _)
  have hB1 : Below w.heap.size w w1 := (Below.refl _ _).grown hg1 (Nat.le_refl _) (fun q hq => by cases hq)
  -- the letters
  obtain ⟨v2, w2, hr2, ho2, hg2, _⟩ := Lib.run_append_own_string (P := Try.prog) w1 w.heap.size 27 9 27 5 i0 Try.underlying27 Try.underlying9 hi hz0 hz1 hz2 _ 0 [] ho1 { data := #[80, 76] } (by decide) (by decide) hB1.size
  have hB2 : Below w.heap.size w w2 := hB1.grown hg2 hB1.size (fun q hq => (ho1.lt q hq).1)
  have ho2' : w2.ownsRow w.heap.size 5 1 v2 2 (([80, 76] : List Int).map (.int .u8)) := ho2
  -- version and kind
  obtain ⟨v3, w3, hr3, ho3, hg3, _⟩ := run_append_lits (P := Try.prog) .u8 w2 w.heap.size 27 5 1 (by omega) Try.underlying27 info_u8 _ 2 2 _ [1, k] _ rfl rfl ho2' (by omega) (by omega) hB2.size
  have hB3 : Below w.heap.size w w3 := hB2.grown hg3 hB2.size (fun q hq => (ho2'.lt q hq).1)
  have P1 := put14 w.heap.size w3 v3 4 _ ho3 n (by omega) (by omega) hB3.size
  have P2 : ∀ w4 v4, w4.ownsRow w.heap.size 5 1 v4 8 (([80, 76] ++ [1, k] ++ be14 n).map (.int .u8)) → Below w.heap.size w w4 → ∃ v5 w5, Sem.run Try.prog (Builtin.append_ #[27, 27] 27 #[v4, .slice a n cap]) w4 = .ok v5 w5 ∧ w5.ownsRow w.heap.size 5 1 v5 (8 + n) ((pre14 k xs).map (.int .u8)) ∧ Below w.heap.size w w5 := fun w4 v4 ho hb => by
    obtain ⟨v5, w5, hr5, ho5, hg5, _⟩ := run_append_elems (P := Try.prog) .u8 w4 w.heap.size 27 5 1 (by omega) Try.underlying27 info_u8 _ 8 _ ho a n cap xs (hE.below hb) hSl (by omega) (by omega) hb.size
    refine ⟨v5, w5, hr5, ?_, hb.grown hg5 hb.size (fun q hq => (ho.lt q hq).1)⟩
    have e : [80, 76] ++ [1, k] ++ be14 n ++ xs = pre14 k xs := by unfold pre14; rw [HL.out]; rfl
    rw [← e]; exact ho5
  have t1 : (12 : Int) + (n : Int) = (C : Int) := by omega
  have t2 : IntKind.u32.wrap (n : Int) = (n : Int) := IntWalk.u32_in _ (by omega)
  have HB3 := Lib.hid hB3
  have HP2 := Lib.hid P2
  clear hC hB1 hB2 hB3 ho1 ho2 ho2' ho3 hg1 hg2 hg3 P2 hE hSl hi hz0 hz1 hz2 h
  go_enter Try.func21, Try.ntmps21
  go_wp2_with (at_builtin; first | refine wpList_append_at2 (by rfl) _ _ _ _ (by rfl) _ _ (by rfl) (by rfl) hr2 ?_ | refine wpList_append_at (by rfl) _ _ _ (by rfl) _ _ (by rfl) (by rfl) hr3 ?_)
  refine P1.mono ?_
  rintro e w4 ⟨⟨v4, rfl, ho4⟩, hb4⟩
  obtain ⟨v5, w5, hr5, ho5, hb5⟩ := HP2.out w4 v4 ho4 (HB3.out.trans hb4)
  clear P1 HP2 hr2 hr3 hmk ho4 hb4
  obtain ⟨q5, hv5, hn5, hx5, hi5, _⟩ := own_row8 ho5 HP.out (by omega)
  have S1 := sum_any (some ⟨w5.heap.size, 0, none⟩) 1 1 [q5] _ (rws_one (T := 27) q5 hi5 rfl)
  have e1 : catR [q5] = pre14 k xs := by simp [catR, hx5]
  rw [e1] at S1
  have hbA : Below w.heap.size w (w5.alloc (.cells #[.slice q5.a q5.n q5.cap] 27)) := hb5.alloc hb5.size _
  have P3 := put14 w.heap.size (w5.alloc (.cells #[.slice q5.a q5.n q5.cap] 27)) v5 (8 + n) _ (ho5.alloc _) (csum (pre14 k xs)) (csum_lt _) (by omega) hbA.size
  have HB := Lib.hid hbA
  have HF : Hid (pre14 k xs ++ be14 (csum (pre14 k xs)) = frm k xs) := Lib.hid rfl
  generalize csum (pre14 k xs) = c at *
  rw [hv5] at hr5 P3
  have HN : Hid (8 + n + 4 = n + 12) := Lib.hid (by omega)
  clear ho5 hb5 hi5 hx5 hbA e1 hv5 hn5
  go_wp2_with (at_builtin; refine wpList_append_at (by rfl) _ _ _ (by rfl) _ _ (by rfl) (by rfl) hr5 ?_)
  refine S1.mono ?_
  rintro e w6 ⟨rfl, rfl⟩
  go_wp2_with fail
  refine P3.mono ?_
  rintro e w7 ⟨⟨v7, rfl, ho7⟩, hb7⟩
  rw [HF.out, HN.out] at ho7
  have HO := Lib.hid ho7
  have HB7 := Lib.hid (HB.out.trans hb7)
  clear P3 S1 hr5 ho7 hb7
  go_wp2_with fail
  go_ret2
  exact ⟨⟨_, rfl, HO.out⟩, HB7.out⟩

set_option maxHeartbeats 1600000 in
theorem dpack14 (k : Int) (hk : (Lit.int .u8 k).wf = true) (q : Rw) (w : World) (h : q.In .u8 w) (hn : q.n ≤ 1048576) :
    Calls Try.prog 18 #[.int .u8 k, .slice q.a q.n q.cap] w fun e w' => OwnB w.heap.size (q.n + 12) (frm k q.v) e w' ∧ Below w.heap.size w w' := by
  obtain ⟨a, n, cap, xs⟩ := q
  have hE : Elems .u8 w a n xs := h.1
  have hSl : a = none → cap = 0 := h.2.2.2.1
  have HL := Lib.hid hE.1
  have HP := Lib.hid (pre14_wf hk hE.2.2.1 (by rw [hE.1]; show n < _; simp only at hn; omega))
  simp only at hn
  simp only
  -- the literal, then the length
  have hb1 : Below w.heap.size w (w.alloc (.cells #[.int .u8 80, .int .u8 76, .int .u8 1, .int .u8 k] 5)) := (Below.refl _ _).alloc (Nat.le_refl _) _
  have ho1 : (w.alloc (.cells #[.int .u8 80, .int .u8 76, .int .u8 1, .int .u8 k] 5)).ownsRow w.heap.size 5 1 (.slice (some ⟨w.heap.size, 0, none⟩) 4 4) 4 (([80, 76, 1, k] : List Int).map (.int .u8)) := World.ownsRow_lit (e := 5) (size := 1) w #[.int .u8 80, .int .u8 76, .int .u8 1, .int .u8 k] 4 (Nat.le_refl _) (by unfold maxLen; omega) rfl
  have F1 := four14 (w.alloc (.cells #[.int .u8 80, .int .u8 76, .int .u8 1, .int .u8 k] 5)) n (by omega)
  obtain ⟨v3, w3, hr3, ho3, hg3, _⟩ := run_append_lits (P := Try.prog) .u8 (w.alloc (.cells #[.int .u8 80, .int .u8 76, .int .u8 1, .int .u8 k] 5)) w.heap.size 27 5 1 (by omega) Try.underlying27 info_u8 _ 4 4 _ (be14 n) _ rfl rfl ho1 (by omega) (by omega) hb1.size
  have hb3 : Below w.heap.size w w3 := hb1.grown hg3 hb1.size (fun q hq => (ho1.lt q hq).1)
  obtain ⟨v5, w5, hr5, ho5, hg5, _⟩ := run_append_elems (P := Try.prog) .u8 w3 w.heap.size 27 5 1 (by omega) Try.underlying27 info_u8 _ 8 _ ho3 a n cap xs (hE.below hb3) hSl (by omega) (by omega) hb3.size
  have hb5 : Below w.heap.size w w5 := hb3.grown hg5 hb3.size (fun q hq => (ho3.lt q hq).1)
  have e : [80, 76, 1, k] ++ be14 n ++ xs = pre14 k xs := by unfold pre14; rw [HL.out]
  rw [e] at ho5
  obtain ⟨q5, hv5, hn5, hx5, hi5, _⟩ := own_row8 ho5 HP.out (by omega)
  have S1 := doc_sum q5.a q5.n q5.cap (pre14 k xs) w5 (by rw [← hx5]; exact hi5.1)
  have F2 := four14 w5 (csum (pre14 k xs)) (csum_lt _)
  obtain ⟨v6, w6, hr6, ho6, hg6, _⟩ := run_append_lits (P := Try.prog) .u8 w5 w.heap.size 27 5 1 (by omega) Try.underlying27 info_u8 _ (8 + n) 4 _ (be14 (csum (pre14 k xs))) _ rfl rfl ho5 (by omega) (by omega) hb5.size
  have hb6 : Below w.heap.size w w6 := hb5.grown hg6 hb5.size (fun q hq => (ho5.lt q hq).1)
  have e2 : 8 + n + 4 = n + 12 := by omega
  have e3 : pre14 k xs ++ be14 (csum (pre14 k xs)) = frm k xs := rfl
  rw [e2, e3] at ho6
  have HO := Lib.hid ho6
  have HB := Lib.hid hb6
  generalize csum (pre14 k xs) = c at *
  rw [hv5] at hr5 hr6
  rw [World.size_alloc] at hr3
  have t2 : IntKind.u32.wrap (n : Int) = (n : Int) := IntWalk.u32_in _ (by omega)
  clear hE hSl h hb1 ho1 ho3 hg3 hb3 ho5 hg5 hb5 hi5 hx5 hn5 hv5 ho6 hg6 hb6 e e2 e3
  go_enter Try.func18, Try.ntmps18
  go_wp2_with fail
  refine F1.mono ?_
  rintro e w' ⟨rfl, rfl⟩
  go_wp2_with (at_builtin; first | refine wpList_append_at (by rfl) _ _ _ (by rfl) _ _ (by rfl) (by rfl) hr3 ?_ | refine wpList_append_at (by rfl) _ _ _ (by rfl) _ _ (by rfl) (by rfl) hr5 ?_)
  refine S1.mono ?_
  rintro e w' ⟨rfl, rfl⟩
  go_wp2_with fail
  refine F2.mono ?_
  rintro e w' ⟨rfl, rfl⟩
  go_wp2_with (at_builtin; refine wpList_append_at (by rfl) _ _ _ (by rfl) _ _ (by rfl) (by rfl) hr6 ?_)
  go_ret
  exact ⟨⟨_, rfl, HO.out⟩, HB.out⟩

end Go.Proofs.Ytobogkilkmnpmaa
