/-
  Contracts of package msg's put, bodyOf and Bytes: a message's frame.
-/
import Derived.Test.YtobogkilkmnpmaaRight15
import Derived.Test.YtobogkilkmnpmaaNum15
import Derived.Test.YtobogkilkmnpmaaPack14
namespace Go.Proofs.Ytobogkilkmnpmaa
open Go.RowKit Go.Maps
set_option linter.unusedVariables false

set_option maxHeartbeats 1600000 in
set_option maxRecDepth 100000 in
theorem put15 (base : Nat) (w : World) (v : Value) (n : Nat) (xs : List Int) (hown : w.ownsRow base 5 1 v n (xs.map (.int .u8))) (N : Nat) (hN : N < 4611686018427387904) (s : Nat) (hs : s ≤ 7) (hn : n ≤ 16777000) (hbase : base ≤ w.heap.size) :
    Calls Try.prog 39 #[v, .int .i64 N, .int .i64 (s : Int)] w fun e w' => OwnB base (n + s) (xs ++ beS s N) e w' ∧ Below base w w' := by
  have HO := Lib.hid hown
  have HBs := Lib.hid hbase
  clear hown hbase
  go_enter Try.func39, Try.ntmps39
  go_wp2_with fail
  go_loopw [0, 9] (fun v' i' wr => ∃ k : Nat, k ≤ s ∧ i' = .int .i64 k ∧ Hid (wr.ownsRow base 5 1 v' (n + k) ((xs ++ (beS s N).take k).map (.int .u8))) ∧ Hid (Below base w wr)) (fun _ i' _ => s - (intOf i').toNat)
  case atStart => exact ⟨0, by omega, rfl, Lib.hid (by simpa using HO.out), Lib.hid (Below.refl _ _)⟩
  case round =>
    obtain ⟨k, hk, rfl, hO, hB⟩ := hrel
    by_cases hlt : k < s
    · obtain ⟨m, hm⟩ : ∃ m, s - 1 - k = m := ⟨_, rfl⟩
      obtain ⟨d, hd⟩ : ∃ d, N / 2 ^ (8 * m) = d := ⟨_, rfl⟩
      obtain ⟨c, hc⟩ : ∃ c, d % 256 = c := ⟨_, rfl⟩
      obtain ⟨q, hq⟩ : ∃ q, 8 * m = q := ⟨_, rfl⟩
      have hbw := Nat.le_trans HBs.out hB.out.size
      obtain ⟨v2, w2, hrun, ho2, hg2, _⟩ := run_append_lits (P := Try.prog) .u8 wr base 27 5 1 (by omega) Try.underlying27 info_u8 _ (n + k) 1 _ [(c : Int)] _ rfl rfl hO.out (by omega) (by omega) hbw
      have hst := beS_step N hlt
      rw [hm, hd, hc] at hst
      have HO2 : Hid (w2.ownsRow base 5 1 v2 (n + (k + 1)) ((xs ++ (beS s N).take (k + 1)).map (.int .u8))) := Lib.hid (by rw [hst, ← List.append_assoc]; exact ho2)
      have HB2 := Lib.hid (hB.out.grown hg2 hbw (fun q hq => (hO.out.lt q hq).1))
      have dN : d ≤ N := by rw [← hd]; exact Nat.div_le_self _ _
      have t1 : (s : Int) - 1 - (k : Int) = (m : Int) := by omega
      have t1a : IntKind.i64.wrap ((s : Int) - 1) = (s : Int) - 1 := IntWalk.i64_in _ (by omega)
      have t1b : IntKind.i64.wrap ((s : Int) - 1 - (k : Int)) = (m : Int) := by rw [t1]; exact IntWalk.i64_in _ (by omega)
      have t1c : IntKind.i64.wrap (m : Int) = (m : Int) := IntWalk.i64_in _ (by omega)
      have t2 : (8 : Int) * (m : Int) = (q : Int) := by omega
      have t2b : IntKind.i64.wrap (q : Int) = (q : Int) := IntWalk.i64_in _ (by omega)
      have t3 : ¬ (q : Int) < 0 := by omega
      have t4 : (N : Int) / 2 ^ q = (d : Int) := by rw [← hd, ← hq, Int.natCast_ediv]; norm_cast
      have t5 : IntKind.i64.wrap (d : Int) = (d : Int) := IntWalk.i64_in _ (by omega)
      have t6 : IntKind.u8.wrap (d : Int) = (c : Int) := by rw [IntKind.wrap_u8']; omega
      have hlt2 : (k : Int) < (s : Int) := by omega
      clear hst ho2 hg2 hO hB hbw dN hc hd
      go_wp2_with (at_builtin; refine wpList_append_at (by rfl) _ _ _ (by rfl) _ _ (by rfl) (by rfl) hrun ?_)
      go_roundw
      case rel => exact ⟨k + 1, by omega, by go_num, HO2, HB2⟩
      case measure => simp [intOf]; omega
    · obtain rfl : k = s := by omega
      have hz : Hid (wr.ownsRow base 5 1 u0 (n + k) ((xs ++ beS k N).map (.int .u8))) := Lib.hid (by
        have := hO.out
        rwa [List.take_of_length_le (by rw [beS_len]; exact Nat.le_refl _)] at this)
      clear hO
      go_wp2_with fail
      go_ret
      exact ⟨⟨_, rfl, hz.out⟩, hB.out⟩

theorem own_mono {w : World} {base base' : Nat} {e : TypeId} {size : Nat} {v : Value} {n : Nat} {xs : List Value} (h : w.ownsRow base e size v n xs) (hb : base' ≤ base) : w.ownsRow base' e size v n xs := by
  refine ⟨h.1, ?_⟩
  rcases h.2 with h0 | ⟨g, cap, cur, hv, hbs, hrest⟩
  · exact .inl h0
  · exact .inr ⟨g, cap, cur, hv, Nat.le_trans hb hbs, hrest⟩
theorem right_parts {x : Ms15} (h : rightM x = true) : fm x.kind ≠ 0 ∧ okTo (fm x.kind) x 7 ∧ x.li.n ≤ most15 (fm x.kind) := by
  unfold rightM at h
  simp only [Bool.and_eq_true, decide_eq_true_eq] at h
  exact ⟨h.1.1, h.1.2, h.2⟩
theorem okn_bd {F : Nat} {n : Int} {i : Nat} (h : okn F n i = true) : 0 ≤ n ∧ n < 1099511627776 ∧ (n = 0 ∨ F.testBit i = true) := by
  unfold okn at h
  exact of_decide_eq_true h

set_option maxHeartbeats 3200000 in
set_option maxRecDepth 100000 in
theorem bodyOf15 (x : Ms15) (w : World) (h : x.In w) (hr : rightM x = true) :
    Calls Try.prog 22 #[.agg #[.int .i64 x.kind, .int .i64 x.n0, .int .i64 x.n1, .int .i64 x.n2, .int .i64 x.n3, .int .i64 x.n4, .int .i64 x.n5, .int .i64 x.n6, .slice x.li.a x.li.n x.li.cap]] w fun e w' => OwnB w.heap.size (bodyM (fm x.kind) x).length (bodyM (fm x.kind) x) e w' ∧ Below w.heap.size w w' := by
  obtain ⟨h0, hok, hln⟩ := right_parts hr
  have X := ms_box x w
  have HB1 := Lib.hid ((Below.refl w.heap.size w).alloc (Nat.le_refl _) (.cells #[.int .i64 x.kind, .int .i64 x.n0, .int .i64 x.n1, .int .i64 x.n2, .int .i64 x.n3, .int .i64 x.n4, .int .i64 x.n5, .int .i64 x.n6, .slice x.li.a x.li.n x.li.cap] 24))
  have HLI := Lib.hid h.li
  have F1 := formOf15 x.kind h.1
  have HK := Lib.hid hok
  have HLn := Lib.hid h.li.1.1
  clear hr h
  have d0 : decide (fm x.kind ≠ 0) = true := decide_eq_true h0
  rw [d0] at F1
  clear d0 h0
  have hfl := fm_lt x.kind
  generalize fm x.kind = f at *
  have TL : ∀ (k : Nat) (hk : k < 7) (W : World), Calls Try.prog 35 #[.int .u8 (f : Int), .int .i64 (k : Int)] W fun e w' => e = .returned (.bool (f.testBit k)) ∧ w' = W := fun k hk W => tells15 f k hfl hk W
  have LS := lists15 f hfl
  have HM : Hid (most15 f = if f.testBit 7 then 4096 else 0) := Lib.hid rfl
  have HNL := Lib.hid (numsL_len f x)
  go_enter Try.func22, Try.ntmps22
  go_upto_region 1 with fail
  generalize (w.alloc (.cells #[.int .i64 x.kind, .int .i64 x.n0, .int .i64 x.n1, .int .i64 x.n2, .int .i64 x.n3, .int .i64 x.n4, .int .i64 x.n5, .int .i64 x.n6, .slice x.li.a x.li.n x.li.cap] 24)) = w1 at X HB1 ⊢
  have c0 : w1.cell? ⟨w.heap.size, 0, none⟩ = some (.int .i64 x.kind) := X.cell 0
  go_wp2_with fail
  refine (F1 _).mono ?_
  rintro e w2 ⟨rfl, hb2⟩
  clear F1 c0 hok
  have HB2 := Lib.hid (below_two HB1.out hb2)
  have X2 := X.bel hb2
  clear X hb2
  have NB := numbers15 w.heap.size w2
  go_wp2_with fail
  refine NB.mono ?_
  rintro e w3 ⟨rfl, hb3⟩
  clear NB
  have HB3 := Lib.hid (below_two HB2.out hb3)
  have HX3 := Lib.hid (X2.bel hb3)
  clear X2 hb3 HB1 HB2
  have IX := Lib.hid (run_index7 w.heap.size)
  go_wp2_with fail
  go_loopw [5, 17] (fun v' i' wr => ∃ (k n : Nat), k ≤ 7 ∧ i' = .int .i64 k ∧ n = (numsL f x k).length ∧ Hid (wr.ownsRow w3.heap.size 5 1 v' n ((numsL f x k).map (.int .u8))) ∧ Hid (Below w3.heap.size w3 wr)) (fun _ i' _ => 7 - (intOf i').toNat)
  case atStart => exact ⟨0, 0, by omega, rfl, rfl, Lib.hid (own_nil _ _ _), Lib.hid (Below.refl _ _)⟩
  case round =>
    obtain ⟨k, n, hk, rfl, hn, hO, hB⟩ := hrel
    have hnl := HNL.out k
    rw [← hn] at hnl
    by_cases hlt : k < 7
    · have ix := IX.out k hlt wr
      have cN := ms_num (HX3.out.bel hB.out) hlt
      have wN := okn_bd (HK.out k hlt)
      have tl := TL k hlt
      have hlt2 : (k : Int) < 7 := by omega
      have hst := numsL_step f x k
      generalize x.num k = z at *
      obtain ⟨N, rfl⟩ : ∃ N : Nat, z = N := ⟨z.toNat, by omega⟩
      rw [Int.toNat_natCast] at hst
      cases ht : f.testBit k with
      | true =>
        rw [ht] at tl hst
        rw [if_pos rfl] at hst
        have P1 := put15 w3.heap.size wr u5 n (numsL f x k) hO.out N (by omega) 5 (by omega) (by omega) hB.out.size
        rw [← hst] at P1
        have hn2 : n + 5 = (numsL f x (k + 1)).length := by rw [hst, List.length_append, beS_len, hn]
        have HN2 := Lib.hid hn2
        clear hst hn wN hO hn2
        go_wp2_with (go_at_call 35; refine (tl _).mono ?_; rintro e w' ⟨rfl, rfl⟩)
        refine P1.mono ?_
        rintro e w5 ⟨⟨v5, rfl, ho5⟩, hb5⟩
        have HO5 := Lib.hid ho5
        have HB5 := Lib.hid (hB.out.trans hb5)
        clear P1 ho5 hb5 cN
        go_wp2_with fail
        go_roundw
        case rel => exact ⟨k + 1, n + 5, by omega, by go_num, HN2.out, HO5, HB5⟩
        case measure => simp [intOf]; omega
      | false =>
        rw [ht] at tl hst
        rw [if_neg (by decide), List.append_nil] at hst
        have HN2 : Hid (n = (numsL f x (k + 1)).length) := Lib.hid (by rw [hst, hn])
        have HO2 : Hid (wr.ownsRow w3.heap.size 5 1 u5 n ((numsL f x (k + 1)).map (.int .u8))) := Lib.hid (by rw [hst]; exact hO.out)
        clear hst hn wN hO
        go_wp2_with (go_at_call 35; refine (tl _).mono ?_; rintro e w' ⟨rfl, rfl⟩)
        go_roundw
        case rel => exact ⟨k + 1, n, by omega, by go_num, HN2.out, HO2, hB⟩
        case measure => simp [intOf]; omega
    · obtain rfl : k = 7 := by omega
      have c8 : wr.cell? ⟨w.heap.size, 8, none⟩ = some (.slice x.li.a x.li.n x.li.cap) := (HX3.out.bel hB.out).cell 8
      have HBw : Hid (Below w.heap.size w wr) := Lib.hid (HB3.out.trans (hB.out.mono (by exact HB3.out.size)))
      have ls := LS wr
      cases ht : f.testBit 7 with
      | false =>
        have HF : Hid (bodyM f x = numsL f x 7) := Lib.hid (by unfold bodyM; rw [ht]; simp)
        have HO2 : Hid (wr.ownsRow w.heap.size 5 1 u5 n ((numsL f x 7).map (.int .u8))) := Lib.hid (own_mono hO.out HB3.out.size)
        rw [ht] at ls
        have HN2 := Lib.hid hn
        clear hn hO c8
        go_wp2_with (go_at_call 40; refine ls.mono ?_; rintro e w' ⟨rfl, rfl⟩)
        go_ret
        exact ⟨⟨_, rfl, by rw [HF.out, ← HN2.out]; exact HO2.out⟩, HBw.out⟩
      | true =>
        rw [ht] at ls
        have hm : x.li.n ≤ 4096 := by rw [HM.out, ht, if_pos rfl] at hln; exact hln
        have HF : Hid (bodyM f x = numsL f x 7 ++ (beS 2 x.li.n ++ itemsL x.li.v)) := Lib.hid (by unfold bodyM; rw [ht]; simp)
        have P1 := put15 w3.heap.size wr u5 n (numsL f x 7) hO.out x.li.n (by omega) 2 (by omega) (by omega) hB.out.size
        have HN2 := Lib.hid hn
        have HX4 := Lib.hid (HX3.out.bel hB.out)
        have HSz := Lib.hid hB.out.size
        clear hn hO
        go_wp2_with (go_at_call 40; refine ls.mono ?_; rintro e w' ⟨rfl, rfl⟩)
        refine P1.mono ?_
        rintro e w5 ⟨⟨v5, rfl, ho5⟩, hb5⟩
        have HO5 := Lib.hid ho5
        have HB5 := Lib.hid (hB.out.trans hb5)
        have c8b : w5.cell? ⟨w.heap.size, 8, none⟩ = some (.slice x.li.a x.li.n x.li.cap) := (HX3.out.bel HB5.out).cell 8
        have HLW := Lib.hid (HLI.out.below HB3.out)
        clear P1 ho5 hb5 hB c8
        go_wp2_with fail
        go_loopw [5, 42] (fun v' i' wr => ∃ (j : Nat), j ≤ x.li.n ∧ i' = .int .i64 j ∧ Hid (wr.ownsRow w3.heap.size 5 1 v' (n + 2 + 4 * j) ((numsL f x 7 ++ beS 2 x.li.n ++ itemsL (x.li.v.take j)).map (.int .u8))) ∧ Hid (Below w3.heap.size w3 wr)) (fun _ i' _ => x.li.n - (intOf i').toNat)
        case atStart => exact ⟨0, by omega, rfl, Lib.hid (by simpa [itemsL] using HO5.out), HB5⟩
        case round =>
          obtain ⟨j, hj, rfl, hO, hB⟩ := hrel
          by_cases hlt : j < x.li.n
          · obtain ⟨b, off, z, hb, hc, hz, wz⟩ := (HLW.out.below hB.out).1.at_ hlt
            have hst := itemsL_step x.li.v j (by rw [HLn.out]; exact hlt)
            rw [hz.out] at hst
            have z1 := wf32 wz
            have z2 := u32_lt z
            have t1 : IntKind.u32.wrap z = ((u32n z : Nat) : Int) := by unfold u32n; rw [IntKind.wrap_u32]; omega
            have t2 : IntKind.i64.wrap ((u32n z : Nat) : Int) = ((u32n z : Nat) : Int) := IntWalk.i64_in _ (by omega)
            have hlt2 : (j : Int) < (x.li.n : Int) := by omega
            have P1 := put15 w3.heap.size wr u5 (n + 2 + 4 * j) _ hO.out (u32n z) (by omega) 4 (by omega) (by omega) hB.out.size
            rw [List.append_assoc, ← hst] at P1
            generalize u32n z = Z at *
            clear hst hz wz z1 hO
            obtain ⟨⟨la, ln, lc, lv⟩, hL⟩ : ∃ q : Rw, q = x.li := ⟨_, rfl⟩
            rw [hb] at *
            go_wp2_with fail
            refine P1.mono ?_
            rintro e w6 ⟨⟨v6, rfl, ho6⟩, hb6⟩
            have HO6 := Lib.hid ho6
            have HB6 := Lib.hid (hB.out.trans hb6)
            clear P1 ho6 hb6 hc
            go_wp2_with fail
            go_roundw
            case rel => exact ⟨j + 1, by omega, by go_num, HO6, HB6⟩
            case measure => simp [intOf]; omega
          · obtain rfl : j = x.li.n := by omega
            have HO2 : Hid (wr.ownsRow w.heap.size 5 1 u5 (bodyM f x).length ((bodyM f x).map (.int .u8))) := Lib.hid (by
              have h1 := hO.out
              rw [List.take_of_length_le (by rw [HLn.out]; exact Nat.le_refl _), List.append_assoc, ← HF.out] at h1
              have h2 : (bodyM f x).length = n + 2 + 4 * x.li.n := by rw [HF.out, List.length_append, List.length_append, beS_len, itemsL_len, HLn.out, HN2.out]; omega
              rw [h2]
              exact own_mono h1 HB3.out.size)
            have HBz : Hid (Below w.heap.size w wr) := Lib.hid (HB3.out.trans (hB.out.mono HB3.out.size))
            clear hO hB
            go_wp2_with fail
            go_ret
            exact ⟨⟨_, rfl, HO2.out⟩, HBz.out⟩

theorem bodyM_len {x : Ms15} (F : Nat) (hF : F = fm x.kind) (hl : x.li.v.length = x.li.n) (hr : rightM x = true) : (bodyM F x).length ≤ 16421 := by
  obtain ⟨_, _, hn⟩ := right_parts hr
  have h1 := numsL_len F x 7
  unfold bodyM
  rw [List.length_append]
  rw [← hF] at hn
  unfold most15 at hn
  split
  · rename_i ht
    rw [if_pos ht] at hn
    rw [List.length_append, beS_len, itemsL_len, hl]
    omega
  · simp only [List.length_nil]; omega

set_option maxHeartbeats 3200000 in
set_option maxRecDepth 100000 in
theorem bytes15_no (x : Ms15) (w : World) (h : x.In w) (hr : rightM x = false) :
    Calls Try.prog 9 #[.agg #[.int .i64 x.kind, .int .i64 x.n0, .int .i64 x.n1, .int .i64 x.n2, .int .i64 x.n3, .int .i64 x.n4, .int .i64 x.n5, .int .i64 x.n6, .slice x.li.a x.li.n x.li.cap]] w fun e w' => e = .returned (.tuple #[.slice none 0 0, .int .i64 150]) ∧ Below w.heap.size w w' := by
  have X := ms_box x w
  have hB1 := (Below.refl w.heap.size w).alloc (Nat.le_refl _) (.cells #[.int .i64 x.kind, .int .i64 x.n0, .int .i64 x.n1, .int .i64 x.n2, .int .i64 x.n3, .int .i64 x.n4, .int .i64 x.n5, .int .i64 x.n6, .slice x.li.a x.li.n x.li.cap] 24)
  go_enter Try.func9, Try.ntmps9
  go_upto_region 1 with fail
  generalize (w.alloc (.cells #[.int .i64 x.kind, .int .i64 x.n0, .int .i64 x.n1, .int .i64 x.n2, .int .i64 x.n3, .int .i64 x.n4, .int .i64 x.n5, .int .i64 x.n6, .slice x.li.a x.li.n x.li.cap] 24)) = w1 at X hB1 ⊢
  have R1 := right15 x w1 (h.below hB1)
  rw [hr] at R1
  have HB1 := Lib.hid hB1
  have HX := Lib.hid (show Box w1 w.heap.size 24 #[.int .i64 x.kind, .int .i64 x.n0, .int .i64 x.n1, .int .i64 x.n2, .int .i64 x.n3, .int .i64 x.n4, .int .i64 x.n5, .int .i64 x.n6, .slice x.li.a x.li.n x.li.cap] from X)
  clear hB1 X h hr
  go_wp2_with (refine wpList_load_row rfl 24 _ rfl w.heap.size rfl 24 _ (0, 0) _ HX.out Try.underlying24 rfl (by kernel_rfl) ?_)
  refine R1.mono ?_
  rintro e w2 ⟨rfl, hb2⟩
  have HB2 := Lib.hid (below_two HB1.out hb2)
  clear R1 hb2
  go_wp2_with fail
  go_ret2
  exact ⟨rfl, HB2.out⟩

set_option maxHeartbeats 3200000 in
set_option maxRecDepth 100000 in
theorem bytes15_yes (x : Ms15) (w : World) (h : x.In w) (hr : rightM x = true) :
    Calls Try.prog 9 #[.agg #[.int .i64 x.kind, .int .i64 x.n0, .int .i64 x.n1, .int .i64 x.n2, .int .i64 x.n3, .int .i64 x.n4, .int .i64 x.n5, .int .i64 x.n6, .slice x.li.a x.li.n x.li.cap]] w fun e w' => (∃ q : Rw, e = .returned (.tuple #[.slice q.a q.n q.cap, .int .i64 0]) ∧ q.In .u8 w' ∧ q.v = frm x.kind (bodyM (fm x.kind) x)) ∧ Below w.heap.size w w' := by
  have X := ms_box x w
  have hB1 := (Below.refl w.heap.size w).alloc (Nat.le_refl _) (.cells #[.int .i64 x.kind, .int .i64 x.n0, .int .i64 x.n1, .int .i64 x.n2, .int .i64 x.n3, .int .i64 x.n4, .int .i64 x.n5, .int .i64 x.n6, .slice x.li.a x.li.n x.li.cap] 24)
  have hbl := bodyM_len (fm x.kind) rfl h.li.1.1 hr
  have hkb := fm_some (right_parts hr).1
  go_enter Try.func9, Try.ntmps9
  go_upto_region 1 with fail
  generalize (w.alloc (.cells #[.int .i64 x.kind, .int .i64 x.n0, .int .i64 x.n1, .int .i64 x.n2, .int .i64 x.n3, .int .i64 x.n4, .int .i64 x.n5, .int .i64 x.n6, .slice x.li.a x.li.n x.li.cap] 24)) = w1 at X hB1 ⊢
  have R1 := right15 x w1 (h.below hB1)
  rw [hr] at R1
  have HB1 := Lib.hid hB1
  have HX := Lib.hid (show Box w1 w.heap.size 24 #[.int .i64 x.kind, .int .i64 x.n0, .int .i64 x.n1, .int .i64 x.n2, .int .i64 x.n3, .int .i64 x.n4, .int .i64 x.n5, .int .i64 x.n6, .slice x.li.a x.li.n x.li.cap] from X)
  have HI := Lib.hid h
  have HR := Lib.hid hr
  clear hB1 X h hr
  go_wp2_with (refine wpList_load_row rfl 24 _ rfl w.heap.size rfl 24 _ (0, 0) _ HX.out Try.underlying24 rfl (by kernel_rfl) ?_)
  refine R1.mono ?_
  rintro e w2 ⟨rfl, hb2⟩
  have HB2 := Lib.hid (below_two HB1.out hb2)
  have X2 := HX.out.bel hb2
  have c0 : w2.cell? ⟨w.heap.size, 0, none⟩ = some (.int .i64 x.kind) := X2.cell 0
  have c1 : w2.cell? ⟨w.heap.size, 1, none⟩ = some (.int .i64 x.n0) := X2.cell 1
  have c2 : w2.cell? ⟨w.heap.size, 2, none⟩ = some (.int .i64 x.n1) := X2.cell 2
  have c3 : w2.cell? ⟨w.heap.size, 3, none⟩ = some (.int .i64 x.n2) := X2.cell 3
  have c4 : w2.cell? ⟨w.heap.size, 4, none⟩ = some (.int .i64 x.n3) := X2.cell 4
  have c5 : w2.cell? ⟨w.heap.size, 5, none⟩ = some (.int .i64 x.n4) := X2.cell 5
  have c6 : w2.cell? ⟨w.heap.size, 6, none⟩ = some (.int .i64 x.n5) := X2.cell 6
  have c7 : w2.cell? ⟨w.heap.size, 7, none⟩ = some (.int .i64 x.n6) := X2.cell 7
  have c8 : w2.cell? ⟨w.heap.size, 8, none⟩ = some (.slice x.li.a x.li.n x.li.cap) := X2.cell 8
  have t1 : IntKind.u8.wrap x.kind = x.kind := by rw [IntKind.wrap_u8']; omega
  have hkw : (Lit.int .u8 x.kind).wf = true := b14_wf _ (by omega) (by omega)
  have HKW := Lib.hid hkw
  clear R1 hb2 X2 hkw
  go_wp2_with fail
  have hb2d : Below w.heap.size w w2.drew := HB2.out.drew
  have cB := bodyOf15 x w2.drew (HI.out.below hb2d) HR.out
  obtain ⟨body, hbd⟩ : ∃ body, bodyM (fm x.kind) x = body := ⟨_, rfl⟩
  have HBD := Lib.hid hbd
  rw [hbd] at cB hbl
  have HBL : Hid (body.length ≤ 16421) := Lib.hid hbl
  have HBW : Hid (∀ y ∈ body, (Lit.int .u8 y).wf = true) := Lib.hid (by rw [← hbd]; exact bodyM_wf _ x)
  clear hbl HX hkb hbd
  go_region_held3 (fun V => V.cell? ⟨w.heap.size, 0, none⟩ = some (.int .i64 x.kind) ∧ V.cell? ⟨w.heap.size, 1, none⟩ = some (.int .i64 x.n0) ∧ V.cell? ⟨w.heap.size, 2, none⟩ = some (.int .i64 x.n1) ∧ V.cell? ⟨w.heap.size, 3, none⟩ = some (.int .i64 x.n2) ∧ V.cell? ⟨w.heap.size, 4, none⟩ = some (.int .i64 x.n3) ∧ V.cell? ⟨w.heap.size, 5, none⟩ = some (.int .i64 x.n4) ∧ V.cell? ⟨w.heap.size, 6, none⟩ = some (.int .i64 x.n5) ∧ V.cell? ⟨w.heap.size, 7, none⟩ = some (.int .i64 x.n6) ∧ V.cell? ⟨w.heap.size, 8, none⟩ = some (.slice x.li.a x.li.n x.li.cap))
    (first | go_keep | (go_split_ands; refine ⟨?_, ?_, ?_, ?_, ?_, ?_, ?_, ?_, ?_⟩ <;> assumption))
    (first
      | (go_at_call 22; (with_reducible refine cB.mono ?_); rintro e wb ⟨⟨v, rfl, hob⟩, hbb⟩
         have j0 := cell_keep c0 (((Below.refl _ w2).drew).trans hbb)
         have j1 := cell_keep c1 (((Below.refl _ w2).drew).trans hbb)
         have j2 := cell_keep c2 (((Below.refl _ w2).drew).trans hbb)
         have j3 := cell_keep c3 (((Below.refl _ w2).drew).trans hbb)
         have j4 := cell_keep c4 (((Below.refl _ w2).drew).trans hbb)
         have j5 := cell_keep c5 (((Below.refl _ w2).drew).trans hbb)
         have j6 := cell_keep c6 (((Below.refl _ w2).drew).trans hbb)
         have j7 := cell_keep c7 (((Below.refl _ w2).drew).trans hbb)
         have j8 := cell_keep c8 (((Below.refl _ w2).drew).trans hbb)
         obtain ⟨⟨qa, qn, qc, qv⟩, rfl, hqn, hqv, hqi, _⟩ := own_row8 hob HBW.out (by have := HBL.out; omega)
         obtain rfl : qn = body.length := hqn
         have hqv2 : qv = body := hqv
         have HB5 := Lib.hid (hb2d.trans (hbb.mono hb2d.size))
         have cP := pack14 x.kind HKW.out ⟨qa, body.length, qc, qv⟩ wb hqi (by have := HBL.out; show body.length ≤ _; omega)
         simp only at cP
         rw [hqv2] at cP
         have HBL2 := Lib.hid (show body.length + 12 ≤ 9223372036854775807 by have := HBL.out; omega)
         clear hqv hqv2 hqi)
      | (go_at_call 21; (with_reducible refine cP.mono ?_); rintro e wc ⟨⟨v2, rfl, hoc⟩, hbc⟩
         obtain ⟨⟨ra, rn, rc, rv⟩, rfl, hrn, hrv, hi2, _⟩ := own_row8 hoc (frm_wf HKW.out HBW.out (by have := HBL.out; omega)) HBL2.out
         obtain rfl : rn = body.length + 12 := hrn
         have HV2 := Lib.hid hrv
         have HI2 := Lib.hid hi2
         have HB6 := Lib.hid (HB5.out.trans (hbc.mono HB5.out.size))
         have k0 := cell_keep j0 hbc
         have k1 := cell_keep j1 hbc
         have k2 := cell_keep j2 hbc
         have k3 := cell_keep j3 hbc
         have k4 := cell_keep j4 hbc
         have k5 := cell_keep j5 hbc
         have k6 := cell_keep j6 hbc
         have k7 := cell_keep j7 hbc
         have k8 := cell_keep j8 hbc))
  go_wp2_with fail
  go_ret2
  exact ⟨⟨_, rfl, HI2.out, by rw [HBD.out]; exact HV2.out⟩, HB6.out⟩

end Go.Proofs.Ytobogkilkmnpmaa
