/-
  Contract of the document's Bytes of messages.
-/
import Derived.Test.YtobogkilkmnpmaaDForm15
import Derived.Test.YtobogkilkmnpmaaPut15
namespace Go.Proofs.Ytobogkilkmnpmaa
open Go.RowKit Go.Maps
set_option linter.unusedVariables false
set_option linter.unusedSimpArgs false

/-- the number of a letter -/
def iL (c : Nat) : Nat := if c = 101 then 0 else if c = 114 then 1 else if c = 112 then 2 else if c = 108 then 3 else if c = 115 then 4 else if c = 116 then 5 else 6
/-- a letter's bytes -/
def dB (x : Ms15) (c : Nat) : List Int := if c = 43 then beS 2 x.li.n ++ itemsL x.li.v else beS 5 (x.num (iL c)).toNat
/-- the letters' bytes -/
def dbody (l : List Nat) (x : Ms15) : List Int := l.flatMap (dB x)
theorem dbody_step (l : List Nat) (x : Ms15) (i : Nat) (hi : i < l.length) : dbody (l.take (i + 1)) x = dbody (l.take i) x ++ dB x (l.getD i 0) := by
  unfold dbody
  rw [List.take_add_one, List.flatMap_append]
  simp [List.getD, List.getElem?_eq_getElem hi]
theorem iL_lt (j : Nat) (hj : j < 7) : iL (lt15 j) = j ∧ lt15 j ≠ 43 := by
  have h7 : j = 0 ∨ j = 1 ∨ j = 2 ∨ j = 3 ∨ j = 4 ∨ j = 5 ∨ j = 6 := by omega
  rcases h7 with rfl | rfl | rfl | rfl | rfl | rfl | rfl <;> decide
theorem fl_let (k : Int) : ∀ c ∈ fl k, c ≠ 43 → ∃ j, j < 7 ∧ c = lt15 j := by
  have h : ∀ c, c = 101 ∨ c = 114 ∨ c = 112 ∨ c = 108 ∨ c = 115 ∨ c = 116 ∨ c = 107 → ∃ j, j < 7 ∧ c = lt15 j := by
    intro c hc
    rcases hc with rfl | rfl | rfl | rfl | rfl | rfl | rfl
    · exact ⟨0, by decide, rfl⟩
    · exact ⟨1, by decide, rfl⟩
    · exact ⟨2, by decide, rfl⟩
    · exact ⟨3, by decide, rfl⟩
    · exact ⟨4, by decide, rfl⟩
    · exact ⟨5, by decide, rfl⟩
    · exact ⟨6, by decide, rfl⟩
  have h2 : ∀ c ∈ fl k, c = 43 ∨ c = 101 ∨ c = 114 ∨ c = 112 ∨ c = 108 ∨ c = 115 ∨ c = 116 ∨ c = 107 := by
    rcases kind_cases k with rfl | rfl | rfl | rfl | rfl | rfl | rfl | rfl | rfl | rfl | rfl | rfl | rfl | h
    case inr.inr.inr.inr.inr.inr.inr.inr.inr.inr.inr.inr.inr => rw [fl_none h]; simp
    all_goals decide
  intro c hc hne
  rcases h2 c hc with h3 | h3
  · exact absurd h3 hne
  · exact h c h3
theorem dbody_eq (x : Ms15) (k : Int) : dbody (fl k) x = bodyM (fm k) x := by
  rcases kind_cases k with rfl | rfl | rfl | rfl | rfl | rfl | rfl | rfl | rfl | rfl | rfl | rfl | rfl | h
  case inr.inr.inr.inr.inr.inr.inr.inr.inr.inr.inr.inr.inr => rw [fl_none h, fm_none h]; simp [dbody, bodyM, numsL]
  all_goals simp [dbody, dB, iL, fl, fm, bodyM, numsL, List.range_succ, Nat.testBit, Nat.shiftRight_eq_div_pow]

theorem be5_eq (N : Nat) : beS 5 N = [((N / 4294967296 % 256 : Nat) : Int), ((N / 16777216 % 256 : Nat) : Int), ((N / 65536 % 256 : Nat) : Int), ((N / 256 % 256 : Nat) : Int), ((N % 256 : Nat) : Int)] := by
  simp [beS, List.range_succ]
theorem be4_eq (N : Nat) : beS 4 N = [((N / 16777216 % 256 : Nat) : Int), ((N / 65536 % 256 : Nat) : Int), ((N / 256 % 256 : Nat) : Int), ((N % 256 : Nat) : Int)] := by
  simp [beS, List.range_succ]
theorem be2_eq (N : Nat) : beS 2 N = [((N / 256 % 256 : Nat) : Int), ((N % 256 : Nat) : Int)] := by
  simp [beS, List.range_succ]

set_option maxHeartbeats 6400000 in
set_option maxRecDepth 100000 in
theorem dbytes15 (x : Ms15) (w : World) (h : x.In w) (hr : rightM x = true) :
    Calls Try.prog 14 #[.agg #[.int .i64 x.kind, .int .i64 x.n0, .int .i64 x.n1, .int .i64 x.n2, .int .i64 x.n3, .int .i64 x.n4, .int .i64 x.n5, .int .i64 x.n6, .slice x.li.a x.li.n x.li.cap]] w fun e w' => OwnB w.heap.size ((bodyM (fm x.kind) x).length + 12) (frm x.kind (bodyM (fm x.kind) x)) e w' ∧ Below w.heap.size w w' := by
  have X := ms_box x w
  have hB1 := (Below.refl w.heap.size w).alloc (Nat.le_refl _) (.cells #[.int .i64 x.kind, .int .i64 x.n0, .int .i64 x.n1, .int .i64 x.n2, .int .i64 x.n3, .int .i64 x.n4, .int .i64 x.n5, .int .i64 x.n6, .slice x.li.a x.li.n x.li.cap] 24)
  obtain ⟨h0, hok, hln⟩ := right_parts hr
  have hbl := bodyM_len (fm x.kind) rfl h.li.1.1 hr
  have hkb := fm_some h0
  have hmn : x.li.n ≤ 4096 := by unfold most15 at hln; split at hln <;> omega
  have F1 := form15 x.kind
  have HDB := Lib.hid (dbody_eq x x.kind)
  have HLT := Lib.hid (fl_let x.kind)
  have HN := Lib.hid (fun (i : Nat) (hi : i < 7) => okn_bd (hok i hi))
  have HBL := Lib.hid hbl
  obtain ⟨l, hl⟩ : ∃ l, fl x.kind = l := ⟨_, rfl⟩
  have HW := fl_wf x.kind
  rw [hl] at F1 HDB HLT HW
  have LN := run_lenL l
  have IX := Lib.hid (run_indexL l HW.1)
  have HIl := Lib.hid (h.below hB1).li
  obtain ⟨nl, hnl⟩ : ∃ nl, l.length = nl := ⟨_, rfl⟩
  have HNL := Lib.hid hnl
  have hn7 : nl ≤ 7 := by rw [← hnl]; exact HW.2
  rw [hnl] at LN
  generalize strL l = S at F1 LN IX
  clear hl HW hnl hok hln hbl h hr h0
  go_enter Try.func14, Try.ntmps14
  go_upto_region 1 with fail
  have hs1 : (w.alloc (.cells #[.int .i64 x.kind, .int .i64 x.n0, .int .i64 x.n1, .int .i64 x.n2, .int .i64 x.n3, .int .i64 x.n4, .int .i64 x.n5, .int .i64 x.n6, .slice x.li.a x.li.n x.li.cap] 24)).heap.size = w.heap.size + 1 := World.size_alloc _ _
  generalize (w.alloc (.cells #[.int .i64 x.kind, .int .i64 x.n0, .int .i64 x.n1, .int .i64 x.n2, .int .i64 x.n3, .int .i64 x.n4, .int .i64 x.n5, .int .i64 x.n6, .slice x.li.a x.li.n x.li.cap] 24)) = w1 at X hB1 hs1 HIl ⊢
  have c0 : w1.cell? ⟨w.heap.size, 0, none⟩ = some (.int .i64 x.kind) := X.cell 0
  have HX := Lib.hid X
  have HB := Lib.hid hB1
  have HS1 := Lib.hid hs1
  clear X hB1 hs1
  go_wp2_with (go_at_call 17; refine (F1 _).mono ?_; rintro e w1 ⟨rfl, rfl⟩)
  clear F1 c0
  go_loopw [4, 5] (fun v' i' wr => ∃ i n : Nat, i ≤ nl ∧ i' = .int .i64 i ∧ n ≤ 16421 ∧ n = (dbody (l.take i) x).length ∧ Hid (wr.ownsRow w1.heap.size 5 1 v' n ((dbody (l.take i) x).map (.int .u8))) ∧ Hid (Below w1.heap.size w1 wr)) (fun _ i' _ => nl - (intOf i').toNat)
  case atStart => exact ⟨0, 0, by omega, rfl, by omega, rfl, Lib.hid (own_nil _ _ _), Lib.hid (Below.refl _ _)⟩
  case round =>
    obtain ⟨i, n, hi, rfl, hn16, hnn, hO, hB⟩ := hrel
    have ln := LN 3 wr
    by_cases hlt : i < nl
    · have hil : i < l.length := by rw [HNL.out]; exact hlt
      have ix := IX.out i hil wr
      have hst := dbody_step l x i hil
      have hlt2 : (i : Int) < (nl : Int) := by omega
      have hle : (dbody (l.take (i + 1)) x).length ≤ 16421 := by
        have h1 : dbody l x = dbody (l.take (i + 1)) x ++ dbody (l.drop (i + 1)) x := by unfold dbody; rw [← List.flatMap_append, List.take_append_drop]
        have h2 := HBL.out
        rw [← HDB.out, h1, List.length_append] at h2
        omega
      have hcm : l.getD i 0 ∈ l := by
        have h2 : l.getD i 0 = l[i] := by simp [List.getD, List.getElem?_eq_getElem hil]
        rw [h2]; exact List.getElem_mem _
      by_cases hc : l.getD i 0 = 43
      · rw [hc] at ix hst
        have hd : dB x 43 = beS 2 x.li.n ++ itemsL x.li.v := rfl
        rw [hd] at hst
        have hX := HX.out.bel hB.out
        have c8 : wr.cell? ⟨w.heap.size, 8, none⟩ = some (.slice x.li.a x.li.n x.li.cap) := hX.cell 8
        have hbw := hB.out.size
        obtain ⟨v2, w2, hrun0, ho2, hg2, _⟩ := run_append_lits (P := Try.prog) .u8 wr w1.heap.size 27 5 1 (by omega) Try.underlying27 info_u8 _ n 2 _ (beS 2 x.li.n) _ rfl (beS_len _ _) hO.out (by omega) (by omega) hbw
        obtain ⟨q1, hq1⟩ : ∃ q, x.li.n / 256 % 256 = q := ⟨_, rfl⟩
        obtain ⟨q2, hq2⟩ : ∃ q, x.li.n % 256 = q := ⟨_, rfl⟩
        have hrun : Sem.run Try.prog (Builtin.append_ #[27, 27] 27 #[u4, .slice (some ⟨wr.heap.size, 0, none⟩) 2 2]) (wr.alloc (.cells #[.int .u8 (q1 : Nat), .int .u8 (q2 : Nat)] 5)) = .ok v2 w2 := by
          rw [be2_eq, hq1, hq2] at hrun0; exact hrun0
        have t1 : IntKind.u8.wrap ((x.li.n : Int) / 256) = (q1 : Int) := by rw [IntKind.wrap_u8']; omega
        have t2 : (x.li.n : Int) % 256 = (q2 : Int) := by omega
        have t3 : IntKind.u8.wrap (q2 : Int) = (q2 : Int) := by rw [IntKind.wrap_u8']; omega
        have HO2 := Lib.hid ho2
        have HB2 := Lib.hid (hB.out.grown hg2 hbw (fun b hb => (hO.out.lt b hb).1))
        have HST := Lib.hid hst
        have HNN := Lib.hid hnn
        have HLE := Lib.hid hle
        have HIC := Lib.hid (HIl.out.below HB2.out)
        have d8 : w2.cell? ⟨w.heap.size, 8, none⟩ = some (.slice x.li.a x.li.n x.li.cap) := (HX.out.bel HB2.out).cell 8
        clear hrun0 ho2 hg2 hO hB hX hst hnn hle hcm hc hd hq1 hq2 hbw
        go_wp2_with (at_builtin; refine wpList_append_at (by rfl) _ _ _ (by rfl) _ _ (by rfl) (by rfl) hrun ?_)
        clear hrun t1 t2 t3 c8 d8 ix ln
        generalize w2 = wz at *
        go_loopw [4, 6] (fun v' j' wr => ∃ j : Nat, j ≤ x.li.n ∧ j' = .int .i64 j ∧ Hid (wr.ownsRow w1.heap.size 5 1 v' (n + 2 + 4 * j) ((dbody (l.take i) x ++ beS 2 x.li.n ++ itemsL (x.li.v.take j)).map (.int .u8))) ∧ Hid (Below w1.heap.size w1 wr)) (fun _ j' _ => x.li.n - (intOf j').toNat)
        case atStart => exact ⟨0, by omega, rfl, Lib.hid (by simpa [itemsL] using HO2.out), HB2⟩
        case round =>
          obtain ⟨j, hj, rfl, hO, hB⟩ := hrel
          have hX := HX.out.bel hB.out
          have c8 : wr.cell? ⟨w.heap.size, 8, none⟩ = some (.slice x.li.a x.li.n x.li.cap) := hX.cell 8
          by_cases hlt : j < x.li.n
          · obtain ⟨b, off, z, hb, hcz, hz, wz⟩ := (HIl.out.below hB.out).1.at_ hlt
            have hsi := itemsL_step x.li.v j (by rw [HIC.out.1.1]; exact hlt)
            rw [hz.out] at hsi
            have z1 := wf32 wz
            have z2 := u32_lt z
            have t0 : IntKind.u32.wrap z = ((u32n z : Nat) : Int) := by unfold u32n; rw [IntKind.wrap_u32]; omega
            have hlt2 : (j : Int) < (x.li.n : Int) := by omega
            have hbw := hB.out.size
            obtain ⟨v2, w2, hrun0, ho2, hg2, _⟩ := run_append_lits (P := Try.prog) .u8 wr w1.heap.size 27 5 1 (by omega) Try.underlying27 info_u8 _ (n + 2 + 4 * j) 4 _ (beS 4 (u32n z)) _ rfl (beS_len _ _) hO.out (by omega) (by omega) hbw
            rw [List.append_assoc, ← hsi] at ho2
            generalize u32n z = Z at *
            obtain ⟨q1, hq1⟩ : ∃ q, Z / 16777216 % 256 = q := ⟨_, rfl⟩
            obtain ⟨q2, hq2⟩ : ∃ q, Z / 65536 % 256 = q := ⟨_, rfl⟩
            obtain ⟨q3, hq3⟩ : ∃ q, Z / 256 % 256 = q := ⟨_, rfl⟩
            obtain ⟨q4, hq4⟩ : ∃ q, Z % 256 = q := ⟨_, rfl⟩
            have hrun : Sem.run Try.prog (Builtin.append_ #[27, 27] 27 #[u4, .slice (some ⟨wr.heap.size, 0, none⟩) 4 4]) (wr.alloc (.cells #[.int .u8 (q1 : Nat), .int .u8 (q2 : Nat), .int .u8 (q3 : Nat), .int .u8 (q4 : Nat)] 5)) = .ok v2 w2 := by
              rw [be4_eq, hq1, hq2, hq3, hq4] at hrun0; exact hrun0
            have t1 : IntKind.u8.wrap ((Z : Int) / 16777216) = (q1 : Int) := by rw [IntKind.wrap_u8']; omega
            have t2 : IntKind.u8.wrap ((Z : Int) / 65536) = (q2 : Int) := by rw [IntKind.wrap_u8']; omega
            have t3 : IntKind.u8.wrap ((Z : Int) / 256) = (q3 : Int) := by rw [IntKind.wrap_u8']; omega
            have t4 : IntKind.u8.wrap (Z : Int) = (q4 : Int) := by rw [IntKind.wrap_u8']; omega
            have HOn : Hid (w2.ownsRow w1.heap.size 5 1 v2 (n + 2 + 4 * (j + 1)) ((dbody (l.take i) x ++ beS 2 x.li.n ++ itemsL (x.li.v.take (j + 1))).map (.int .u8))) := Lib.hid (by rw [show n + 2 + 4 * (j + 1) = n + 2 + 4 * j + 4 by omega]; exact ho2)
            have HBn := Lib.hid (hB.out.grown hg2 hbw (fun b hb => (hO.out.lt b hb).1))
            rw [hb] at c8
            clear hrun0 ho2 hg2 hO hB hX hsi hz wz z1 hb hq1 hq2 hq3 hq4 hbw
            go_wp2_with (at_builtin; refine wpList_append_at (by rfl) _ _ _ (by rfl) _ _ (by rfl) (by rfl) hrun ?_)
            go_roundw
            case rel => exact ⟨j + 1, by omega, by go_num, HOn, HBn⟩
            case measure => simp [intOf]; omega
          · obtain rfl : j = x.li.n := by omega
            have hO3 : Hid (wr.ownsRow w1.heap.size 5 1 u4 (n + 2 + 4 * x.li.n) ((dbody (l.take (i + 1)) x).map (.int .u8))) := Lib.hid (by
              have h1 := hO.out
              rw [List.take_of_length_le (l := x.li.v) (by rw [HIC.out.1.1]; exact Nat.le_refl _), List.append_assoc, ← HST.out] at h1
              exact h1)
            have hl3 : Hid (n + 2 + 4 * x.li.n = (dbody (l.take (i + 1)) x).length) := Lib.hid (by rw [HST.out, List.length_append, List.length_append, beS_len, itemsL_len, HIC.out.1.1, HNN.out]; omega)
            have hl4 : n + 2 + 4 * x.li.n ≤ 16421 := by rw [hl3.out]; exact HLE.out
            clear hO hX
            go_wp2_with fail
            go_roundw
            case rel => exact ⟨i + 1, n + 2 + 4 * x.li.n, by omega, by go_num, hl4, hl3.out, hO3, hB⟩
            case measure => simp [intOf]; omega
      · obtain ⟨j, hj, hcj⟩ := HLT.out _ hcm hc
        have hij := iL_lt j hj
        rw [hcj] at ix hst
        have hd : dB x (lt15 j) = beS 5 (x.num j).toNat := by unfold dB; rw [if_neg hij.2, hij.1]
        rw [hd] at hst
        have wN := HN.out j hj
        have DN := dnum15 x j hj wr.drew
        have hX := HX.out.bel hB.out
        have m0 : wr.cell? ⟨w.heap.size, 0, none⟩ = some (.int .i64 x.kind) := hX.cell 0
        have m1 : wr.cell? ⟨w.heap.size, 1, none⟩ = some (.int .i64 x.n0) := hX.cell 1
        have m2 : wr.cell? ⟨w.heap.size, 2, none⟩ = some (.int .i64 x.n1) := hX.cell 2
        have m3 : wr.cell? ⟨w.heap.size, 3, none⟩ = some (.int .i64 x.n2) := hX.cell 3
        have m4 : wr.cell? ⟨w.heap.size, 4, none⟩ = some (.int .i64 x.n3) := hX.cell 4
        have m5 : wr.cell? ⟨w.heap.size, 5, none⟩ = some (.int .i64 x.n4) := hX.cell 5
        have m6 : wr.cell? ⟨w.heap.size, 6, none⟩ = some (.int .i64 x.n5) := hX.cell 6
        have m7 : wr.cell? ⟨w.heap.size, 7, none⟩ = some (.int .i64 x.n6) := hX.cell 7
        have m8 : wr.cell? ⟨w.heap.size, 8, none⟩ = some (.slice x.li.a x.li.n x.li.cap) := hX.cell 8
        have ix2 : ∀ V, Sem.run Try.prog (Instr.index 9 (.string S) (.int .i64 (i : Int))) V = .ok (.int .u8 (lt15 j : Int)) V := fun V => by have := IX.out i hil V; rw [hcj] at this; exact this
        have hne43 : ((lt15 j : Int) == 43) = false := by have := hij.2; simp; omega
        generalize lt15 j = lc at *
        obtain ⟨N, hN⟩ : ∃ N : Nat, x.num j = N := ⟨(x.num j).toNat, by omega⟩
        rw [hN] at DN hst wN
        rw [Int.toNat_natCast] at hst
        clear hX hcm hc hd hij hcj hN
        go_upto_region 13 with fail
        go_cut [8] from 62 to 66 (fun v wx => v = .int .i64 (N : Int) ∧ Hid (wx.ownsRow w1.heap.size 5 1 u4 n ((dbody (l.take i) x).map (.int .u8))) ∧ Hid (Below w1.heap.size w1 wx))
        case first =>
          have q0 := ix2 wr.drew
          have hbr : Below wr.heap.size wr wr.drew := (Below.refl _ wr).drew
          go_region_held3 (fun V => V.cell? ⟨w.heap.size, 0, none⟩ = some (.int .i64 x.kind) ∧ V.cell? ⟨w.heap.size, 1, none⟩ = some (.int .i64 x.n0) ∧ V.cell? ⟨w.heap.size, 2, none⟩ = some (.int .i64 x.n1) ∧ V.cell? ⟨w.heap.size, 3, none⟩ = some (.int .i64 x.n2) ∧ V.cell? ⟨w.heap.size, 4, none⟩ = some (.int .i64 x.n3) ∧ V.cell? ⟨w.heap.size, 5, none⟩ = some (.int .i64 x.n4) ∧ V.cell? ⟨w.heap.size, 6, none⟩ = some (.int .i64 x.n5) ∧ V.cell? ⟨w.heap.size, 7, none⟩ = some (.int .i64 x.n6) ∧ V.cell? ⟨w.heap.size, 8, none⟩ = some (.slice x.li.a x.li.n x.li.cap))
            (first | go_keep | (go_split_ands; refine ⟨?_, ?_, ?_, ?_, ?_, ?_, ?_, ?_, ?_⟩ <;> assumption))
            (first
              | (go_at_call 24; (with_reducible refine DN.mono ?_); rintro e wb ⟨rfl, hbb⟩
                 have hbr := below_two hbr hbb
                 have j0 := cell_keep m0 hbr
                 have j1 := cell_keep m1 hbr
                 have j2 := cell_keep m2 hbr
                 have j3 := cell_keep m3 hbr
                 have j4 := cell_keep m4 hbr
                 have j5 := cell_keep m5 hbr
                 have j6 := cell_keep m6 hbr
                 have j7 := cell_keep m7 hbr
                 have j8 := cell_keep m8 hbr))
          all_goals (have hB9 := Lib.hid (hB.out.trans (hbr.mono hB.out.size)); have hO9 := Lib.hid (own_below hO.out hbr); go_wp2_with fail; go_meet; case rel => exact ⟨rfl, hO9, hB9⟩)
        obtain ⟨rfl, hOc, hBc⟩ := hcut
        clear DN ix ix2 m0 m1 m2 m3 m4 m5 m6 m7 m8 hO hB hne43
        have hbw := hBc.out.size
        obtain ⟨v2, w2, hrun0, ho2, hg2, _⟩ := run_append_lits (P := Try.prog) .u8 wc w1.heap.size 27 5 1 (by omega) Try.underlying27 info_u8 _ n 5 _ (beS 5 N) _ rfl (beS_len _ _) hOc.out (by omega) (by omega) hbw
        obtain ⟨q0, hq0⟩ : ∃ q, N / 4294967296 % 256 = q := ⟨_, rfl⟩
        obtain ⟨q1, hq1⟩ : ∃ q, N / 16777216 % 256 = q := ⟨_, rfl⟩
        obtain ⟨q2, hq2⟩ : ∃ q, N / 65536 % 256 = q := ⟨_, rfl⟩
        obtain ⟨q3, hq3⟩ : ∃ q, N / 256 % 256 = q := ⟨_, rfl⟩
        obtain ⟨q4, hq4⟩ : ∃ q, N % 256 = q := ⟨_, rfl⟩
        have hrun : Sem.run Try.prog (Builtin.append_ #[27, 27] 27 #[u4, .slice (some ⟨wc.heap.size, 0, none⟩) 5 5]) (wc.alloc (.cells #[.int .u8 (q0 : Nat), .int .u8 (q1 : Nat), .int .u8 (q2 : Nat), .int .u8 (q3 : Nat), .int .u8 (q4 : Nat)] 5)) = .ok v2 w2 := by
          rw [be5_eq, hq0, hq1, hq2, hq3, hq4] at hrun0; exact hrun0
        have t0 : IntKind.u8.wrap ((N : Int) / 4294967296) = (q0 : Int) := by rw [IntKind.wrap_u8']; omega
        have t1 : IntKind.u8.wrap ((N : Int) / 16777216) = (q1 : Int) := by rw [IntKind.wrap_u8']; omega
        have t2 : IntKind.u8.wrap ((N : Int) / 65536) = (q2 : Int) := by rw [IntKind.wrap_u8']; omega
        have t3 : IntKind.u8.wrap ((N : Int) / 256) = (q3 : Int) := by rw [IntKind.wrap_u8']; omega
        have t4 : IntKind.u8.wrap (N : Int) = (q4 : Int) := by rw [IntKind.wrap_u8']; omega
        have HOn : Hid (w2.ownsRow w1.heap.size 5 1 v2 (n + 5) ((dbody (l.take (i + 1)) x).map (.int .u8))) := Lib.hid (by rw [hst]; exact ho2)
        have HBn := Lib.hid (hBc.out.grown hg2 hbw (fun b hb => (hOc.out.lt b hb).1))
        have HNn : Hid (n + 5 = (dbody (l.take (i + 1)) x).length) := Lib.hid (by rw [hst, List.length_append, beS_len, hnn])
        have hn5 : n + 5 ≤ 16421 := by rw [HNn.out]; exact hle
        clear hrun0 ho2 hg2 hOc hBc hst hle hq0 hq1 hq2 hq3 hq4 hbw hnn
        go_wp2_with (at_builtin; refine wpList_append_at (by rfl) _ _ _ (by rfl) _ _ (by rfl) (by rfl) hrun ?_)
        go_roundw
        case rel => exact ⟨i + 1, n + 5, by omega, by go_num, hn5, HNn.out, HOn, HBn⟩
        case measure => simp [intOf]; omega
    · obtain rfl : i = nl := by omega
      have hX := HX.out.bel hB.out
      have c0 : wr.cell? ⟨w.heap.size, 0, none⟩ = some (.int .i64 x.kind) := hX.cell 0
      have hbw : Below w.heap.size w wr := HB.out.trans (hB.out.mono HB.out.size)
      have hO2 := hO.out
      rw [List.take_of_length_le (by rw [HNL.out]; exact Nat.le_refl _), HDB.out] at hO2
      rw [List.take_of_length_le (by rw [HNL.out]; exact Nat.le_refl _), HDB.out] at hnn
      have HBL2 := HBL.out
      obtain ⟨body, hbd⟩ : ∃ body, bodyM (fm x.kind) x = body := ⟨_, rfl⟩
      have HBD := Lib.hid hbd
      have hwb : ∀ y ∈ body, (Lit.int .u8 y).wf = true := by rw [← hbd]; exact bodyM_wf _ x
      rw [hbd] at hO2 hnn HBL2
      obtain ⟨⟨qa, qn, qc, qv⟩, rfl, hqn, hqv, hqi, _⟩ := own_row8 hO2 hwb (by omega)
      obtain rfl : qn = n := hqn
      have hqv2 : qv = body := hqv
      have hkw : (Lit.int .u8 x.kind).wf = true := b14_wf _ (by omega) (by omega)
      have P1 := dpack14 x.kind hkw ⟨qa, qn, qc, qv⟩ wr hqi (by show qn ≤ _; omega)
      simp only at P1
      rw [hqv2] at P1
      have t1 : IntKind.u8.wrap x.kind = x.kind := by rw [IntKind.wrap_u8']; omega
      have HBW := Lib.hid hbw
      have HNN := Lib.hid hnn
      clear hX hO hO2 hnn hbd hwb hqv hqv2 hqi hkw hbw hB
      go_wp2_with fail
      refine P1.mono ?_
      rintro e w5 ⟨⟨v5, rfl, ho5⟩, hb5⟩
      have HO5 := Lib.hid (own_mono ho5 HBW.out.size)
      have HB5 := Lib.hid (HBW.out.trans (hb5.mono HBW.out.size))
      clear P1 ho5 hb5
      go_wp2_with fail
      go_ret
      exact ⟨⟨_, rfl, by rw [HBD.out, ← HNN.out]; exact HO5.out⟩, HB5.out⟩

end Go.Proofs.Ytobogkilkmnpmaa
