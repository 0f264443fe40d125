/-
  Contract of the document's Same of messages.
-/
import Derived.Test.YtobogkilkmnpmaaDForm15
import Derived.Test.YtobogkilkmnpmaaSame15
namespace Go.Proofs.Ytobogkilkmnpmaa
open Go.RowKit Go.Maps
set_option linter.unusedVariables false
set_option linter.unusedSimpArgs false

set_option maxHeartbeats 6400000 in
set_option maxRecDepth 100000 in
theorem dsame15 (x y : Ms15) (w : World) (h : x.In w) (h2 : y.In w) :
    Calls Try.prog 12 #[.agg #[.int .i64 x.kind, .int .i64 x.n0, .int .i64 x.n1, .int .i64 x.n2, .int .i64 x.n3, .int .i64 x.n4, .int .i64 x.n5, .int .i64 x.n6, .slice x.li.a x.li.n x.li.cap], .agg #[.int .i64 y.kind, .int .i64 y.n0, .int .i64 y.n1, .int .i64 y.n2, .int .i64 y.n3, .int .i64 y.n4, .int .i64 y.n5, .int .i64 y.n6, .slice y.li.a y.li.n y.li.cap]] w fun e w' => e = .returned (.bool (sameM x y)) ∧ Below w.heap.size w w' := by
  have X0 := (ms_box x w).alloc (.cells #[.int .i64 y.kind, .int .i64 y.n0, .int .i64 y.n1, .int .i64 y.n2, .int .i64 y.n3, .int .i64 y.n4, .int .i64 y.n5, .int .i64 y.n6, .slice y.li.a y.li.n y.li.cap] 24)
  have Y0 : Box ((w.alloc (.cells #[.int .i64 x.kind, .int .i64 x.n0, .int .i64 x.n1, .int .i64 x.n2, .int .i64 x.n3, .int .i64 x.n4, .int .i64 x.n5, .int .i64 x.n6, .slice x.li.a x.li.n x.li.cap] 24)).alloc (.cells #[.int .i64 y.kind, .int .i64 y.n0, .int .i64 y.n1, .int .i64 y.n2, .int .i64 y.n3, .int .i64 y.n4, .int .i64 y.n5, .int .i64 y.n6, .slice y.li.a y.li.n y.li.cap] 24)) (w.heap.size + 1) 24 y.cells.toArray := box_at (World.size_alloc _ _).symm _ _
  have hb0 : Below w.heap.size w ((w.alloc (.cells #[.int .i64 x.kind, .int .i64 x.n0, .int .i64 x.n1, .int .i64 x.n2, .int .i64 x.n3, .int .i64 x.n4, .int .i64 x.n5, .int .i64 x.n6, .slice x.li.a x.li.n x.li.cap] 24)).alloc (.cells #[.int .i64 y.kind, .int .i64 y.n0, .int .i64 y.n1, .int .i64 y.n2, .int .i64 y.n3, .int .i64 y.n4, .int .i64 y.n5, .int .i64 y.n6, .slice y.li.a y.li.n y.li.cap] 24)) := ((Below.refl _ _).alloc (Nat.le_refl _) _).alloc (by simp) _
  have HLX := Lib.hid (h.below hb0).li
  have HLY := Lib.hid (h2.below hb0).li
  clear h h2
  go_enter Try.func12, Try.ntmps12
  go_upto_region 1 with fail
  generalize ((w.alloc (.cells #[.int .i64 x.kind, .int .i64 x.n0, .int .i64 x.n1, .int .i64 x.n2, .int .i64 x.n3, .int .i64 x.n4, .int .i64 x.n5, .int .i64 x.n6, .slice x.li.a x.li.n x.li.cap] 24)).alloc (.cells #[.int .i64 y.kind, .int .i64 y.n0, .int .i64 y.n1, .int .i64 y.n2, .int .i64 y.n3, .int .i64 y.n4, .int .i64 y.n5, .int .i64 y.n6, .slice y.li.a y.li.n y.li.cap] 24)) = w1 at X0 Y0 hb0 HLX HLY ⊢
  have HX := Lib.hid X0
  have HY := Lib.hid Y0
  have HB := Lib.hid hb0
  have a0 : w1.cell? ⟨w.heap.size, 0, none⟩ = some (.int .i64 x.kind) := X0.cell 0
  have b0 : w1.cell? ⟨w.heap.size + 1, 0, none⟩ = some (.int .i64 y.kind) := Y0.cell 0
  have a8 : w1.cell? ⟨w.heap.size, 8, none⟩ = some (.slice x.li.a x.li.n x.li.cap) := X0.cell 8
  have b8 : w1.cell? ⟨w.heap.size + 1, 8, none⟩ = some (.slice y.li.a y.li.n y.li.cap) := Y0.cell 8
  clear X0 Y0 hb0
  have LNA : ∀ (ty : TypeId) (W : World), Sem.run Try.prog (Builtin.len_ #[9] ty #[.string { data := #[101, 114, 112, 108, 115, 116, 107] }]) W = .ok (.int .i64 7) W := run_lenL [101, 114, 112, 108, 115, 116, 107]
  have IXA : Hid (∀ (i : Nat), i < 7 → ∀ W : World, Sem.run Try.prog (Instr.index 9 (.string { data := #[101, 114, 112, 108, 115, 116, 107] }) (.int .i64 (i : Int))) W = .ok (.int .u8 (lt15 i : Int)) W) := Lib.hid (fun i hi W => run_indexL [101, 114, 112, 108, 115, 116, 107] (by decide) i hi W)
  by_cases hkk : x.kind = y.kind
  · have HKK := Lib.hid hkk
    by_cases hnn : x.li.n = y.li.n
    · have HNN := Lib.hid hnn
      have hkb : (x.kind != y.kind) = false := by simpa using hkk
      have hnb : ((x.li.n : Int) != (y.li.n : Int)) = false := by simp; omega
      clear hkk hnn
      go_wp2_with fail
      clear hkb hnb a0 b0 a8 b8
      go_loopw [6] (fun i' wr => ∃ k : Nat, k ≤ 7 ∧ i' = .int .i64 k ∧ Hid (∀ i, i < k → x.num i = y.num i) ∧ Hid (Below w1.heap.size w1 wr)) (fun i' _ => 7 - (intOf i').toNat)
      case atStart => exact ⟨0, by omega, rfl, Lib.hid (fun i hi => by omega), Lib.hid (Below.refl _ _)⟩
      case round =>
        obtain ⟨k, hk, rfl, hT, hB⟩ := hrel
        by_cases hlt : k < 7
        · have ln := LNA 3 wr
          have ix : ∀ V, Sem.run Try.prog (Instr.index 9 (.string { data := #[101, 114, 112, 108, 115, 116, 107] }) (.int .i64 (k : Int))) V = .ok (.int .u8 (lt15 k : Int)) V := IXA.out k hlt
          have hlt2 : (k : Int) < 7 := by omega
          have D1 := dnum15 x k hlt
          have D2 := dnum15 y k hlt
          have hX := HX.out.bel hB.out
          have hY := HY.out.bel hB.out
          have a0 : wr.cell? ⟨w.heap.size, 0, none⟩ = some (.int .i64 x.kind) := hX.cell 0
          have a1 : wr.cell? ⟨w.heap.size, 1, none⟩ = some (.int .i64 x.n0) := hX.cell 1
          have a2 : wr.cell? ⟨w.heap.size, 2, none⟩ = some (.int .i64 x.n1) := hX.cell 2
          have a3 : wr.cell? ⟨w.heap.size, 3, none⟩ = some (.int .i64 x.n2) := hX.cell 3
          have a4 : wr.cell? ⟨w.heap.size, 4, none⟩ = some (.int .i64 x.n3) := hX.cell 4
          have a5 : wr.cell? ⟨w.heap.size, 5, none⟩ = some (.int .i64 x.n4) := hX.cell 5
          have a6 : wr.cell? ⟨w.heap.size, 6, none⟩ = some (.int .i64 x.n5) := hX.cell 6
          have a7 : wr.cell? ⟨w.heap.size, 7, none⟩ = some (.int .i64 x.n6) := hX.cell 7
          have a8 : wr.cell? ⟨w.heap.size, 8, none⟩ = some (.slice x.li.a x.li.n x.li.cap) := hX.cell 8
          have b0 : wr.cell? ⟨w.heap.size + 1, 0, none⟩ = some (.int .i64 y.kind) := hY.cell 0
          have b1 : wr.cell? ⟨w.heap.size + 1, 1, none⟩ = some (.int .i64 y.n0) := hY.cell 1
          have b2 : wr.cell? ⟨w.heap.size + 1, 2, none⟩ = some (.int .i64 y.n1) := hY.cell 2
          have b3 : wr.cell? ⟨w.heap.size + 1, 3, none⟩ = some (.int .i64 y.n2) := hY.cell 3
          have b4 : wr.cell? ⟨w.heap.size + 1, 4, none⟩ = some (.int .i64 y.n3) := hY.cell 4
          have b5 : wr.cell? ⟨w.heap.size + 1, 5, none⟩ = some (.int .i64 y.n4) := hY.cell 5
          have b6 : wr.cell? ⟨w.heap.size + 1, 6, none⟩ = some (.int .i64 y.n5) := hY.cell 6
          have b7 : wr.cell? ⟨w.heap.size + 1, 7, none⟩ = some (.int .i64 y.n6) := hY.cell 7
          have b8 : wr.cell? ⟨w.heap.size + 1, 8, none⟩ = some (.slice y.li.a y.li.n y.li.cap) := hY.cell 8
          generalize lt15 k = lc at *
          obtain ⟨n1, hn1⟩ : ∃ n, x.num k = n := ⟨_, rfl⟩
          obtain ⟨n2, hn2⟩ : ∃ n, y.num k = n := ⟨_, rfl⟩
          rw [hn1] at D1
          rw [hn2] at D2
          have HE : Hid (n1 = n2 → ∀ i, i < k + 1 → x.num i = y.num i) := Lib.hid (fun e => num_take hT.out (by rw [hn1, hn2, e]))
          have HNE : Hid (n1 ≠ n2 → sameM x y = false) := Lib.hid (fun e => sameM_no hlt (by rw [hn1, hn2]; exact e))
          clear hn1 hn2 hX hY
          go_upto_region 7 with fail
          go_cut [38] from 28 to 38 (fun v wx => v = .bool (n1 != n2) ∧ Hid (Below w1.heap.size w1 wx))
          case first =>
            have hbr : Below wr.heap.size wr wr.drew := (Below.refl _ wr).drew
            go_region_held3 (fun V => V.cell? ⟨w.heap.size, 0, none⟩ = some (.int .i64 x.kind) ∧ V.cell? ⟨w.heap.size, 1, none⟩ = some (.int .i64 x.n0) ∧ V.cell? ⟨w.heap.size, 2, none⟩ = some (.int .i64 x.n1) ∧ V.cell? ⟨w.heap.size, 3, none⟩ = some (.int .i64 x.n2) ∧ V.cell? ⟨w.heap.size, 4, none⟩ = some (.int .i64 x.n3) ∧ V.cell? ⟨w.heap.size, 5, none⟩ = some (.int .i64 x.n4) ∧ V.cell? ⟨w.heap.size, 6, none⟩ = some (.int .i64 x.n5) ∧ V.cell? ⟨w.heap.size, 7, none⟩ = some (.int .i64 x.n6) ∧ V.cell? ⟨w.heap.size, 8, none⟩ = some (.slice x.li.a x.li.n x.li.cap) ∧ V.cell? ⟨w.heap.size + 1, 0, none⟩ = some (.int .i64 y.kind) ∧ V.cell? ⟨w.heap.size + 1, 1, none⟩ = some (.int .i64 y.n0) ∧ V.cell? ⟨w.heap.size + 1, 2, none⟩ = some (.int .i64 y.n1) ∧ V.cell? ⟨w.heap.size + 1, 3, none⟩ = some (.int .i64 y.n2) ∧ V.cell? ⟨w.heap.size + 1, 4, none⟩ = some (.int .i64 y.n3) ∧ V.cell? ⟨w.heap.size + 1, 5, none⟩ = some (.int .i64 y.n4) ∧ V.cell? ⟨w.heap.size + 1, 6, none⟩ = some (.int .i64 y.n5) ∧ V.cell? ⟨w.heap.size + 1, 7, none⟩ = some (.int .i64 y.n6) ∧ V.cell? ⟨w.heap.size + 1, 8, none⟩ = some (.slice y.li.a y.li.n y.li.cap))
              (first | go_keep | (go_split_ands; refine ⟨?_, ?_, ?_, ?_, ?_, ?_, ?_, ?_, ?_, ?_, ?_, ?_, ?_, ?_, ?_, ?_, ?_, ?_⟩ <;> assumption))
              (first
                | (go_at_call 24; (with_reducible refine (D1 _).mono ?_); rintro e wb ⟨rfl, hbb⟩
                   have hbr := below_two hbr hbb
                   have ja0 := cell_keep a0 hbr
                   have ja1 := cell_keep a1 hbr
                   have ja2 := cell_keep a2 hbr
                   have ja3 := cell_keep a3 hbr
                   have ja4 := cell_keep a4 hbr
                   have ja5 := cell_keep a5 hbr
                   have ja6 := cell_keep a6 hbr
                   have ja7 := cell_keep a7 hbr
                   have ja8 := cell_keep a8 hbr
                   have jb0 := cell_keep b0 hbr
                   have jb1 := cell_keep b1 hbr
                   have jb2 := cell_keep b2 hbr
                   have jb3 := cell_keep b3 hbr
                   have jb4 := cell_keep b4 hbr
                   have jb5 := cell_keep b5 hbr
                   have jb6 := cell_keep b6 hbr
                   have jb7 := cell_keep b7 hbr
                   have jb8 := cell_keep b8 hbr)
                | (go_at_call 24; (with_reducible refine (D2 _).mono ?_); rintro e wb ⟨rfl, hbb⟩
                   have hbr := below_two hbr hbb
                   have ja0 := cell_keep a0 hbr
                   have ja1 := cell_keep a1 hbr
                   have ja2 := cell_keep a2 hbr
                   have ja3 := cell_keep a3 hbr
                   have ja4 := cell_keep a4 hbr
                   have ja5 := cell_keep a5 hbr
                   have ja6 := cell_keep a6 hbr
                   have ja7 := cell_keep a7 hbr
                   have ja8 := cell_keep a8 hbr
                   have jb0 := cell_keep b0 hbr
                   have jb1 := cell_keep b1 hbr
                   have jb2 := cell_keep b2 hbr
                   have jb3 := cell_keep b3 hbr
                   have jb4 := cell_keep b4 hbr
                   have jb5 := cell_keep b5 hbr
                   have jb6 := cell_keep b6 hbr
                   have jb7 := cell_keep b7 hbr
                   have jb8 := cell_keep b8 hbr))
            all_goals (have hB9 := Lib.hid (below_two hB.out hbr); go_wp2_with fail; go_meet; case rel => exact ⟨rfl, hB9⟩)
          obtain ⟨rfl, hBc⟩ := hcut
          by_cases he : n1 = n2
          · have hz := Lib.hid (HE.out he)
            have hb : (n1 != n2) = false := by simpa using he
            rw [hb]
            clear D1 D2 ix he hb a0 a1 a2 a3 a4 a5 a6 a7 a8 b0 b1 b2 b3 b4 b5 b6 b7 b8
            go_wp2_with fail
            go_roundw
            case rel => exact ⟨k + 1, by omega, by go_num, hz, hBc⟩
            case measure => simp [intOf]; omega
          · have hz := Lib.hid (HNE.out he)
            have hb : (n1 != n2) = true := by simpa using he
            rw [hb]
            clear D1 D2 ix he hb a0 a1 a2 a3 a4 a5 a6 a7 a8 b0 b1 b2 b3 b4 b5 b6 b7 b8
            go_wp2_with fail
            go_ret
            exact ⟨ret_bool hz.out.symm, (HB.out.trans (hBc.out.mono HB.out.size))⟩
        · obtain rfl : k = 7 := by omega
          have ln := LNA 3 wr
          have hBw := Lib.hid (HB.out.trans (hB.out.mono HB.out.size))
          have a8 : wr.cell? ⟨w.heap.size, 8, none⟩ = some (.slice x.li.a x.li.n x.li.cap) := (HX.out.bel hB.out).cell 8
          have b8 : wr.cell? ⟨w.heap.size + 1, 8, none⟩ = some (.slice y.li.a y.li.n y.li.cap) := (HY.out.bel hB.out).cell 8
          have hEX := Lib.hid (HLX.out.below hB.out).1
          have hEY := Lib.hid (HLY.out.below hB.out).1
          have hll := HLX.out.1.2.1
          go_wp2_with fail
          generalize wr = w5 at *
          go_loopw [7] (fun i' wr => ∃ (j d : Nat), j ≤ x.li.n ∧ i' = .int .i64 j ∧ Hid (x.li.v.take j = y.li.v.take j) ∧ wr = w5.drewN d) (fun i' _ => x.li.n - (intOf i').toNat)
          case atStart => exact ⟨0, 0, by omega, rfl, Lib.hid rfl, rfl⟩
          case round =>
            obtain ⟨j, d, hj, rfl, hV, rfl⟩ := hrel
            by_cases hlt : j < x.li.n
            · obtain ⟨p, o, v, hpa, hc, hv, wv⟩ := hEX.out.at_ hlt
              obtain ⟨p', o', u, hpb, hc', hu, wu⟩ := hEY.out.at_ (show j < y.li.n by have := HNN.out; omega)
              have l1 : j < x.li.v.length := by rw [hEX.out.1]; exact hlt
              have l2 : j < y.li.v.length := by rw [hEY.out.1, ← HNN.out]; exact hlt
              have hlt3 : j < y.li.n := by have := HNN.out; omega
              rw [hpa] at a8
              rw [hpb] at b8
              have hlt2 : (j : Int) < (x.li.n : Int) := by omega
              have hlt4 : (j : Int) < (y.li.n : Int) := by omega
              clear wv wu hpa hpb
              by_cases hvu : v = u
              · subst hvu
                have hst : Hid (x.li.v.take (j + 1) = y.li.v.take (j + 1)) := Lib.hid (take_next1 l1 l2 hV.out (by rw [hv.out, hu.out]))
                clear l1 l2 hv hu
                go_wp2_with fail
                go_quiet (fail)
                go_wp2
                go_roundw
                case rel => exact ⟨j + 1, _, by omega, by go_num, hst, rfl⟩
                case measure => simp [intOf]; omega
              · have hz : Hid (sameM x y = false) := Lib.hid (by
                  have hP : ¬ sameP x y := fun h => hvu (by rw [← hv.out, ← hu.out, h.2.2])
                  exact decide_eq_false hP)
                have hbne : (v == u) = false := by simpa using hvu
                have hbne2 : (v != u) = true := by simpa using hvu
                clear l1 l2 hv hu
                go_wp2_with fail
                go_quiet (fail)
                go_wp2
                go_ret
                exact ⟨ret_bool hz.out.symm, below_drewN (below_drewN hBw.out _) _⟩
            · obtain rfl : j = x.li.n := by omega
              have hz : Hid (sameM x y = true) := Lib.hid (by
                have h1 := hV.out
                rw [List.take_of_length_le (by rw [hEX.out.1]; exact Nat.le_refl _), List.take_of_length_le (by rw [hEY.out.1, HNN.out]; exact Nat.le_refl _)] at h1
                have hP : sameP x y := ⟨HKK.out, hT.out, h1⟩
                exact decide_eq_true hP)
              go_wp2_with fail
              go_ret
              exact ⟨ret_bool hz.out.symm, below_drewN hBw.out _⟩
    · have hz : Hid (sameM x y = false) := Lib.hid (by
        have hP : ¬ sameP x y := fun h => hnn (by rw [← HLX.out.1.1, ← HLY.out.1.1, h.2.2])
        exact decide_eq_false hP)
      have hkb : (x.kind != y.kind) = false := by simpa using hkk
      have hnb : ((x.li.n : Int) != (y.li.n : Int)) = true := by simp; omega
      clear hkk hnn
      go_wp2_with fail
      go_ret
      exact ⟨ret_bool hz.out.symm, HB.out⟩
  · have hz : Hid (sameM x y = false) := Lib.hid (by
      have hP : ¬ sameP x y := fun h => hkk h.1
      exact decide_eq_false hP)
    have hkb : (x.kind != y.kind) = true := by simpa using hkk
    clear hkk
    go_wp2_with fail
    go_ret
    exact ⟨ret_bool hz.out.symm, HB.out⟩

end Go.Proofs.Ytobogkilkmnpmaa
