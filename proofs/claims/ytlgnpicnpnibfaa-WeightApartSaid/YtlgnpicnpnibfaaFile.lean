/-
  The document's File: its contract.
-/
import Derived.Test.YtlgnpicnpnibfaaFileMath
import Derived.Deep.RegionHeld3
import Derived.Deep.RegionLaw
import Derived.Deep.CutRange
import Derived.IntWalk
namespace Go.Proofs.Ytlgnpicnpnibfaa
open Go.RowKit
set_option linter.unusedVariables false

set_option maxHeartbeats 3200000 in
set_option maxRecDepth 100000 in
theorem doc_file (s : Sz) (ok : s.Ok) (a : Option Addr) (n cap : Nat) (l : List Int) (w : World) (hl : Elems .i8 w a n l) (hn : n ≤ 2232448) :
    Calls Try.prog 24 #[s.val, .slice a n cap] w fun e w' => (∃ v, e = .returned v ∧ w'.ownsRow w.heap.size 5 1 v (24 + n) ((fileL s l).map (.int .u8))) ∧ Below w.heap.size w w' := by
  have HOK := Lib.hid ok
  have HE := Lib.hid hl
  clear ok hl
  have hcv : (convert 24 24 (.slice (some ⟨w.heap.size + 1, 0, none⟩) 8 8)).run Try.prog ((w.alloc (.cells #[.int .i64 s.l, .int .i64 s.w, .int .i64 s.h, .int .i64 s.i, .int .i64 s.v, .int .i64 s.p] 30)).alloc (.cells #[.int .u8 80, .int .u8 69, .int .u8 76, .int .u8 79, .int .u8 84, .int .u8 79, .int .u8 78, .int .u8 49] 5)) = .ok (.slice (some ⟨w.heap.size + 1, 0, none⟩) 8 8) ((w.alloc (.cells #[.int .i64 s.l, .int .i64 s.w, .int .i64 s.h, .int .i64 s.i, .int .i64 s.v, .int .i64 s.p] 30)).alloc (.cells #[.int .u8 80, .int .u8 69, .int .u8 76, .int .u8 79, .int .u8 84, .int .u8 79, .int .u8 78, .int .u8 49] 5 (8, 9))) :=
    Go.Joins.run_convert_bytes_const_at _ 24 5 _ 8 8 _ (by simp) Try.underlying24 Try.underlying5
  unfold Sz.val
  go_enter Try.func24, Try.ntmps24
  go_wp2_with fail
  generalize hwa : ((w.alloc _).alloc _).alloc _ = wa
  have hz : wa.heap.size = w.heap.size + 3 := by rw [← hwa]; simp
  have hM : Elems .u8 wa (some ⟨w.heap.size + 1, 0, none⟩) 8 magicL := by rw [← hwa]; exact (elems_mark magicL rfl (by simp) (by decide) (by decide) rfl).below ((Below.refl _ _).alloc (Nat.le_refl _) _)
  have XN : Box wa (w.heap.size + 1 + 1) 3 #[.int .i64 s.l, .int .i64 s.w, .int .i64 s.h, .int .i64 s.i, .int .i64 s.v, .int .i64 s.p] := by rw [← hwa]; exact box_at (by simp) _ _
  have hB : Below w.heap.size w wa := by rw [← hwa]; exact (((Below.refl _ _).alloc (Nat.le_refl _) _).alloc (by simp) _).alloc (by simp; omega) _
  clear hwa hcv
  -- the literal is full: what grows is new memory, from wa's blocks on
  have HM : Hid (RowB wa wa.heap.size (.slice (some ⟨w.heap.size + 1, 0, none⟩) 8 8) 8 magicL) := Lib.hid (.inr ⟨_, rfl, hM⟩)
  have HXN := Lib.hid XN
  have HB := Lib.hid hB
  clear hM XN hB
  go_loopw [5, 7] (fun v' i' wr => ∃ k : Nat, k ≤ 6 ∧ i' = .int .i64 k ∧ Hid (RowB wr wa.heap.size v' (8 + 2 * k) (headL s k)) ∧ Hid (Below wa.heap.size wa wr)) (fun _ i' _ => 6 - (intOf i').toNat)
  case atStart => exact ⟨0, by omega, rfl, HM, Lib.hid (Below.refl _ _)⟩
  case round =>
    obtain ⟨k, hk, rfl, hR, hbel⟩ := hrel
    by_cases hlt : k < 6
    · have hX := HXN.out.below hbel.out (by omega)
      have hx6 := sixL_le s HOK.out k hlt
      have hcell : wr.cell? ⟨w.heap.size + 1 + 1, k, none⟩ = some (.int .i64 ((sixL s).getD k 0 : Nat)) := by
        rw [hX.cell k]
        have : k = 0 ∨ k = 1 ∨ k = 2 ∨ k = 3 ∨ k = 4 ∨ k = 5 := by omega
        rcases this with rfl | rfl | rfl | rfl | rfl | rfl <;> rfl
      obtain ⟨v2, w2, hrun0, ho2, hb2⟩ := run_append_rowB wr wa.heap.size _ (8 + 2 * k) 2 (headL s k) (be2 ((sixL s).getD k 0)) _ rfl rfl (by omega) hR.out (by omega) (by omega) hbel.out.size
      rw [← headL_succ s k hlt] at ho2
      have HO : Hid (RowB w2 wa.heap.size v2 (8 + 2 * (k + 1)) (headL s (k + 1))) := Lib.hid (.inl ho2)
      have HB2 := Lib.hid (hbel.out.trans hb2)
      clear ho2 hb2 hX
      generalize (sixL s).getD k 0 = x at *
      obtain ⟨q1, hq1⟩ : ∃ q1 : Nat, x / 256 = q1 := ⟨_, rfl⟩
      obtain ⟨q2, hq2⟩ : ∃ q2 : Nat, x % 256 = q2 := ⟨_, rfl⟩
      have hrun : Sem.run Try.prog (Builtin.append_ #[24, 24] 24 #[u5, .slice (some ⟨wr.heap.size, 0, none⟩) 2 2]) ((wr.alloc (.cells #[.int .u8 (q1 : Nat), .int .u8 (q2 : Nat)] 5)).drew) = .ok v2 w2 := by rw [← hq1, ← hq2]; exact hrun0
      have t1 : (x : Int).tdiv 256 = (q1 : Int) := by rw [Int.tdiv_eq_ediv_of_nonneg (by omega)]; omega
      have t2 : (x : Int) / 256 = (q1 : Int) := by omega
      have t3 : (x : Int).tmod 256 = (q2 : Int) := by rw [Int.tmod_eq_emod_of_nonneg (by omega)]; omega
      have t4 : (x : Int) % 256 = (q2 : Int) := by omega
      have b1 : q1 ≤ 2 := by omega
      have b2 : q2 ≤ 255 := by omega
      have w0 : IntKind.i64.wrap (q1 : Int) = (q1 : Int) := IntWalk.i64_in _ (by omega)
      have w1 : IntKind.u8.wrap (q1 : Int) = (q1 : Int) := IntWalk.u8_in _ (by omega)
      have w3 : IntKind.u8.wrap (q2 : Int) = (q2 : Int) := IntWalk.u8_in _ (by omega)
      obtain ⟨va, vc, rfl⟩ := hR.out.form
      clear hrun0 hq1 hq2
      go_wp2_with fail
      go_region_law ((refine step_append_run (by rfl) _ _ _ (by rfl) _ _ (by rfl) (by rfl) hrun ?_))
      all_goals go_wp2
      all_goals
        go_roundw
        case rel => exact ⟨k + 1, by omega, by go_num, HO, HB2⟩
        case measure => simp [intOf]; omega
    · obtain rfl : k = 6 := by omega
      have HR0 : Hid (RowB wr wa.heap.size u5 (20 + 0) (headL s 6 ++ (l.take 0).map u8)) := Lib.hid (by simpa using hR.out)
      have HB1 := hbel
      clear hR
      go_wp2_with fail
      go_loopw [5, 8] (fun v' i' wr' => ∃ k : Nat, k ≤ n ∧ i' = .int .i64 k ∧ Hid (RowB wr' wa.heap.size v' (20 + k) (headL s 6 ++ (l.take k).map u8)) ∧ Hid (Below wa.heap.size wa wr')) (fun _ i' _ => n - (intOf i').toNat)
      case atStart => exact ⟨0, by omega, rfl, HR0, HB1⟩
      case round =>
        obtain ⟨k, hk, rfl, hR, hbel⟩ := hrel
        by_cases hlt2 : k < n
        · have hEr := HE.out.below ((HB.out.trans (hbel.out.mono (by omega))))
          have hll := HE.out.1
          obtain ⟨b, off, x, rfl, hc, hx, wx⟩ := hEr.at_ hlt2
          have hbx := wf8 wx
          have w1 : IntKind.u8.wrap x = u8 x := IntKind.wrap_u8' x
          have hst : (l.take (k + 1)).map u8 = (l.take k).map u8 ++ [u8 x] := by
            rw [List.take_add_one, List.map_append, ← hx.out]
            simp [List.getD, List.getElem?_eq_getElem (show k < l.length by omega)]
          obtain ⟨v2, w2, hrun, ho2, hb2⟩ := run_append_rowB' wr wa.heap.size _ (20 + k) 1 _ [u8 x] #[.int .u8 (u8 x)] rfl rfl (by omega) hR.out (by omega) (by omega) hbel.out.size
          rw [List.append_assoc, ← hst] at ho2
          have HO : Hid (RowB w2 wa.heap.size v2 (20 + (k + 1)) (headL s 6 ++ (l.take (k + 1)).map u8)) := Lib.hid (.inl ho2)
          have HB2 := Lib.hid (hbel.out.trans hb2)
          obtain ⟨va, vc, rfl⟩ := hR.out.form
          generalize u8 x = y at *
          clear ho2 hb2 hst hx wx hEr hll
          go_wp2_with (at_builtin; refine wpList_append_at (by rfl) _ _ _ (by rfl) _ _ (by rfl) (by rfl) hrun ?_)
          clear hrun
          go_roundw
          case rel => (refine ⟨_, _, _, _, _, _, _, _, _, _, _, _, _, _, _, _, ?_, rfl⟩; exact ⟨k + 1, by omega, by go_num, HO, HB2⟩)
          case measure => simp [intOf]; omega
        · obtain rfl : k = n := by omega
          have hbody : headL s 6 ++ (l.take k).map u8 = bodyL s l := by rw [List.take_of_length_le (by have := HE.out.1; omega)]; rfl
          have hR2 : RowB wr wa.heap.size u5 (20 + k) (bodyL s l) := by rw [← hbody]; exact hR.out
          have hEb : ∃ a c, u5 = .slice a (20 + k : Nat) c ∧ Elems .u8 wr a (20 + k) (bodyL s l) := by
            rcases hR2 with h | ⟨g, hg, hE⟩
            · obtain ⟨a, c, e1, e2, _⟩ := own_reads h (bodyL_wf s HOK.out l) (by omega)
              exact ⟨a, c, e1, e2⟩
            · exact ⟨_, _, hg, hE⟩
          obtain ⟨va, vc, rfl, hE⟩ := hEb
          have hsum := doc_sum va (20 + k) vc (bodyL s l) wr hE
          have hcl := csum_lt (bodyL s l)
          obtain ⟨v2, w2, hrun0, ho2, hb2⟩ := run_append_rowB' wr wa.heap.size _ (20 + k) 4 _ (be4 (csum (bodyL s l))) _ rfl rfl (by omega) hR2 (by omega) (by omega) hbel.out.size
          have HO : Hid (w2.ownsRow w.heap.size 5 1 v2 (24 + k) ((fileL s l).map (.int .u8))) := Lib.hid (by
            rw [show 24 + k = 20 + k + 4 by omega]
            exact Go.Joins.ownsRow_le ho2 (by omega))
          have HB2 := Lib.hid (HB.out.trans ((hbel.out.trans hb2).mono (by omega)))
          clear ho2 hb2 hR hR2 hbody hE
          generalize csum (bodyL s l) = c at *
          obtain ⟨m1, hm1⟩ : ∃ m : Nat, c / 16777216 = m := ⟨_, Eq.refl _⟩
          obtain ⟨m2, hm2⟩ : ∃ m : Nat, c / 65536 = m := ⟨_, Eq.refl _⟩
          obtain ⟨m3, hm3⟩ : ∃ m : Nat, c / 256 = m := ⟨_, Eq.refl _⟩
          obtain ⟨f2, hf2⟩ : ∃ m : Nat, m2 % 256 = m := ⟨_, Eq.refl _⟩
          obtain ⟨f3, hf3⟩ : ∃ m : Nat, m3 % 256 = m := ⟨_, Eq.refl _⟩
          obtain ⟨f4, hf4⟩ : ∃ m : Nat, c % 256 = m := ⟨_, Eq.refl _⟩
          have hrun : Sem.run Try.prog (Builtin.append_ #[24, 24] 24 #[.slice va (20 + k : Nat) vc, .slice (some ⟨wr.heap.size, 0, none⟩) 4 4]) ((wr.alloc (.cells #[.int .u8 (m1 : Nat), .int .u8 (f2 : Nat), .int .u8 (f3 : Nat), .int .u8 (f4 : Nat)] 5))) = .ok v2 w2 := by rw [← hf4, ← hf3, ← hf2, ← hm3, ← hm2, ← hm1]; exact hrun0
          have t1 : (c : Int) / 16777216 = (m1 : Int) := by rw [← hm1]; exact (Int.natCast_ediv _ _).symm
          have t2 : (c : Int) / 65536 = (m2 : Int) := by rw [← hm2]; exact (Int.natCast_ediv _ _).symm
          have t3 : (c : Int) / 256 = (m3 : Int) := by rw [← hm3]; exact (Int.natCast_ediv _ _).symm
          have w1 : IntKind.u8.wrap (m1 : Int) = (m1 : Int) := IntWalk.u8_in _ (by omega)
          have w2' : IntKind.u8.wrap (m2 : Int) = (f2 : Int) := by rw [IntKind.wrap_u8']; omega
          have w3' : IntKind.u8.wrap (m3 : Int) = (f3 : Int) := by rw [IntKind.wrap_u8']; omega
          have w4' : IntKind.u8.wrap (c : Int) = (f4 : Int) := by rw [IntKind.wrap_u8']; omega
          clear hm1 hm2 hm3 hf2 hf3 hf4 hrun0
          go_wp2_with (first | (go_at_call 12; refine hsum.mono ?_; rintro e w' ⟨rfl, rfl⟩) | (at_builtin; refine wpList_append_at (by rfl) _ _ _ (by rfl) _ _ (by rfl) (by rfl) hrun ?_))
          go_ret
          exact ⟨⟨_, rfl, HO.out⟩, HB2.out⟩

end Go.Proofs.Ytlgnpicnpnibfaa
