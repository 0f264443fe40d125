/-
  The document's examples of stage 7: awake returns true.
-/
import Derived.Test.YtgbbfmpofmeadaaCrc
import Derived.Test.YtgbbfmpofmeadaaCount
import Derived.Test.YtgbbfmpofmeadaaAppRow
import Derived.Test.YtgbbfmpofmeadaaNew7
namespace Go.Proofs.Ytgbbfmpofmeadaa
open Go.RowKit
set_option linter.unusedVariables false

set_option maxHeartbeats 800000 in
theorem least_any (w : World) : Calls Try.prog 13 #[] w fun e w' => e = .returned (.agg #[.int .i64 1, .int .i64 4, .int .i64 2, .int .i64 3, .int .i64 5, .int .i64 8]) ∧ Below w.heap.size w w' := by
  go_enter Try.func13, Try.ntmps13
  go_wp2
  refine bodyPost_ret (v := .agg #[.int .i64 1, .int .i64 4, .int .i64 2, .int .i64 3, .int .i64 5, .int .i64 8]) (by simp [results, Try.results13, go_sem]) rfl ⟨rfl, ?_⟩
  repeat (refine Below.setCell ?_ (by simp) _)
  exact (Below.refl _ _).alloc (Nat.le_refl _) _

set_option maxHeartbeats 1600000 in
set_option maxRecDepth 100000 in
theorem awake7 (w : World) : Calls Try.prog 4 #[] w fun e w' => e = .returned (.bool true) ∧ Below w.heap.size w w' := by
  have hs : csum (catR [⟨some ⟨w.heap.size, 0, none⟩, 4, 4, [49, 50, 51, 52]⟩, ⟨some ⟨w.heap.size + 1, 0, none⟩, 5, 5, [53, 54, 55, 56, 57]⟩]) = 3421780262 := by
    show csum [49, 50, 51, 52, 53, 54, 55, 56, 57] = 3421780262
    decide +kernel
  have hsum : ∀ W : World, Rws .u8 W (some ⟨w.heap.size + 1 + 1, 0, none⟩) 2 [⟨some ⟨w.heap.size, 0, none⟩, 4, 4, [49, 50, 51, 52]⟩, ⟨some ⟨w.heap.size + 1, 0, none⟩, 5, 5, [53, 54, 55, 56, 57]⟩] →
      Calls Try.prog 11 #[.slice (some ⟨w.heap.size + 1 + 1, 0, none⟩) 2 2] W fun e w' => e = .returned (.int .u32 3421780262) ∧ W = w' := by
    intro W h
    have := sum_any _ 2 2 _ W h
    rw [hs] at this
    exact this
  have hcnt : ∀ W : World, Calls Try.prog 12 #[.agg #[.int .i64 1, .int .i64 4, .int .i64 2, .int .i64 3, .int .i64 5, .int .i64 8]] W fun e w' => e = .returned (.int .i64 140) ∧ Below W.heap.size W w' :=
    fun W => count_yes ⟨1, 4, 2, 3, 5, 8⟩ W ⟨by decide, by decide, by decide, by decide, by decide, by decide, by decide, by decide, by decide, by decide, by decide, by decide, by decide⟩
  have v1 : (convert 41 41 (.slice (some ⟨w.heap.size, 0, none⟩) 4 4)).run Try.prog (w.alloc (.cells #[.int .u8 49, .int .u8 50, .int .u8 51, .int .u8 52] 5)) = .ok (.slice (some ⟨w.heap.size, 0, none⟩) 4 4) (w.alloc (.cells #[.int .u8 49, .int .u8 50, .int .u8 51, .int .u8 52] 5 (4, 5))) :=
    Go.Joins.run_convert_bytes_const_at w 41 5 _ 4 4 _ rfl Try.underlying41 Try.underlying5
  have v2 : (convert 41 41 (.slice (some ⟨w.heap.size + 1, 0, none⟩) 5 5)).run Try.prog ((w.alloc (.cells #[.int .u8 49, .int .u8 50, .int .u8 51, .int .u8 52] 5 (4, 5))).alloc (.cells #[.int .u8 53, .int .u8 54, .int .u8 55, .int .u8 56, .int .u8 57] 5)) = .ok (.slice (some ⟨w.heap.size + 1, 0, none⟩) 5 5) ((w.alloc (.cells #[.int .u8 49, .int .u8 50, .int .u8 51, .int .u8 52] 5 (4, 5))).alloc (.cells #[.int .u8 53, .int .u8 54, .int .u8 55, .int .u8 56, .int .u8 57] 5 (5, 6))) :=
    Go.Joins.run_convert_bytes_const_at _ 41 5 _ 5 5 _ (by simp) Try.underlying41 Try.underlying5
  have E0 : ∀ T fr, Elems .u8 (w.alloc (.cells #[.int .u8 49, .int .u8 50, .int .u8 51, .int .u8 52] T fr)) (some ⟨w.heap.size, 0, none⟩) 4 [49, 50, 51, 52] := fun T fr => elems_mark _ rfl rfl (by decide) (by decide) rfl
  have E1 : ∀ (W : World) T fr, W.heap.size = w.heap.size + 1 → Elems .u8 (W.alloc (.cells #[.int .u8 53, .int .u8 54, .int .u8 55, .int .u8 56, .int .u8 57] T fr)) (some ⟨w.heap.size + 1, 0, none⟩) 5 [53, 54, 55, 56, 57] := fun W T fr h => elems_mark _ rfl h.symm (by decide) (by decide) rfl
  clear hs
  go_enter Try.func4, Try.ntmps4
  go_wp2_with (go_at_call 11; (with_reducible refine (hsum _ ?h0).mono ?_); (case h0 => exact rws_two _ _ ((rw_in (E0 _ _) (by decide)).below ((Below.refl _ _).alloc (Nat.le_refl _) _)) (rw_in (E1 _ _ _ (by simp)) (by decide)) (by simp)); rintro e w' ⟨rfl, rfl⟩)
  clear hsum E0 E1 v1 v2
  generalize hwa : ((w.alloc _).alloc _).alloc _ = wa
  have hb : Below w.heap.size w wa := by rw [← hwa]; exact (((Below.refl _ _).alloc (Nat.le_refl _) _).alloc (by simp) _).alloc (by simp; omega) _
  clear hwa
  refine (least_any _).mono ?_
  rintro e wb ⟨rfl, hb1⟩
  have hb2 := below_two hb hb1
  clear hb hb1
  go_wp2_with fail
  refine (hcnt _).mono ?_
  rintro e wc ⟨rfl, hb3⟩
  have hb4 := below_two hb2 hb3
  clear hb2 hb3 hcnt
  go_wp2
  go_ret
  exact ⟨rfl, hb4⟩

end Go.Proofs.Ytgbbfmpofmeadaa
