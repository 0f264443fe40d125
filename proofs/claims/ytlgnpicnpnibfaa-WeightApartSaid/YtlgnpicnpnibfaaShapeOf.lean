/-
  The code's shapeOf: the six numbers that a file's first bytes have.
-/
import Derived.Test.YtlgnpicnpnibfaaTake
import Derived.Test.YtlgnpicnpnibfaaSetN
namespace Go.Proofs.Ytlgnpicnpnibfaa
open Go.RowKit
set_option linter.unusedVariables false

/-- the k-th of the shape's numbers -/
def hdN (xs : List Int) (k : Nat) : Nat := n16 (xs.drop (8 + 2 * k))

set_option maxHeartbeats 800000 in
theorem shapeOf1_any (c b n cap : Nat) (xs : List Int) (k : Nat) (hk : k < 6) (w : World) (hc : Box w c 24 #[.slice (some ⟨b, 0, none⟩) n cap]) (h : Elems .u8 w (some ⟨b, 0, none⟩) n xs) (hn : 24 ≤ n) (hcap : n ≤ cap) (hcap2 : cap ≤ 9223372036854775807) :
    Calls Try.prog 47 #[.int .i64 k, .pointer (some ⟨c, 0, none⟩)] w fun e w' => e = .returned (.int .i64 (hdN xs k : Nat)) ∧ ∃ d, w' = w.drewN d := by
  have c0 : w.cell? ⟨c, 0, none⟩ = some (.slice (some ⟨b, 0, none⟩) n cap) := hc.cell 0
  have hd := h.drop (8 + 2 * k) (by omega)
  rw [Nat.zero_add] at hd
  have t1 := take16_any b (8 + 2 * k) (n - (8 + 2 * k)) (cap - (8 + 2 * k)) _ w hd (by omega)
  have HN : Hid (hdN xs k = n16 (xs.drop (8 + 2 * k))) := Lib.hid rfl
  generalize n16 (xs.drop (8 + 2 * k)) = r at *
  obtain ⟨j, hj⟩ : ∃ j : Nat, 8 + 2 * k = j := ⟨_, rfl⟩
  have e1 : 8 + 2 * (k : Int) = (j : Int) := by omega
  rw [hj] at t1
  have hjn : j < n := by omega
  have hne : ¬ cap = j := by omega
  have hne2 : ¬ j = cap := by omega
  clear hc h hd hj
  go_enter Try.func47, Try.ntmps47
  go_wp2_with fail
  refine t1.mono ?_
  rintro e w' ⟨rfl, d, rfl⟩
  go_wp2
  go_ret
  exact ⟨ret_int (by rw [HN.out]), _, rfl⟩

set_option maxHeartbeats 1600000 in
theorem shapeOf_any (b n cap : Nat) (xs : List Int) (w : World) (h : Elems .u8 w (some ⟨b, 0, none⟩) n xs) (hn : 24 ≤ n) (hcap : n ≤ cap) (hcap2 : cap ≤ 9223372036854775807) :
    Calls Try.prog 37 #[.slice (some ⟨b, 0, none⟩) n cap] w fun e w' => e = .returned (.agg #[.int .i64 (hdN xs 0 : Nat), .int .i64 (hdN xs 1 : Nat), .int .i64 (hdN xs 2 : Nat), .int .i64 (hdN xs 3 : Nat), .int .i64 (hdN xs 4 : Nat), .int .i64 (hdN xs 5 : Nat)]) ∧ Below w.heap.size w w' := by
  have hB0 : ∀ x y, Below w.heap.size w ((w.alloc x).alloc y) := fun x y => ((Below.refl _ _).alloc (Nat.le_refl _) x).alloc (by simp) y
  have HE := Lib.hid h
  clear h
  go_enter Try.func37, Try.ntmps37
  go_wp2_with fail
  generalize hwa : (w.alloc _).alloc _ = wa
  have hB : Below w.heap.size w wa := by rw [← hwa]; exact hB0 _ _
  have XC : Box wa w.heap.size 24 #[.slice (some ⟨b, 0, none⟩) n cap] := by rw [← hwa]; exact (box_new _ _ _).alloc _
  have XR : Box wa (w.heap.size + 1) 30 #[.int .i64 0, .int .i64 0, .int .i64 0, .int .i64 0, .int .i64 0, .int .i64 0] := by rw [← hwa]; exact box_at (by simp) _ _
  have hE := HE.out.below hB
  have q0 : ∀ d, Calls Try.prog 47 #[.int .i64 0, .pointer (some ⟨w.heap.size, 0, none⟩)] (wa.drewN d) fun e w' => e = .returned (.int .i64 (hdN xs 0 : Nat)) ∧ ∃ d', w' = (wa.drewN d).drewN d' := fun d => shapeOf1_any w.heap.size b n cap xs 0 (by omega) (wa.drewN d) (XC.drewN d) (hE.drewN d) hn hcap hcap2
  have q1 : ∀ d, Calls Try.prog 47 #[.int .i64 1, .pointer (some ⟨w.heap.size, 0, none⟩)] (wa.drewN d) fun e w' => e = .returned (.int .i64 (hdN xs 1 : Nat)) ∧ ∃ d', w' = (wa.drewN d).drewN d' := fun d => shapeOf1_any w.heap.size b n cap xs 1 (by omega) (wa.drewN d) (XC.drewN d) (hE.drewN d) hn hcap hcap2
  have q2 : ∀ d, Calls Try.prog 47 #[.int .i64 2, .pointer (some ⟨w.heap.size, 0, none⟩)] (wa.drewN d) fun e w' => e = .returned (.int .i64 (hdN xs 2 : Nat)) ∧ ∃ d', w' = (wa.drewN d).drewN d' := fun d => shapeOf1_any w.heap.size b n cap xs 2 (by omega) (wa.drewN d) (XC.drewN d) (hE.drewN d) hn hcap hcap2
  have q3 : ∀ d, Calls Try.prog 47 #[.int .i64 3, .pointer (some ⟨w.heap.size, 0, none⟩)] (wa.drewN d) fun e w' => e = .returned (.int .i64 (hdN xs 3 : Nat)) ∧ ∃ d', w' = (wa.drewN d).drewN d' := fun d => shapeOf1_any w.heap.size b n cap xs 3 (by omega) (wa.drewN d) (XC.drewN d) (hE.drewN d) hn hcap hcap2
  have q4 : ∀ d, Calls Try.prog 47 #[.int .i64 4, .pointer (some ⟨w.heap.size, 0, none⟩)] (wa.drewN d) fun e w' => e = .returned (.int .i64 (hdN xs 4 : Nat)) ∧ ∃ d', w' = (wa.drewN d).drewN d' := fun d => shapeOf1_any w.heap.size b n cap xs 4 (by omega) (wa.drewN d) (XC.drewN d) (hE.drewN d) hn hcap hcap2
  have q5 : ∀ d, Calls Try.prog 47 #[.int .i64 5, .pointer (some ⟨w.heap.size, 0, none⟩)] (wa.drewN d) fun e w' => e = .returned (.int .i64 (hdN xs 5 : Nat)) ∧ ∃ d', w' = (wa.drewN d).drewN d' := fun d => shapeOf1_any w.heap.size b n cap xs 5 (by omega) (wa.drewN d) (XC.drewN d) (hE.drewN d) hn hcap hcap2
  have q00 := q0 0
  have HXR := Lib.hid XR
  have HB := Lib.hid hB
  clear hwa hB0 XC XR hE hB
  refine q00.mono ?_
  rintro e w' ⟨rfl, d0, rfl⟩
  go_wp2_with fail
  refine (q1 _).mono ?_
  rintro e w' ⟨rfl, d1, rfl⟩
  go_wp2_with fail
  refine (q2 _).mono ?_
  rintro e w' ⟨rfl, d2, rfl⟩
  go_wp2_with fail
  refine (q3 _).mono ?_
  rintro e w' ⟨rfl, d3, rfl⟩
  go_wp2_with fail
  refine (q4 _).mono ?_
  rintro e w' ⟨rfl, d4, rfl⟩
  go_wp2_with fail
  refine (q5 _).mono ?_
  rintro e w' ⟨rfl, d5, rfl⟩
  generalize hwz : wa.drewN _ = wz
  have XZ : Box wz (w.heap.size + 1) 30 #[.int .i64 0, .int .i64 0, .int .i64 0, .int .i64 0, .int .i64 0, .int .i64 0] := by rw [← hwz]; exact HXR.out
  have hBz : Below w.heap.size w wz := by rw [← hwz]; exact below_drewN HB.out _
  have X4 := Lib.hid (XZ.setRow (cs' := #[.int .i64 (hdN xs 0 : Nat), .int .i64 (hdN xs 1 : Nat), .int .i64 (hdN xs 2 : Nat), .int .i64 (hdN xs 3 : Nat), .int .i64 (hdN xs 4 : Nat), .int .i64 (hdN xs 5 : Nat)]))
  have HB4 := Lib.hid (below_setRow (cs := #[.int .i64 (hdN xs 0 : Nat), .int .i64 (hdN xs 1 : Nat), .int .i64 (hdN xs 2 : Nat), .int .i64 (hdN xs 3 : Nat), .int .i64 (hdN xs 4 : Nat), .int .i64 (hdN xs 5 : Nat)]) (below_drewN hBz d5) (show w.heap.size ≤ w.heap.size + 1 by omega) hBz.size)
  clear hwz hBz q0 q1 q2 q3 q4 q5
  go_wp2_with (refine wpList_store_row rfl 30 _ _ rfl (w.heap.size + 1) #[.int .i64 (hdN xs 0 : Nat), .int .i64 (hdN xs 1 : Nat), .int .i64 (hdN xs 2 : Nat), .int .i64 (hdN xs 3 : Nat), .int .i64 (hdN xs 4 : Nat), .int .i64 (hdN xs 5 : Nat)] rfl rfl 30 _ XZ (by kernel_rfl) rfl (by simp [Value.oneCell']) ?_)
  exact bodyPost_ret (v := .agg #[.int .i64 (hdN xs 0 : Nat), .int .i64 (hdN xs 1 : Nat), .int .i64 (hdN xs 2 : Nat), .int .i64 (hdN xs 3 : Nat), .int .i64 (hdN xs 4 : Nat), .int .i64 (hdN xs 5 : Nat)]) (results_row rfl rfl X4.out Try.underlying30 rfl (by kernel_rfl)) rfl ⟨rfl, HB4.out⟩

end Go.Proofs.Ytlgnpicnpnibfaa
