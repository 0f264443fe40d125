/-
  The law's awake answers true.
-/
import Derived.Test.YtpcnikbggpodgaaParse14
import Derived.Test.YtpcnikbggpodgaaNew7
import Derived.Lib.SmallJoins
namespace Go.Proofs.Ytpcnikbggpodgaa
open Go.RowKit
set_option linter.unusedVariables false

theorem flt_cut70 {k : Int} {body : List Int} (hl : body.length ≤ 1048576) {j : Nat} (h12 : 12 ≤ j) (hj : j < body.length + 12) : flt ((frm k body).take j) = 70 := by
  have hd := dsz_take (xs := frm k body) (n := j) h12 (by rw [frm_len]; omega)
  have hf := csz_frm (k := k) [] hl
  rw [List.append_nil] at hf
  have hf2 := csz_ok (xs := frm k body) (by rw [hf])
  have h1 := hf2.2.2
  rw [hf] at h1
  have h3 : body.length + 12 = (dsz (frm k body)).1 := congrArg Prod.fst h1
  have hlen : ((frm k body).take j).length = j := by rw [List.length_take, frm_len]; omega
  have hc : csz ((frm k body).take j) = (0, 70) := by
    unfold csz
    rw [hd, hlen, if_neg (by simpa using hf2.1), if_pos (by omega)]
  unfold flt
  rw [hc, if_pos (by simp)]
/-- what awake asks of the frame -/
theorem awake_pre : (frm 5 [97, 98]).take 10 = [80, 76, 1, 5, 0, 0, 0, 2, 97, 98] := by
  unfold frm
  exact List.take_left' rfl

set_option maxHeartbeats 1600000 in
theorem awake14 (w : World) : Calls Try.prog 8 #[] w fun e w' => e = .returned (.bool true) ∧ Below w.heap.size w w' := by
  have hcv : (convert 22 22 (.slice (some ⟨w.heap.size, 0, none⟩) 2 2)).run Try.prog (w.alloc (.cells #[.int .u8 97, .int .u8 98] 5)) = .ok (.slice (some ⟨w.heap.size, 0, none⟩) 2 2) (w.alloc (.cells #[.int .u8 97, .int .u8 98] 5 (2, 3))) :=
    Go.Joins.run_convert_bytes_const_at w 22 5 _ 2 2 _ rfl Try.underlying22 Try.underlying5
  have hE : Elems .u8 (w.alloc (.cells #[.int .u8 97, .int .u8 98] 5 (2, 3))) (some ⟨w.heap.size, 0, none⟩) 2 [97, 98] := elems_mark _ rfl rfl (by decide) (by decide) rfl
  have HB0 : Hid (Below w.heap.size w (w.alloc (.cells #[.int .u8 97, .int .u8 98] 5 (2, 3)))) := Lib.hid ((Below.refl _ _).alloc (Nat.le_refl _) _)
  have P := pack14 5 rfl _ _ (rw_in hE (by decide)) (by simp)
  clear hE
  go_enter Try.func8, Try.ntmps8
  go_wp2_with fail
  refine P.mono ?_
  rintro e w2 ⟨⟨v, rfl, ho⟩, hb⟩
  have HB2 := Lib.hid (below_two HB0.out hb)
  obtain ⟨q, rfl, hqn, hqv, hqi, hqa⟩ := own_row8 ho (frm_wf rfl (by decide) (by decide)) (by omega)
  obtain ⟨a, n, cap, xs⟩ := q
  simp only at hqn hqv hqa hqi
  subst hqn
  obtain ⟨b, rfl, _, hblt⟩ := hqa (by omega)
  have hE2 : Elems .u8 w2 (some ⟨b, 0, none⟩) 14 xs := hqi.1
  have hcap : 14 ≤ cap := hqi.2.1
  have hcap2 : cap ≤ 9223372036854775807 := hqi.2.2.1
  have c1 := conv_u8 (cap := cap) (hE2.take 10 (by omega))
  rw [hqv, awake_pre] at c1
  have e1 : strOfNums [80, 76, 1, 5, 0, 0, 0, 2, 97, 98] = { data := #[80, 76, 1, 5, 0, 0, 0, 2, 97, 98] } := rfl
  rw [e1] at c1
  have P2 := parse14 ⟨some ⟨b, 0, none⟩, 13, cap, xs.take 13⟩ w2 ⟨hE2.take 13 (by omega), by show 13 ≤ cap; omega, hcap2, hqi.2.2.2⟩ (by simp)
  have HF : Hid (flt (xs.take 13) = 70) := Lib.hid (by rw [hqv]; exact flt_cut70 (by decide) (by omega) (by decide))
  have h1 : 10 ≤ cap := by omega
  have h2 : 13 ≤ cap := by omega
  have hne : ¬ cap = 0 := by omega
  clear P ho hb hqv hqi hqa hE2 hcv e1 hblt
  go_wp2_with fail
  refine P2.mono ?_
  rintro e w3 ⟨k, g, rfl, _, _, _, hb3⟩
  have HB3 := Lib.hid (below_two HB2.out hb3)
  have hf := HF.out
  rw [hf]
  clear P2 hb3 hf
  go_wp2_with fail
  go_ret
  exact ⟨rfl, HB3.out⟩

end Go.Proofs.Ytpcnikbggpodgaa
