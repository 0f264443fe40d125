/-
  The law's awake answers true.
-/
import Derived.Test.YtobogkilkmnpmaaParse14
import Derived.Test.YtobogkilkmnpmaaNew7
import Derived.Lib.SmallJoins
namespace Go.Proofs.Ytobogkilkmnpmaa
open Go.RowKit
set_option linter.unusedVariables false

theorem flt_cut70 {k : Int} {body : List Int} (hl : body.length ≤ 1048576) {j : Nat} (h12 : 12 ≤ j) (hj : j < body.length + 12) : flt ((frm k body).take j) = 70 := by
  have hd := dsz_take (xs := frm k body) (n := j) h12 (by rw [frm_len]; omega)
  have hf := csz_frm (k := k) [] hl
  rw [List.append_nil] at hf
  have hf2 := csz_ok (xs := frm k body) (by rw [hf])
  have h1 := hf2.2.2
  rw [hf] at h1
  have h3 : body.length + 12 = (dsz (frm k body)).1 := congrArg Prod.fst h1
  have hlen : ((frm k body).take j).length = j := by rw [List.length_take, frm_len]; omega
  have hc : csz ((frm k body).take j) = (0, 70) := by
    unfold csz
    rw [hd, hlen, if_neg (by simpa using hf2.1), if_pos (by omega)]
  unfold flt
  rw [hc, if_pos (by simp)]
/-- what awake asks of the frame -/
theorem awake_pre : (frm 5 [97, 98]).take 10 = [80, 76, 1, 5, 0, 0, 0, 2, 97, 98] := by
  unfold frm
  exact List.take_left' rfl


end Go.Proofs.Ytobogkilkmnpmaa
