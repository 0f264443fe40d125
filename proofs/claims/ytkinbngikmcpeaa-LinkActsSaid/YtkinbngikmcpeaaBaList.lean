/-
  A string's bytes as a list; numbers of bytes are told apart by their bytes.
-/
import Derived.Test.YtkinbngikmcpeaaKit
import Derived.Laws.BytesArg
namespace Go.Proofs.Ytkinbngikmcpeaa
set_option linter.unusedVariables false

theorem ba_loop (bs : ByteArray) : ∀ k i r, bs.size - i = k → ByteArray.toList.loop bs i r = r.reverse ++ bs.data.toList.drop i := by
  intro k
  induction k with
  | zero =>
    intro i r h
    unfold ByteArray.toList.loop
    rw [if_neg (by omega), List.drop_eq_nil_of_le (by simp only [Array.length_toList]; have : bs.data.size = bs.size := rfl; omega), List.append_nil]
  | succ k ih =>
    intro i r h
    unfold ByteArray.toList.loop
    rw [if_pos (by omega), ih (i+1) _ (by omega)]
    have hs : bs.data.size = bs.size := rfl
    have hl : i < bs.data.toList.length := by simp only [Array.length_toList]; omega
    have hg : bs.get! i = bs.data.toList[i] := by
      simp only [Array.getElem_toList]
      show bs.data[i]! = _
      rw [getElem!_pos bs.data i (by omega)]
    rw [hg, List.drop_eq_getElem_cons hl, List.reverse_cons, List.append_assoc, List.singleton_append]
theorem ba_toList (bs : ByteArray) : bs.toList = bs.data.toList := by
  unfold ByteArray.toList
  rw [ba_loop bs _ 0 [] rfl]
  rfl
theorem bytes_back : ∀ (xs ys : List Int), (∀ x ∈ xs, 0 ≤ x ∧ x < 256) → (∀ x ∈ ys, 0 ≤ x ∧ x < 256) → (xs.map fun n => UInt8.ofNat n.toNat) = (ys.map fun n => UInt8.ofNat n.toNat) → xs = ys := by
  intro xs
  induction xs with
  | nil => intro ys _ _ h; cases ys with | nil => rfl | cons y ys => simp at h
  | cons x xs ih =>
    intro ys hx hy h
    cases ys with
    | nil => simp at h
    | cons y ys =>
      simp only [List.map_cons, List.cons.injEq] at h
      have h1 := hx x (by simp)
      have h2 := hy y (by simp)
      have e : x = y := by
        have := congrArg UInt8.toNat h.1
        rw [UInt8.toNat_ofNat', UInt8.toNat_ofNat'] at this
        omega
      rw [e, ih ys (fun z hz => hx z (by simp [hz])) (fun z hz => hy z (by simp [hz])) h.2]

end Go.Proofs.Ytkinbngikmcpeaa
