/-
  The law's own: is an act small? and a row of rows as Send takes it.
-/
import Derived.Test.YtkinbngikmcpeaaLinkRow16
import Derived.Test.YtkinbngikmcpeaaLk16
namespace Go.Proofs.Ytkinbngikmcpeaa
open Go.RowKit Go.Maps
set_option linter.unusedVariables false

/-- an act is small -/
def SmallA (x : Act16) : Prop := x.bodies.n ≤ 20 ∧ x.s.q.n ≤ 500 ∧ ∀ q ∈ x.bodies.xs, q.n ≤ 500
def SmallE (x : Act16) (e : Ending) : Prop := ∃ b, e = .returned (.bool b) ∧ (b = true → SmallA x)
set_option maxHeartbeats 1600000 in
set_option maxRecDepth 100000 in
theorem small16 (x : Act16) (w : World) (hx : x.In w) :
    Calls Try.prog 10 #[.agg #[.int .i64 x.kind, .int .i64 x.n, .slice x.bodies.a x.bodies.n x.bodies.cap, .int .i64 x.s.e, .int .i64 x.s.s, .int .i64 x.s.k, .slice x.s.q.a x.s.q.n x.s.q.cap]] w fun e w' => SmallE x e ∧ Below w.heap.size w w' := by
  obtain ⟨xk, xn, ⟨ba, bn, bcap, bxs⟩, xse, xss, xsk, ⟨qa, qn, qcap, qv⟩⟩ := x
  obtain ⟨_, _, hB, hS⟩ := hx
  simp only at hB hS ⊢
  obtain ⟨w1, hw1⟩ : ∃ w1, w.alloc (.cells #[.int .i64 xk, .int .i64 xn, .slice ba bn bcap, .int .i64 xse, .int .i64 xss, .int .i64 xsk, .slice qa qn qcap] 41) = w1 := ⟨_, rfl⟩
  have hX : Box w1 w.heap.size 41 #[.int .i64 xk, .int .i64 xn, .slice ba bn bcap, .int .i64 xse, .int .i64 xss, .int .i64 xsk, .slice qa qn qcap] := by rw [← hw1]; exact box_new _ _ _
  have hb1 : Below w.heap.size w w1 := by rw [← hw1]; exact (Below.refl _ _).alloc (Nat.le_refl _) _
  have HB1 := Lib.hid hb1
  have c2 : w1.cell? ⟨w.heap.size, 2, none⟩ = some (.slice ba bn bcap) := hX.cell 2
  have c6 : w1.cell? ⟨w.heap.size, 6, none⟩ = some (.slice qa qn qcap) := hX.cell 6
  have HBB : Hid (RowOf.In rwCells (fun w q => Rw.In .u8 w q) 1 w1 ⟨ba, bn, bcap, bxs⟩) := Lib.hid (hB.below (fun _ => rfl) hb1 (fun x hx => hx.below hb1))
  clear hX hb1 hS
  by_cases h1 : 20 < bn
  · have h12 : (20 : Int) < (bn : Int) := by omega
    clear h1
    go_enter Try.func10, Try.ntmps10
    go_wp2_with fail
    go_ret
    exact ⟨⟨false, rfl, by simp⟩, HB1.out⟩
  · have h12 : decide ((20 : Int) < (bn : Int)) = false := decide_eq_false (by omega)
    by_cases h2 : 500 < qn
    · have h22 : (500 : Int) < (qn : Int) := by omega
      clear h1 h2
      go_enter Try.func10, Try.ntmps10
      go_wp2_with fail
      go_ret
      exact ⟨⟨false, rfl, by simp⟩, HB1.out⟩
    · have h22 : decide ((500 : Int) < (qn : Int)) = false := decide_eq_false (by omega)
      have hsm : bn ≤ 20 := by omega
      have HS : Hid (bn ≤ 20 ∧ qn ≤ 500) := Lib.hid ⟨by omega, by omega⟩
      clear h1 h2
      go_enter Try.func10, Try.ntmps10
      go_wp2_with fail
      go_loopw [3] (fun i wr => ∃ k : Nat, k ≤ bn ∧ i = .int .i64 k ∧ Hid (∀ j, j < k → (bxs.getD j default).n ≤ 500) ∧ wr = w1) (fun i _ => bn - (intOf i).toNat)
      case atStart => exact ⟨0, by omega, rfl, Lib.hid (fun j h => by omega), rfl⟩
      case round =>
        obtain ⟨k, hk, rfl, HJ, rfl⟩ := hrel
        by_cases hlt : k < bn
        · obtain ⟨bb, off, q, hba, HT, hqm, hin, hc⟩ := HBB.out.at_ hlt
          simp only at hba HT
          subst hba
          have hc0 : wr.cell? ⟨bb, off + k, none⟩ = some (.slice q.a q.n q.cap) := by have := hc 0 (by omega); simpa [rwCells] using this
          have hlt2 : (k : Int) < (bn : Int) := by omega
          have HTT := Lib.hid HT
          clear hc HT hqm hin
          by_cases h6 : 500 < q.n
          · have h62 : (500 : Int) < (q.n : Int) := by omega
            clear h6
            go_wp2_with fail
            go_ret
            exact ⟨⟨false, rfl, by simp⟩, HB1.out⟩
          · have h62 : decide ((500 : Int) < (q.n : Int)) = false := decide_eq_false (by omega)
            have HJ2 : Hid (∀ j, j < k + 1 → (bxs.getD j default).n ≤ 500) := Lib.hid (fun j h => by
              rcases Nat.lt_succ_iff_lt_or_eq.1 h with h | rfl
              · exact HJ.out j h
              · rw [HTT.out]; omega)
            clear h6
            go_wp2_with fail
            go_roundw
            case rel => exact ⟨k + 1, by omega, by go_num, HJ2, trivial⟩
            case measure => simp [intOf]; omega
        · obtain rfl : k = bn := by omega
          have HF : Hid (∀ q ∈ bxs, q.n ≤ 500) := Lib.hid (fun q hq => by
            obtain ⟨j, hj, rfl⟩ := List.getElem_of_mem hq
            have := HJ.out j (by have := HBB.out.1; simp only at this; omega)
            rwa [List.getD_eq_getElem?_getD, List.getElem?_eq_getElem hj] at this)
          go_wp2_with fail
          go_ret
          exact ⟨⟨true, rfl, fun _ => ⟨HS.out.1, HS.out.2, HF.out⟩⟩, HB1.out⟩
/-- an act's bodies as Send takes them -/
theorem Act16.rws {x : Act16} {w : World} (h : x.In w) : Rws .u8 w x.bodies.a x.bodies.n x.bodies.xs := by
  obtain ⟨_, _, hB, _⟩ := h
  refine ⟨hB.1, by have := hB.2.1; have := hB.2.2.1; omega, hB.2.2.2.1, fun hn => ?_⟩
  obtain ⟨b, off, ha, hc⟩ := hB.2.2.2.2.2 hn
  refine ⟨b, off, ha, fun i hi => ?_⟩
  have := hc i hi 0 (by omega)
  simpa [rwCells] using this

end Go.Proofs.Ytkinbngikmcpeaa
