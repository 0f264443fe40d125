/-
  The law's bodies: two lists of rows of bytes, held against one another.
-/
import Derived.Test.YtkinbngikmcpeaaAwake16
namespace Go.Proofs.Ytkinbngikmcpeaa
open Go.RowKit Go.Maps
set_option linter.unusedVariables false

theorem take_eq_snoc {ps qs : List Rw} {k : Nat} {p q : Rw} (hp : k < ps.length) (hq : k < qs.length) (ep : ps.getD k default = p) (eq : qs.getD k default = q) (h : (ps.map Rw.v).take k = (qs.map Rw.v).take k) (hv : p.v = q.v) : (ps.map Rw.v).take (k + 1) = (qs.map Rw.v).take (k + 1) := by
  have e1 : ps[k] = p := by rw [← ep, List.getD_eq_getElem?_getD, List.getElem?_eq_getElem hp]; rfl
  have e2 : qs[k] = q := by rw [← eq, List.getD_eq_getElem?_getD, List.getElem?_eq_getElem hq]; rfl
  rw [List.take_add_one, List.take_add_one, h, List.getElem?_map, List.getElem?_map, List.getElem?_eq_getElem hp, List.getElem?_eq_getElem hq, e1, e2]
  simp [hv]
theorem map_ne_at {ps qs : List Rw} {k : Nat} {p q : Rw} (hp : k < ps.length) (hq : k < qs.length) (ep : ps.getD k default = p) (eq : qs.getD k default = q) (hv : p.v ≠ q.v) : ps.map Rw.v ≠ qs.map Rw.v := by
  intro h
  have e1 : ps[k] = p := by rw [← ep, List.getD_eq_getElem?_getD, List.getElem?_eq_getElem hp]; rfl
  have e2 : qs[k] = q := by rw [← eq, List.getD_eq_getElem?_getD, List.getElem?_eq_getElem hq]; rfl
  have := congrArg (fun l => l[k]?) h
  simp only [List.getElem?_map, List.getElem?_eq_getElem hp, List.getElem?_eq_getElem hq, e1, e2, Option.map_some, Option.some.injEq] at this
  exact hv this
set_option maxHeartbeats 1600000 in
set_option maxRecDepth 100000 in
theorem bodies16 (w : World) (a b : Option Addr) (n m c d : Nat) (ps qs : List Rw) (hP : Rws .u8 w a n ps) (hQ : Rws .u8 w b m qs) :
    Calls Try.prog 18 #[.slice a n c, .slice b m d] w fun e w' => e = .returned (.bool (decide (ps.map Rw.v = qs.map Rw.v))) ∧ Below w.heap.size w w' := by
  have HP := Lib.hid hP
  have HQ := Lib.hid hQ
  by_cases hnm : n = m
  rotate_left
  · have hne : ((n : Int) != (m : Int)) = true := by simp; omega
    have e1 : decide (ps.map Rw.v = qs.map Rw.v) = false := decide_eq_false (fun h => hnm (by have := congrArg List.length h; simp only [List.length_map] at this; rw [hP.1, hQ.1] at this; exact this))
    rw [e1]
    clear hP hQ hnm e1
    go_enter Try.func18, Try.ntmps18
    go_wp2
    go_ret
    exact ⟨rfl, Below.refl _ _⟩
  · subst hnm
    have hn := hP.2.1
    clear hP hQ
    go_enter Try.func18, Try.ntmps18
    go_wp2_with fail
    go_loopw [5] (fun i wr => ∃ k : Nat, k ≤ n ∧ i = .int .i64 k ∧ Hid ((ps.map Rw.v).take k = (qs.map Rw.v).take k ∧ Below w.heap.size w wr)) (fun i _ => n - (intOf i).toNat)
    case atStart => exact ⟨0, by omega, rfl, Lib.hid ⟨rfl, Below.refl _ _⟩⟩
    case round =>
      obtain ⟨k, hk, rfl, HJ⟩ := hrel
      by_cases hlt : k < n
      · have hlt2 : (k : Int) < (n : Int) := by omega
        obtain ⟨pb, po, p, rfl, _, pc, HPk, hpi⟩ := (HP.out.below HJ.out.2).at_ hlt
        obtain ⟨qb, qo, q, rfl, _, qc, HQk, hqi⟩ := (HQ.out.below HJ.out.2).at_ hlt
        have hpl : k < ps.length := by rw [HP.out.1]; exact hlt
        have hql : k < qs.length := by rw [HQ.out.1]; exact hlt
        obtain ⟨s1, hs1⟩ : ∃ s, strOfNums p.v = s := ⟨_, rfl⟩
        obtain ⟨s2, hs2⟩ : ∃ s, strOfNums q.v = s := ⟨_, rfl⟩
        have hse := str14_eq (xs := p.v) (ys := q.v) hpi.1.2.2.1 hqi.1.2.2.1
        rw [hs1, hs2] at hse
        have cp : ∀ d, Sem.run Try.prog (convert 37 9 (.slice p.a p.n p.cap)) (wr.drewN d) = .ok (.string s1) (wr.drewN d) := fun d => by rw [← hs1]; exact conv_u8 (show Elems .u8 (wr.drewN d) p.a p.n p.v from hpi.1)
        have cq : ∀ d, Sem.run Try.prog (convert 37 9 (.slice q.a q.n q.cap)) (wr.drewN d) = .ok (.string s2) (wr.drewN d) := fun d => by rw [← hs2]; exact conv_u8 (show Elems .u8 (wr.drewN d) q.a q.n q.v from hqi.1)
        by_cases hv : p.v = q.v
        · have HT := Lib.hid (take_eq_snoc hpl hql HPk.out HQk.out HJ.out.1 hv)
          have e12 : s1 = s2 := by rw [← hs1, ← hs2, hv]
          subst e12
          have hss : (s1.toList == s1.toList) = true := by simp
          clear hse hs1 hs2 hv hpl hql hpi hqi
          go_wp2_with fail
          go_quiet (fail)
          go_wp2_with fail
          go_roundw
          case rel => exact ⟨k + 1, by omega, by go_num, Lib.hid ⟨HT.out, below_drewN HJ.out.2 _⟩⟩
          case measure => simp [intOf]; omega
        · have HT := Lib.hid (map_ne_at hpl hql HPk.out HQk.out hv)
          rw [decide_eq_false hv] at hse
          clear hs1 hs2 hv hpl hql hpi hqi
          go_wp2_with fail
          go_quiet (fail)
          go_wp2_with fail
          go_ret
          exact ⟨by rw [decide_eq_false HT.out]; rfl, below_drewN HJ.out.2 _⟩
      · obtain rfl : k = n := by omega
        have HT : Hid (ps.map Rw.v = qs.map Rw.v) := Lib.hid (by
          have := HJ.out.1
          rwa [List.take_of_length_le (by rw [List.length_map, HP.out.1]; exact Nat.le_refl _), List.take_of_length_le (by rw [List.length_map, HQ.out.1]; exact Nat.le_refl _)] at this)
        have HB := Lib.hid HJ.out.2
        go_wp2_with fail
        go_ret
        exact ⟨by rw [decide_eq_true HT.out]; rfl, HB.out⟩

end Go.Proofs.Ytkinbngikmcpeaa
