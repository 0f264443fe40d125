/-
  A row of integers that the call itself has grown, read as a slice that holds a list.
-/
import Derived.Test.YthkehkjoaelmaaaElems
import Derived.OwnWalk
import Derived.WalkSmall
namespace Go.Proofs.Ythkehkjoaelmaaa
open Go.RowKit
set_option linter.unusedVariables false

theorem own_form {k : IntKind} {w : World} {base : Nat} {e : TypeId} {v : Value} {n : Nat} {cs : List Int} (h : w.ownsRow base e 1 v n (cs.map (.int k)))
    (hn : n ≤ 9223372036854775807) (hw : ∀ c ∈ cs, (Lit.int k c).wf = true) : ∃ a cap, v = .slice a n cap ∧ Elems k w a n cs := by
  have hl : cs.length = n := by have := h.1; simpa using this
  rcases h.2 with ⟨rfl, rfl⟩ | ⟨g, cap, cur, rfl, hb, hg, hnc, hcm, hcs, ht⟩
  · exact ⟨none, 0, rfl, by obtain rfl : cs = [] := List.length_eq_zero_iff.1 hl
                            exact Elems.nil_ _ _ _⟩
  · refine ⟨some ⟨g, 0, none⟩, cap, rfl, hl, hn, hw, fun _ => ⟨g, 0, rfl, fun i hi => ?_⟩⟩
    rw [Nat.zero_add, h.cellAt i (by omega), List.getElem?_map, List.getD_eq_getElem?_getD, List.getElem?_eq_getElem (by omega)]
    rfl

theorem own_nil (w : World) (base : Nat) (e : TypeId) : w.ownsRow base e 1 (.slice none 0 0) 0 [] := ⟨rfl, .inl ⟨rfl, rfl⟩⟩

theorem info_int64 : (Try.prog.info? 2).map (fun i => (i.zero, i.size, i.bytes)) = some (some (.int .i64 0), 1, 8) := by kernel_rfl
theorem info_int32 : (Try.prog.info? 21).map (fun i => (i.zero, i.size, i.bytes)) = some (some (.int .i32 0), 1, 4) := by kernel_rfl

theorem one_cell {k : IntKind} {v : Int} : ∀ u ∈ [Value.int k v], u.oneCell' = true := by
  intro u hu; simp only [List.mem_singleton] at hu; subst hu; rfl

/-- behind an append onto a row of the call's own (or nil) -/
theorem own_lt {w : World} {base : Nat} {e : TypeId} {v : Value} {n : Nat} {xs : List Value} (h : w.ownsRow base e 1 v n xs) : ∀ k, v.ownBlock = some k → base ≤ k := fun k hk => (h.lt k hk).1

theorem take_map_snoc (f : Int → Value) (xs : List Int) (k : Nat) (hk : k < xs.length) : (xs.take k).map f ++ [f (xs.getD k 0)] = (xs.take (k + 1)).map f := by
  rw [List.take_add_one, List.map_append]
  simp [List.getD, List.getElem?_eq_getElem hk]

/-- one group more -/
theorem groups_step {ss xs : List Int} {k : Nat} (h : wrap32 ss.sum = wrap32 (xs.take k).sum) (hw : ∀ s ∈ ss, (Lit.int .i32 s).wf = true) (m : Nat) :
    wrap32 (ss ++ [wsum ((xs.drop k).take m)]).sum = wrap32 (xs.take (k + m)).sum ∧ ∀ s ∈ ss ++ [wsum ((xs.drop k).take m)], (Lit.int .i32 s).wf = true := by
  refine ⟨?_, ?_⟩
  · rw [sum_cut, List.sum_append, ← wrap32_add, h, wrap32_add]
    simp only [List.sum_cons, List.sum_nil, Int.add_zero, wsum]
    rw [Int.add_comm, wrap32_add, Int.add_comm]
  · intro s hs
    rcases List.mem_append.1 hs with h1 | h1
    · exact hw s h1
    · simp only [List.mem_singleton] at h1; subst h1; exact wsum_wf _

/-- one number more of a list that is turned by kk places and read from its end -/
theorem turn_step {os xs : List Int} {n kk j p : Nat} {u : Int} (h : os.sum = ((xs.drop kk ++ xs.take kk).drop j).sum) (hw : ∀ s ∈ os, (Lit.int .i32 s).wf = true) (hl : xs.length = n) (hk : kk < n) (hj : 0 < j) (hjn : j ≤ n)
    (hp : ((j : Int) - 1 + (kk : Int)) % (n : Int) = (p : Int)) (hu : xs.getD p 0 = u) (wu : (Lit.int .i32 u).wf = true) :
    (os ++ [u]).sum = ((xs.drop kk ++ xs.take kk).drop (j - 1)).sum ∧ ∀ s ∈ os ++ [u], (Lit.int .i32 s).wf = true := by
  have hlen : (xs.drop kk ++ xs.take kk).length = n := by rw [List.length_append, List.length_drop, List.length_take]; omega
  refine ⟨?_, ?_⟩
  · rw [List.drop_eq_getElem_cons (i := j - 1) (by rw [hlen]; omega), show j - 1 + 1 = j by omega, List.sum_cons, List.sum_append, h]
    have e : (xs.drop kk ++ xs.take kk)[j - 1]'(by rw [hlen]; omega) = u := by
      rw [← hu, List.getD_eq_getElem?_getD]
      have hpn : (p : Int) = ((j - 1 + kk) % n : Nat) := by rw [← hp, Int.natCast_emod]; congr 1; omega
      have hpn' : p = (j - 1 + kk) % n := by omega
      rcases Nat.lt_or_ge (j - 1 + kk) n with hlt | hge
      · rw [Nat.mod_eq_of_lt hlt] at hpn'
        rw [List.getElem_append_left (by rw [List.length_drop]; omega), List.getElem_drop, List.getElem?_eq_getElem (by omega), Option.getD_some]
        congr 1; omega
      · rw [Nat.mod_eq_sub_mod hge, Nat.mod_eq_of_lt (by omega)] at hpn'
        rw [List.getElem_append_right (by rw [List.length_drop]; omega), List.getElem_take, List.getElem?_eq_getElem (by omega), Option.getD_some]
        congr 1; rw [List.length_drop]; omega
    rw [e, List.sum_cons, List.sum_nil]; omega
  · intro s hs
    rcases List.mem_append.1 hs with h1 | h1
    · exact hw s h1
    · simp only [List.mem_singleton] at h1; subst h1; exact wu

end Go.Proofs.Ythkehkjoaelmaaa
