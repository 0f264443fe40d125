/-
  A row of integers that the call itself has grown, read as a slice that holds a list.
-/
import Derived.Test.YthkehkjoaelmaaaElems
import Derived.OwnWalk
import Derived.WalkSmall
namespace Go.Proofs.Ythkehkjoaelmaaa
open Go.RowKit
set_option linter.unusedVariables false

theorem own_form {k : IntKind} {w : World} {base : Nat} {e : TypeId} {v : Value} {n : Nat} {cs : List Int} (h : w.ownsRow base e 1 v n (cs.map (.int k)))
    (hn : n ≤ 9223372036854775807) (hw : ∀ c ∈ cs, (Lit.int k c).wf = true) : ∃ a cap, v = .slice a n cap ∧ Elems k w a n cs := by
  have hl : cs.length = n := by have := h.1; simpa using this
  rcases h.2 with ⟨rfl, rfl⟩ | ⟨g, cap, cur, rfl, hb, hg, hnc, hcm, hcs, ht⟩
  · exact ⟨none, 0, rfl, by obtain rfl : cs = [] := List.length_eq_zero_iff.1 hl
                            exact Elems.nil_ _ _ _⟩
  · refine ⟨some ⟨g, 0, none⟩, cap, rfl, hl, hn, hw, fun _ => ⟨g, 0, rfl, fun i hi => ?_⟩⟩
    rw [Nat.zero_add, h.cellAt i (by omega), List.getElem?_map, List.getD_eq_getElem?_getD, List.getElem?_eq_getElem (by omega)]
    rfl

theorem own_nil (w : World) (base : Nat) (e : TypeId) : w.ownsRow base e 1 (.slice none 0 0) 0 [] := ⟨rfl, .inl ⟨rfl, rfl⟩⟩

theorem info_int64 : (Try.prog.info? 2).map (fun i => (i.zero, i.size, i.bytes)) = some (some (.int .i64 0), 1, 8) := by kernel_rfl
theorem info_int32 : (Try.prog.info? 21).map (fun i => (i.zero, i.size, i.bytes)) = some (some (.int .i32 0), 1, 4) := by kernel_rfl

theorem one_cell {k : IntKind} {v : Int} : ∀ u ∈ [Value.int k v], u.oneCell' = true := by
  intro u hu; simp only [List.mem_singleton] at hu; subst hu; rfl

/-- behind an append onto a row of the call's own (or nil) -/
theorem own_lt {w : World} {base : Nat} {e : TypeId} {v : Value} {n : Nat} {xs : List Value} (h : w.ownsRow base e 1 v n xs) : ∀ k, v.ownBlock = some k → base ≤ k := fun k hk => (h.lt k hk).1

theorem take_map_snoc (f : Int → Value) (xs : List Int) (k : Nat) (hk : k < xs.length) : (xs.take k).map f ++ [f (xs.getD k 0)] = (xs.take (k + 1)).map f := by
  rw [List.take_add_one, List.map_append]
  simp [List.getD, List.getElem?_eq_getElem hk]

end Go.Proofs.Ythkehkjoaelmaaa
