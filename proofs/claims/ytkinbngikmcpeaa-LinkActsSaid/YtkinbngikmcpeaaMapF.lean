/-
  Maps of whatever keys and elements, said as functions from keys to elements: what a block holds, and what look-up, store, delete, clear, len and range do to it.
-/
import Derived.Test.YtkinbngikmcpeaaKit
import Derived.Maps.OwnSet
import Derived.Maps.RangeWalk
import Derived.ProofKit
namespace Go.Proofs.Ytkinbngikmcpeaa
open Go.RowKit Go.Maps
open Go.ChangeMaps (setBlock heap_setBlock_same heap_setBlock_other)
open Go.MapKept (run_getObj_map run_setObj_map)
set_option linter.unusedVariables false

/-- an element, as it is -/
def rawR (v : Value) : Option (DataW Value × List MemPlace) := some (.held v, [])
theorem rawR_inv {v u : Value} {ps : List MemPlace} (h : rawR v = some (.held u, ps)) : v = u := by
  simp only [rawR, Option.some.injEq, Prod.mk.injEq, DataW.held.injEq] at h
  exact h.1
noncomputable def upF (F : Lit → Option Value) (kl : Lit) (v : Value) : Lit → Option Value := fun z => open Classical in if z = kl then some v else F z
noncomputable def delF (F : Lit → Option Value) (kl : Lit) : Lit → Option Value := fun z => open Classical in if z = kl then none else F z
theorem upF_same (F : Lit → Option Value) (kl : Lit) (v : Value) : upF F kl v kl = some v := by simp [upF]
theorem upF_other {F : Lit → Option Value} {kl z : Lit} (v : Value) (h : z ≠ kl) : upF F kl v z = F z := by simp [upF, h]
theorem delF_same (F : Lit → Option Value) (kl : Lit) : delF F kl kl = none := by simp [delF]
theorem delF_other {F : Lit → Option Value} {kl z : Lit} (h : z ≠ kl) : delF F kl z = F z := by simp [delF, h]

/-- D holds just what F says, of n keys -/
structure SaysD (F : Lit → Option Value) (n : Nat) (D : DataW Value) : Prop where
  tidy : Tidy D
  size : Maps.size D = n
  has : ∀ kl, Maps.has D kl = (F kl).isSome
  val : ∀ kl v, F kl = some v → ∀ z, D.atKey kl z = .held v
theorem saysD_empty : SaysD (fun _ => none) 0 (.map []) := ⟨tidy_empty, rfl, fun kl => rfl, fun kl v h => by cases h⟩
theorem SaysD.put {F : Lit → Option Value} {n : Nat} {D : DataW Value} (h : SaysD F n D) {kl : Lit} (hk : WideAt.IsKeyLit kl) (v : Value) : SaysD (upF F kl v) (if (F kl).isSome then n else n + 1) (D.put kl (.held v)) := by
  refine ⟨h.tidy.put hk _, ?_, fun z => ?_, fun z u hz x => ?_⟩
  · rw [size_put h.tidy, h.has, h.size]
  · by_cases e : z = kl
    · rw [e, has_put_same h.tidy.isMap hk, upF_same]; rfl
    · rw [has_put_other e, upF_other v e, h.has]
  · by_cases e : z = kl
    · rw [e, upF_same] at hz
      cases hz
      rw [e, atKey_put_same h.tidy.isMap hk]
    · rw [upF_other v e] at hz
      rw [atKey_put_other e, h.val z u hz]
theorem SaysD.del {F : Lit → Option Value} {n : Nat} {D : DataW Value} (h : SaysD F n D) (kl : Lit) : SaysD (delF F kl) (if (F kl).isSome then n - 1 else n) (D.del kl) := by
  refine ⟨h.tidy.del kl, ?_, fun z => ?_, fun z u hz x => ?_⟩
  · have := size_del (k := kl) h.tidy
    rw [h.has, h.size] at this
    split at this <;> simp_all <;> omega
  · by_cases e : z = kl
    · rw [e, has_del_same, delF_same]; rfl
    · rw [has_del_other e, delF_other e, h.has]
  · by_cases e : z = kl
    · rw [e, delF_same] at hz
      cases hz
    · rw [delF_other e] at hz
      rw [atKey_del_other e, h.val z u hz]

/-- block b of w is a map of n keys that holds what F says -/
def MapAt (w : World) (k : TypeId) (b n : Nat) (F : Lit → Option Value) : Prop := ∃ D, w.ownsMap Try.prog k rawR b n D ∧ SaysD F n D
section
variable {w w' : World} {k : TypeId} {b n : Nat} {F : Lit → Option Value}
theorem MapAt.lt (h : MapAt w k b n F) : b < w.heap.size := let ⟨_, h, _⟩ := h; World.ownsMap.lt h
theorem MapAt.kept (h : MapAt w k b n F) {row : Option Nat} (hg : w.grownBy w' row) (hne : some b ≠ row) : MapAt w' k b n F := let ⟨D, h, hs⟩ := h; ⟨D, World.ownsMap.kept h hg hne, hs⟩
theorem MapAt.bel (h : MapAt w k b n F) {B : Nat} (hb : Below B w w') (hB : b < B) : MapAt w' k b n F := by
  obtain ⟨D, ⟨es, clock, hh, F', hs, hD⟩, h2⟩ := h
  exact ⟨D, ⟨es, clock, (hb.block b hB).trans hh, F', hs, hD⟩, h2⟩
theorem MapAt.block (h : MapAt w k b n F) (hb : w'.heap[b]? = w.heap[b]?) : MapAt w' k b n F := by
  obtain ⟨D, ⟨es, clock, hh, F', hs, hD⟩, h2⟩ := h
  exact ⟨D, ⟨es, clock, hb.trans hh, F', hs, hD⟩, h2⟩
theorem mapAt_made (w : World) (k : TypeId) {b : Nat} (hb : b = w.heap.size) : MapAt (w.alloc (.map #[] 0)) k b 0 (fun _ => none) := by
  subst hb
  exact ⟨_, World.ownsMap_made w _ _ _, saysD_empty⟩
/-- a map's block holds no cells -/
theorem MapAt.cell (h : MapAt w k b n F) (o : Nat) : w.cell? ⟨b, o, none⟩ = none := by
  obtain ⟨D, ⟨es, clock, hh, _⟩, _⟩ := h
  simp [World.cell?, hh]
theorem MapAt.cells (h : MapAt w k b n F) {cs : Array Value} {t : TypeId} {x : Nat × Nat} (hc : w.heap[b]? = some (.cells cs t x)) : False := by
  obtain ⟨D, ⟨es, clock, hh, _⟩, _⟩ := h
  rw [hc] at hh
  cases hh
theorem mapAt_fix (h : ∃ m D, w.ownsMap Try.prog k rawR b m D ∧ SaysD F n D) : MapAt w k b n F := by
  obtain ⟨m, D, ⟨es, clock, hh, F', hs, hD⟩, h2⟩ := h
  refine ⟨D, ⟨es, clock, hh, F', ?_, hD⟩, h2⟩
  have := h2.size
  rw [hD, Maps.size_eq, length_read] at this
  omega
/-- 'v, ok := m[k]' -/
theorem MapAt.look (h : MapAt w k b n F) {t e : TypeId} (K : Keyed Try.prog k) (ht : Try.prog.underlying t = some (.map k e)) {z : Value} (hz : (zeroValue e).run Try.prog w = .ok z w) {key : Value} {kl : Lit} (hkey : keyOf Try.prog k key = some kl)
    {v : Value} {ok : Bool} (hv : (F kl).getD z = v) (hok : (F kl).isSome = ok) : (Instr.lookup t (.map (some b)) key true).run Try.prog w = .ok (.tuple #[v, .bool ok]) w := by
  obtain ⟨D, hD, hs⟩ := h
  obtain ⟨u, ps, hr, hu⟩ := World.ownsMap.look_ok hD K ht hz (zd := .held z) (zp := []) rfl hkey
  have e1 : u = v := by
    cases hF : F kl with
    | some v' =>
      rw [hs.val kl v' hF] at hu
      rw [rawR_inv hu, ← hv, hF]; rfl
    | none =>
      have : Maps.has D kl = false := by rw [hs.has, hF]; rfl
      rw [atKey_of_not_has this] at hu
      rw [rawR_inv hu, ← hv, hF]; rfl
  rw [hr, e1, hs.has, hok]
/-- 'm[k] = v' -/
theorem MapAt.upd (h : MapAt w k b n F) {t e : TypeId} (K : Keyed Try.prog k) (ht : Try.prog.underlying t = some (.map k e)) (hn : n < maxLen) {key : Value} {kl : Lit} (hkey : keyOf Try.prog k key = some kl) (val : Value) {n' : Nat} (hn' : (if (F kl).isSome then n else n + 1) = n') :
    ∃ w', (Instr.mapUpdate t (.map (some b)) key val).run Try.prog w = .ok () w' ∧ MapAt w' k b n' (upF F kl val) ∧ w.grownBy w' (some b) := by
  obtain ⟨D, hD, hs⟩ := h
  obtain ⟨w', h1, h2, h3⟩ := World.ownsMap.update hD K ht hn hkey (val := val) (d := .held val) (ps := []) rfl
  refine ⟨w', h1, mapAt_fix ⟨_, _, h2, ?_⟩, h3⟩
  rw [← hn']
  exact hs.put (K.key hkey) val
theorem MapAt.drew (h : MapAt w k b n F) : MapAt w.drew k b n F := h
theorem MapAt.alloc (h : MapAt w k b n F) (o : Obj) : MapAt (w.alloc o) k b n F := h.kept (World.grownBy_alloc w o none) (by simp)
theorem MapAt.len (h : MapAt w k b n F) {t e : TypeId} (ht : Try.prog.underlying t = some (.map k e)) (ty : TypeId) : (Builtin.len_ #[t] ty #[.map (some b)]).run Try.prog w = .ok (.int .i64 n) w := by
  obtain ⟨D, h, hs⟩ := h
  rw [World.ownsMap.len h ht ty, hs.size]
theorem MapAt.clear (h : MapAt w k b n F) {t e : TypeId} (ht : Try.prog.underlying t = some (.map k e)) (ty : TypeId) :
    ∃ w', (Builtin.clear_ #[t] ty #[.map (some b)]).run Try.prog w = .ok (.tuple #[]) w' ∧ MapAt w' k b 0 (fun _ => none) ∧ w.mapTurned w' b := by
  obtain ⟨D, ⟨es, clock, hh, F', hs, hD⟩, h2⟩ := h
  refine ⟨setBlock w b (.map #[] clock), ?_, ⟨_, ⟨#[], clock, heap_setBlock_same hh _, ?_, by simp, rfl⟩, ?_⟩, ⟨es, clock, #[], clock, hh, rfl⟩⟩
  · simp [Builtin.clear_, run_underlying ht, MapKept.run_getObj_map hh, MapKept.run_setObj_map (.map #[] clock) hh, Sem.run_bind, Result.andThen, setBlock]
  · exact ⟨by simp, by simp [MapKept.Stamped], by simp⟩
  · exact saysD_empty
end

section
variable {w : World} {ops : Array Oper} {rest : List Oper} {o : Oper} {a : Act} {Q : Exit → Act → World → Prop}
/-- 'v, ok := m[k]' -/
theorem wpList_look (hg : o.guard = none) (m x : Operand) (t : TypeId) (hop : o.op = Op.lookup t m x true)
    (k e : TypeId) (K : Keyed Try.prog k) (ht : Try.prog.underlying t = some (.map k e)) (z : Value) (hz : (zeroValue e).run Try.prog w = .ok z w) (b n : Nat) (F : Lit → Option Value)
    (hm : a.eval m = .map (some b)) (hown : MapAt w k b n F) (key : Value) (kl : Lit) (hx : a.eval x = key) (hkey : keyOf Try.prog k key = some kl)
    (v : Value) (ok : Bool) (hv : (F kl).getD z = v) (hok : (F kl).isSome = ok) (hK : wpList Try.prog ops Q rest (a.put o.dst (.tuple #[v, .bool ok])) w) :
    wpList Try.prog ops Q (o :: rest) a w := by
  obtain ⟨D, hD, hs⟩ := hown
  refine wpList_lookup_own_ok w hg m x t hop k e K ht rawR hz (.held z) [] rfl b n D hm hD key kl hx hkey fun u ps hu => ?_
  have e1 : u = v := by
    cases hF : F kl with
    | some v' =>
      rw [hs.val kl v' hF] at hu
      rw [rawR_inv hu, ← hv, hF]; rfl
    | none =>
      have : Maps.has D kl = false := by rw [hs.has, hF]; rfl
      rw [atKey_of_not_has this] at hu
      rw [rawR_inv hu, ← hv, hF]; rfl
  rw [e1, hs.has, hok]
  exact hK
/-- 'm[k] = v' -/
theorem wpList_upd (hg : o.guard = none) (m x v : Operand) (t : TypeId) (hop : o.op = Op.mapUpdate t m x v)
    (k e : TypeId) (K : Keyed Try.prog k) (ht : Try.prog.underlying t = some (.map k e)) (b n : Nat) (F : Lit → Option Value)
    (hm : a.eval m = .map (some b)) (hown : MapAt w k b n F) (hn : n < maxLen) (key val : Value) (kl : Lit) (hx : a.eval x = key) (hv : a.eval v = val) (hkey : keyOf Try.prog k key = some kl)
    (n' : Nat) (hn' : (if (F kl).isSome then n else n + 1) = n')
    (hK : ∀ w', MapAt w' k b n' (upF F kl val) → w.grownBy w' (some b) → wpList Try.prog ops Q rest (a.put o.dst undef) w') :
    wpList Try.prog ops Q (o :: rest) a w := by
  obtain ⟨D, hD, hs⟩ := hown
  refine wpList_mapUpdate_own w hg m x v t hop k e K ht rawR b n D hm hD hn key val kl hx hv hkey (.held val) [] rfl fun w' h1 h2 => hK w' (mapAt_fix ⟨_, _, h1, ?_⟩) h2
  rw [← hn']
  exact hs.put (K.key hkey) val
end

/-- a range over the map in block b under way: the iterator in block r; 'left': what is to come yet -/
def RangeAt (w : World) (k : TypeId) (b r n : Nat) (F : Lit → Option Value) (left : Lit → Bool) (cnt : Nat) : Prop :=
  ∃ m D, w.ranges Try.prog k rawR b r m D left cnt ∧ SaysD F n D
section
variable {w w' : World} {k : TypeId} {b r n cnt : Nat} {F : Lit → Option Value} {left : Lit → Bool}
theorem RangeAt.owns (h : RangeAt w k b r n F left cnt) : MapAt w k b n F := let ⟨m, D, h, hs⟩ := h; mapAt_fix ⟨m, D, h.owns, hs⟩
theorem RangeAt.ne (h : RangeAt w k b r n F left cnt) : r ≠ b := let ⟨_, _, h, _⟩ := h; h.ne
theorem RangeAt.lt (h : RangeAt w k b r n F left cnt) : r < w.heap.size := let ⟨_, _, h, _⟩ := h; h.lt
theorem RangeAt.left_eq (h : RangeAt w k b r n F left cnt) : w.rangeLeft b r = cnt := let ⟨_, _, h, _⟩ := h; h.left_eq
/-- what is to come is there -/
theorem RangeAt.has (h : RangeAt w k b r n F left cnt) (K : Keyed Try.prog k) {kl : Lit} (hl : left kl = true) : (F kl).isSome = true := by
  obtain ⟨m, D, ⟨es, clock, since, seen, c0, a1, a2, a3, a4, a5, a6, a7, a8, a9, a10⟩, hs⟩ := h
  obtain ⟨x, hx, rfl⟩ := a9 kl hl
  rw [← hs.has, a4]
  obtain ⟨y, hy⟩ := a2.reads x hx
  exact List.any_eq_true.2 ⟨_, mem_sorted.2 (List.mem_map.2 ⟨x, hx, rfl⟩), WideAt.sameKey_self (by rw [Go.WideElems.rg_of hy]; exact K.key (Go.WideElems.rd_key hy))⟩
theorem RangeAt.kept (h : RangeAt w k b r n F left cnt) {row : Option Nat} (hg : w.grownBy w' row) (h1 : some b ≠ row) (h2 : some r ≠ row) : RangeAt w' k b r n F left cnt :=
  let ⟨m, D, h, hs⟩ := h; ⟨m, D, h.kept hg h1 h2, hs⟩
theorem RangeAt.bel (h : RangeAt w k b r n F left cnt) (hb : Below w.heap.size w w') : RangeAt w' k b r n F left cnt := by
  have h1 := h.owns.lt
  have h2 := h.lt
  obtain ⟨m, D, ⟨es, clock, since, seen, c0, a1, a2, a3, a4, a5, a6⟩, hs⟩ := h
  exact ⟨m, D, ⟨es, clock, since, seen, c0, (hb.block b h1).trans a1, a2, a3, a4, (hb.block r h2).trans a5, a6⟩, hs⟩
end
section
variable {w : World} {ops : Array Oper} {rest : List Oper} {o : Oper} {a : Act} {Q : Exit → Act → World → Prop}
/-- 'range m' -/
theorem wpList_rangeF (hg : o.guard = none) (m : Operand) (t : TypeId) (hop : o.op = Op.range t m) (k e : TypeId) (K : Keyed Try.prog k) (ht : Try.prog.underlying t = some (.map k e)) (b n : Nat) (F : Lit → Option Value)
    (hm : a.eval m = .map (some b)) (hown : MapAt w k b n F)
    (hK : ∀ w', RangeAt w' k b w.heap.size n F (fun kl => (F kl).isSome) n → w.grownBy w' none → w'.heap.size = w.heap.size + 1 → wpList Try.prog ops Q rest (a.put o.dst (.pointer (some ⟨w.heap.size, 0, none⟩))) w') :
    wpList Try.prog ops Q (o :: rest) a w := by
  obtain ⟨D, hD, hs⟩ := hown
  refine wpList_range_own w hg m t hop k e K ht rawR b n D hm hD fun w' h1 h2 h3 => hK w' ⟨n, D, ?_, hs⟩ h2 h3
  have e1 : Maps.has D = fun kl => (F kl).isSome := funext hs.has
  rw [← e1, ← hs.size]
  rw [hs.size] at h1 ⊢
  exact h1
/-- a range's step -/
theorem wpList_nextF {α : Type} (hg : o.guard = none) (it : Operand) (hop : o.op = Op.next it false) (k : TypeId) (K : Keyed Try.prog k) (mkK : α → Value)
    (invK : ∀ key kl, keyOf Try.prog k key = some kl → ∃ x, key = mkK x) (b r n : Nat) (F : Lit → Option Value) (left : Lit → Bool) (cnt : Nat)
    (hit : a.eval it = .pointer (some ⟨r, 0, none⟩)) (h : RangeAt w k b r n F left cnt)
    (hDone : cnt = 0 → (∀ kl, left kl = false) → wpList Try.prog ops Q rest (a.put o.dst (.tuple #[.bool false])) w)
    (hMore : ∀ (x : α) (v : Value) (kl : Lit) (w' : World) (cnt' : Nat), keyOf Try.prog k (mkK x) = some kl → left kl = true → (∀ u, F kl = some u → u = v) → RangeAt w' k b r n F (fun z => left z && !z.sameKey kl) cnt' → cnt' < cnt →
      w.grownBy w' (some r) → w'.heap.size = w.heap.size → (Instr.entry (.pointer (some ⟨r, 0, none⟩))).run Try.prog w' = .ok (.tuple #[mkK x, v]) w' → wpList Try.prog ops Q rest (a.put o.dst (.tuple #[.bool true, mkK x, v])) w') :
    wpList Try.prog ops Q (o :: rest) a w := by
  obtain ⟨m, D, hR, hs⟩ := h
  refine wpList_next_ranges w hg it hop k K rawR mkK id invK (fun v y _ => ⟨v, rfl⟩) b r m D left cnt hit hR hDone fun x c kl y w' cnt' h1 h2 h3 h4 h5 h6 h7 h8 h9 => hMore x c kl w' cnt' h1 h2 (fun u hu => ?_) ⟨m, D, h5, hs⟩ h6 h7 h8 h9
  have e1 := (hs.val kl u hu .nil).symm.trans (h4 .nil)
  refine (rawR_inv (v := c) (u := u) (ps := y.2) ?_).symm
  rw [e1]
  exact h3
/-- 'delete(m, k)' in the round -/
theorem wpList_delF (hg : o.guard = none) (m x : Operand) (t k : TypeId) (hop : o.op = Op.call { callee := Callee.builtin Builtin.delete, args := #[m, x], argTypes := #[t, k] })
    (e : TypeId) (K : Keyed Try.prog k) (ht : Try.prog.underlying t = some (.map k e)) (b r n : Nat) (F : Lit → Option Value) (left : Lit → Bool) (cnt : Nat)
    (hm : a.eval m = .map (some b)) (h : RangeAt w k b r n F left cnt) (key : Value) (kl : Lit) (hx : a.eval x = key) (hkey : keyOf Try.prog k key = some kl) (n' : Nat) (hn' : (if (F kl).isSome then n - 1 else n) = n')
    (hK : ∀ w' cnt', RangeAt w' k b r n' (delF F kl) (fun z => left z && !z.sameKey kl) cnt' → cnt' ≤ cnt → w.mapTurned w' b → wpList Try.prog ops Q rest (a.put o.dst (.tuple #[])) w') :
    wpList Try.prog ops Q (o :: rest) a w := by
  obtain ⟨m', D, hR, hs⟩ := h
  exact wpList_delete_ranges w hg m x t k hop e K ht rawR b r m' D left cnt hm hR key kl hx hkey fun w' cnt' h1 h2 h3 => hK w' cnt' ⟨m', _, h1, hn' ▸ hs.del kl⟩ h2 h3
end

end Go.Proofs.Ytkinbngikmcpeaa
