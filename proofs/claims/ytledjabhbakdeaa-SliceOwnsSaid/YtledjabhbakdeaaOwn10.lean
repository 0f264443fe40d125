/-
  Owners: who has which head of which layer; what the map of owners holds while it grows; an entry that is made by an append.
-/
import Derived.Test.YtledjabhbakdeaaPairMap
import Derived.Test.YtledjabhbakdeaaEven10
import Derived.WideKeyEntry
namespace Go.Proofs.Ytledjabhbakdeaa
open Go.RowKit Go.Maps Go.ChangeMaps
set_option linter.unusedVariables false

/-- in which part thing x lies, of n things in m even parts -/
def atN (n m x : Nat) : Nat := ((x + 1) * m - 1) / n
theorem atN_iff {n m x j : Nat} (hn : 1 ≤ n) (hm : 1 ≤ m) : spanAt n m j ≤ x ↔ j ≤ atN n m x := by
  unfold spanAt atN
  rw [Nat.le_div_iff_mul_le (by omega)]
  constructor
  · intro h
    have h1 := (Nat.div_lt_iff_lt_mul (show 0 < m by omega)).1 (show j * n / m < x + 1 by omega)
    omega
  · intro h
    have hp : 1 ≤ (x + 1) * m := Nat.mul_le_mul (show 1 ≤ x + 1 by omega) hm
    have := (Nat.div_lt_iff_lt_mul (show 0 < m by omega)).2 (show j * n < (x + 1) * m by omega)
    omega
theorem atN_eq {n m x j : Nat} (hn : 1 ≤ n) (hm : 1 ≤ m) : (spanAt n m j ≤ x ∧ x < spanAt n m (j + 1)) ↔ j = atN n m x := by
  have h1 := atN_iff (j := j) (x := x) hn hm
  have h2 := atN_iff (j := j + 1) (x := x) hn hm
  omega
theorem atN_lt {n m x : Nat} (hn : 1 ≤ n) (hm : 1 ≤ m) (hx : x < n) : atN n m x < m := by
  have h := (atN_eq (j := atN n m x) hn hm).2 rfl
  apply Classical.byContradiction
  intro c
  have := span_mono n m m (atN n m x) (by omega)
  rw [span_end n m hm] at this
  omega

/-- who has head h of layer l -/
def owner (s : Sz) (st pt l h : Nat) : Nat := atN s.l st l * pt + atN s.h pt h
theorem owner_lt {s : Sz} {st pt l h : Nat} (hL : 1 ≤ s.l) (hH : 1 ≤ s.h) (h1 : 1 ≤ st) (h2 : 1 ≤ pt) (hl : l < s.l) (hh : h < s.h) : owner s st pt l h < st * pt := by
  unfold owner
  have a := atN_lt hL h1 hl
  have b := atN_lt hH h2 hh
  have := Nat.mul_le_mul_right pt (show atN s.l st l + 1 ≤ st by omega)
  rw [Nat.add_mul] at this
  omega
theorem owner_eq {s : Sz} {st pt l h n : Nat} (hL : 1 ≤ s.l) (hH : 1 ≤ s.h) (h1 : 1 ≤ st) (h2 : 1 ≤ pt) (hh : h < s.h) :
    owner s st pt l h = n ↔ (atN s.l st l = n / pt ∧ atN s.h pt h = n % pt) := by
  unfold owner
  have b := atN_lt hH h2 hh
  constructor
  · rintro rfl
    refine ⟨?_, ?_⟩
    · rw [Nat.mul_comm, Nat.mul_add_div (by omega), Nat.div_eq_of_lt b]; rfl
    · rw [Nat.mul_comm, Nat.mul_add_mod, Nat.mod_eq_of_lt b]
  · rintro ⟨e1, e2⟩
    rw [e1, e2, Nat.mul_comm]
    exact Nat.div_add_mod n pt
theorem owner_span {s : Sz} {st pt l h n : Nat} (hL : 1 ≤ s.l) (hH : 1 ≤ s.h) (h1 : 1 ≤ st) (h2 : 1 ≤ pt) (hh : h < s.h) :
    owner s st pt l h = n ↔ (spanAt s.l st (n / pt) ≤ l ∧ l < spanAt s.l st (n / pt + 1)) ∧ (spanAt s.h pt (n % pt) ≤ h ∧ h < spanAt s.h pt (n % pt + 1)) := by
  rw [owner_eq hL hH h1 h2 hh, atN_eq hL h1, atN_eq hH h2]
  omega

/-- which heads were visited: all of the workers ahead of n, and n's ahead of layer l0 and head h0 -/
def Vis (s : Sz) (st pt : Nat) (ps : List Nat) (n l0 h0 : Nat) : Prop :=
  ps.Nodup ∧ (∀ c ∈ ps, c < s.l * s.h) ∧ ∀ l h, l < s.l → h < s.h → (l * s.h + h ∈ ps ↔ owner s st pt l h < n ∨ owner s st pt l h = n ∧ (l < l0 ∨ l = l0 ∧ h < h0))
theorem code_inj {H l h l' h' : Nat} (a : h < H) (b : h' < H) (e : l * H + h = l' * H + h') : l = l' ∧ h = h' := by
  have e1 : (l * H + h) / H = l := by rw [Nat.mul_comm, Nat.mul_add_div (by omega), Nat.div_eq_of_lt a]; rfl
  have e2 : (l' * H + h') / H = l' := by rw [Nat.mul_comm, Nat.mul_add_div (by omega), Nat.div_eq_of_lt b]; rfl
  have : l = l' := by rw [← e1, ← e2, e]
  subst this
  omega
theorem code_lt {s : Sz} {l h : Nat} (hl : l < s.l) (hh : h < s.h) : l * s.h + h < s.l * s.h := by
  have := Nat.mul_le_mul_right s.h (show l + 1 ≤ s.l by omega)
  rw [Nat.add_mul] at this
  omega
theorem vis_start (s : Sz) (st pt : Nat) : Vis s st pt [] 0 0 0 := ⟨List.nodup_nil, by simp, fun l h _ _ => by simp⟩
theorem vis_step {s : Sz} {st pt n l h : Nat} {ps : List Nat} (v : Vis s st pt ps n l h) (hl : l < s.l) (hh : h < s.h) (ho : owner s st pt l h = n) : Vis s st pt (ps ++ [l * s.h + h]) n l (h + 1) ∧ l * s.h + h ∉ ps := by
  obtain ⟨v1, v2, v3⟩ := v
  have hno : l * s.h + h ∉ ps := by
    rw [v3 l h hl hh]
    omega
  refine ⟨⟨?_, ?_, fun l' h' hl' hh' => ?_⟩, hno⟩
  · refine List.nodup_append.2 ⟨v1, by simp, ?_⟩
    intro a ha b hb e
    simp only [List.mem_singleton] at hb
    subst hb; subst e
    exact hno ha
  · intro c hc
    rcases List.mem_append.1 hc with hc | hc
    · exact v2 c hc
    · simp only [List.mem_singleton] at hc
      subst hc
      exact code_lt hl hh
  · rw [List.mem_append, v3 l' h' hl' hh', List.mem_singleton]
    constructor
    · rintro (hc | hc)
      · omega
      · obtain ⟨rfl, rfl⟩ := code_inj hh' hh hc
        right
        exact ⟨ho, by omega⟩
    · rintro (hc | ⟨e, hc⟩)
      · exact .inl (.inl hc)
      · by_cases c : l' = l ∧ h' = h
        · obtain ⟨rfl, rfl⟩ := c
          exact .inr rfl
        · exact .inl (.inr ⟨e, by omega⟩)
/-- a layer's heads end -/
theorem vis_row {s : Sz} {st pt n l h0 h1 : Nat} {ps : List Nat} (v : Vis s st pt ps n l h1) (hb : ∀ h, h < s.h → owner s st pt l h = n → h0 ≤ h ∧ h < h1) (hl : ∀ h, h < s.h → owner s st pt (l + 1) h = n → h0 ≤ h) : Vis s st pt ps n (l + 1) h0 := by
  obtain ⟨v1, v2, v3⟩ := v
  refine ⟨v1, v2, fun l' h' hl' hh' => ?_⟩
  rw [v3 l' h' hl' hh']
  constructor
  · rintro (hc | ⟨e, hc⟩)
    · exact .inl hc
    · exact .inr ⟨e, by omega⟩
  · rintro (hc | ⟨e, hc⟩)
    · exact .inl hc
    · refine .inr ⟨e, ?_⟩
      rcases hc with hc | ⟨rfl, hc⟩
      · rcases Nat.lt_or_ge l' l with h | h
        · exact .inl h
        · obtain rfl : l' = l := by omega
          have := hb h' hh' e
          exact .inr ⟨rfl, this.2⟩
      · have := hl h' hh' e
        omega
/-- where a worker's stretch begins -/
theorem vis_move {s : Sz} {st pt n l0 h0 l1 h1 : Nat} {ps : List Nat} (v : Vis s st pt ps n l0 h0) (hb : ∀ l h, l < s.l → h < s.h → owner s st pt l h = n → ((l < l0 ∨ l = l0 ∧ h < h0) ↔ (l < l1 ∨ l = l1 ∧ h < h1))) : Vis s st pt ps n l1 h1 := by
  obtain ⟨v1, v2, v3⟩ := v
  refine ⟨v1, v2, fun l' h' hl' hh' => ?_⟩
  rw [v3 l' h' hl' hh']
  constructor
  · rintro (hc | ⟨e, hc⟩)
    · exact .inl hc
    · exact .inr ⟨e, (hb l' h' hl' hh' e).1 hc⟩
  · rintro (hc | ⟨e, hc⟩)
    · exact .inl hc
    · exact .inr ⟨e, (hb l' h' hl' hh' e).2 hc⟩
/-- the next worker -/
theorem vis_next {s : Sz} {st pt n l1 : Nat} {ps : List Nat} (v : Vis s st pt ps n l1 0) (hb : ∀ l h, l < s.l → h < s.h → owner s st pt l h = n → l < l1) : Vis s st pt ps (n + 1) 0 0 := by
  obtain ⟨v1, v2, v3⟩ := v
  refine ⟨v1, v2, fun l' h' hl' hh' => ?_⟩
  rw [v3 l' h' hl' hh']
  constructor
  · rintro (hc | ⟨e, hc⟩) <;> omega
  · intro hc
    rcases Nat.lt_or_ge (owner s st pt l' h') n with h | h
    · exact .inl h
    · have e : owner s st pt l' h' = n := by omega
      exact .inr ⟨e, .inl (hb l' h' hl' hh' e)⟩
/-- all were visited -/
theorem vis_all {s : Sz} {st pt : Nat} {ps : List Nat} (v : Vis s st pt ps (st * pt) 0 0) (hL : 1 ≤ s.l) (hH : 1 ≤ s.h) (h1 : 1 ≤ st) (h2 : 1 ≤ pt) : ps.length = s.l * s.h ∧ ∀ l h, l < s.l → h < s.h → l * s.h + h ∈ ps := by
  obtain ⟨v1, v2, v3⟩ := v
  have hin : ∀ l h, l < s.l → h < s.h → l * s.h + h ∈ ps := fun l h hl hh => (v3 l h hl hh).2 (.inl (owner_lt hL hH h1 h2 hl hh))
  refine ⟨?_, hin⟩
  have hp : ps.Perm (List.range (s.l * s.h)) := by
    refine (List.perm_ext_iff_of_nodup v1 List.nodup_range).2 fun c => ?_
    rw [List.mem_range]
    refine ⟨v2 c, fun hc => ?_⟩
    have := hin (c / s.h) (c % s.h) ((Nat.div_lt_iff_lt_mul (by omega)).2 hc) (Nat.mod_lt _ (by omega))
    have e := Nat.div_add_mod c s.h
    rwa [Nat.mul_comm, e] at this
  have := hp.length_eq
  simpa using this

/-- how an owner's list reads: where it lies -/
def sl1 : Value → Option (DataW Unit × List MemPlace)
  | .slice (some ⟨g, 0, none⟩) 1 cap => some (.agg [.lit (.int .i64 g), .lit (.int .i64 cap)], [])
  | .slice none 0 0 => some (.nil, [])
  | _ => none
theorem sl1_mk (g cap : Nat) : sl1 (.slice (some ⟨g, 0, none⟩) 1 cap) = some (.agg [.lit (.int .i64 g), .lit (.int .i64 cap)], []) := rfl
theorem sl1_inv {v : Value} {g cap : Nat} {ps : List MemPlace} (h : sl1 v = some (.agg [.lit (.int .i64 g), .lit (.int .i64 cap)], ps)) : v = .slice (some ⟨g, 0, none⟩) 1 cap := by
  unfold sl1 at h
  split at h
  · simp only [Option.some.injEq, Prod.mk.injEq, DataW.agg.injEq, List.cons.injEq, DataW.lit.injEq, Lit.int.injEq, true_and, and_true] at h
    obtain ⟨⟨e1, e2⟩, _⟩ := h
    have e1 := Int.ofNat.inj e1
    have e2 := Int.ofNat.inj e2
    subst e1 e2
    rfl
  · simp at h
  · cases h

/-- block b is the map of owners, of the heads in ps -/
def OM (w : World) (b : Nat) (s : Sz) (st pt : Nat) (ps : List Nat) : Prop :=
  ∃ D, w.ownsMap Try.prog 29 sl1 b ps.length D ∧ Maps.size D = ps.length ∧ ∀ l h, l < s.l → h < s.h →
    Maps.has D (keyP l h) = decide (l * s.h + h ∈ ps) ∧ (l * s.h + h ∈ ps → ∃ g cap : Nat, (∀ z, D.atKey (keyP l h) z = .agg [.lit (.int .i64 g), .lit (.int .i64 cap)]) ∧ b < g ∧ w.cell? ⟨g, 0, none⟩ = some (.int .i64 (owner s st pt l h)))
theorem OM.lt {w : World} {b : Nat} {s : Sz} {st pt : Nat} {ps : List Nat} (h : OM w b s st pt ps) : b < w.heap.size := by obtain ⟨D, h, _⟩ := h; exact World.ownsMap.lt h
theorem OM.below {w w' : World} {b : Nat} {s : Sz} {st pt : Nat} {ps : List Nat} (h : OM w b s st pt ps) (hb : Below w.heap.size w w') : OM w' b s st pt ps := by
  have hlt := h.lt
  obtain ⟨D, h1, h2, h3⟩ := h
  obtain ⟨es, clock, hh, F, hs, hD⟩ := h1
  refine ⟨D, ⟨es, clock, (hb.block b hlt).trans hh, F, hs, hD⟩, h2, fun l hd hl hh => ?_⟩
  obtain ⟨h4, h5⟩ := h3 l hd hl hh
  refine ⟨h4, fun hm => ?_⟩
  obtain ⟨g, cap, h6, h7, h8⟩ := h5 hm
  exact ⟨g, cap, h6, h7, (hb.cell (p := ⟨g, 0, none⟩) (World.block_lt_of_cell? _ _ h8)).trans h8⟩
theorem om_made (w : World) (s : Sz) (st pt : Nat) : OM (w.alloc (.map #[] 0)) w.heap.size s st pt [] := by
  refine ⟨.map [], World.ownsMap_made w _ _ _, rfl, fun l h hl hh => ⟨?_, fun h => absurd h (by simp)⟩⟩
  rw [decide_eq_false (by simp)]; rfl
/-- one head more -/
theorem om_step {w w' : World} {b : Nat} {s : Sz} {st pt : Nat} {ps : List Nat} {D : DataW Unit} (h1 : w.ownsMap Try.prog 29 sl1 b ps.length D) (h2 : Maps.size D = ps.length)
    (h3 : ∀ l h, l < s.l → h < s.h → Maps.has D (keyP l h) = decide (l * s.h + h ∈ ps) ∧ (l * s.h + h ∈ ps → ∃ g cap : Nat, (∀ z, D.atKey (keyP l h) z = .agg [.lit (.int .i64 g), .lit (.int .i64 cap)]) ∧ b < g ∧ w.cell? ⟨g, 0, none⟩ = some (.int .i64 (owner s st pt l h))))
    (hcell : ∀ g, b < g → ∀ v, w.cell? ⟨g, 0, none⟩ = some v → w'.cell? ⟨g, 0, none⟩ = some v) {l h g cap : Nat} (hl : l < s.l) (hh : h < s.h) (hL : s.l ≤ 16) (hH : s.h ≤ 16) (hno : l * s.h + h ∉ ps)
    (hm : w'.ownsMap Try.prog 29 sl1 b (ps.length + 1) (D.put (keyP l h) (.agg [.lit (.int .i64 g), .lit (.int .i64 cap)]))) (hg : b < g) (hc : w'.cell? ⟨g, 0, none⟩ = some (.int .i64 (owner s st pt l h))) :
    OM w' b s st pt (ps ++ [l * s.h + h]) := by
  have ht := World.ownsMap.tidy h1 law2
  have hnd : Maps.has D (keyP l h) = false := by rw [(h3 l h hl hh).1, decide_eq_false hno]
  refine ⟨_, by simpa using hm, ?_, fun l' h' hl' hh' => ?_⟩
  · rw [size_put ht, hnd, h2]; simp
  · by_cases e : l' = l ∧ h' = h
    · obtain ⟨rfl, rfl⟩ := e
      refine ⟨by rw [has_put_same ht.isMap (keyP_isKey _ _), decide_eq_true (by simp)], fun _ => ⟨g, cap, fun z => atKey_put_same ht.isMap (keyP_isKey _ _) _ _, hg, hc⟩⟩
    · have hk : keyP l' h' ≠ keyP l h := fun e2 => e (keyP_inj (by omega) (by omega) (by omega) (by omega) e2)
      have hmem : l' * s.h + h' ∈ ps ++ [l * s.h + h] ↔ l' * s.h + h' ∈ ps := by
        rw [List.mem_append, List.mem_singleton]
        constructor
        · rintro (hc | hc)
          · exact hc
          · exact absurd (code_inj hh' hh hc) e
        · exact .inl
      obtain ⟨h4, h5⟩ := h3 l' h' hl' hh'
      refine ⟨?_, fun hm => ?_⟩
      · rw [has_put_other hk, h4]
        congr 1
        exact propext hmem.symm
      · obtain ⟨g2, cap2, h6, h7, h8⟩ := h5 (hmem.1 hm)
        exact ⟨g2, cap2, fun z => by rw [atKey_put_other hk]; exact h6 z, h7, hcell g2 h7 _ h8⟩

/-- 'm[k] op= ..' where k isn't there: the entry is made, then stored -/
theorem entry_new {P : Program} {k t e : TypeId} {R : Value → Option (DataW Unit × List MemPlace)} {w : World} {b n : Nat} {D : DataW Unit} (h : w.ownsMap P k R b n D) (K : Go.WideMaps.KeyLaw P k) (ht : P.underlying t = some (.map k e)) {z : Value} (hz : ∀ u : World, (zeroValue e).run P u = .ok z u)
    (hn : n < maxLen) {key : Value} {kl : Lit} (hkey : keyOf P k key = some kl) (hno : Maps.has D kl = false) :
    ∃ (st : Nat) (w1 : World), (Instr.mapEntry t (.map (some b)) key).run P w = .ok (.tuple #[z, goInt st]) w1 ∧ w.grownBy w1 (some b) ∧
      ∀ (w2 : World) (val : Value) (d : DataW Unit) (ps : List MemPlace), w2.heap[b]? = w1.heap[b]? → R val = some (d, ps) →
        ∃ w3, (Instr.entryStore t (.map (some b)) (goInt st) val).run P w2 = .ok () w3 ∧ w3.ownsMap P k R b (n + 1) (D.put kl d) ∧ w2.grownBy w3 (some b) := by
  have KK := Keyed.of_law K
  have hput := fun val d ps (hv : R val = some (d, ps)) => World.ownsMap.update h KK ht hn hkey hv
  obtain ⟨es, clock, hb, F, hs, rfl⟩ := h
  obtain ⟨v0, st, es1, clock1, r1, hor, hst⟩ := Go.WideElems.entry_then_store K ht hz hb F hkey
  have hv0 : v0 = z := by
    rcases hor with ⟨e0, hm, hke, _⟩ | ⟨_, hv⟩
    · rcases Maps.fit_look true KK ht (hz w) hb F hkey with ⟨_, hnone, _⟩ | ⟨e1, y, _, _, _, _, hat, _⟩
      · exact absurd hke (hnone e0 hm)
      · rw [Maps.has_true_of_atKey hat] at hno; cases hno
    · exact hv
  subst hv0
  refine ⟨st, _, r1, ⟨rfl, rfl, rfl, by simp [setBlock], fun i _ hi => heap_setBlock_other hb _ (fun e => hi (by rw [e]))⟩, fun w2 val d ps hw2 hv => ?_⟩
  rw [heap_setBlock_same hb] at hw2
  obtain ⟨es', clock', hrun, hup⟩ := hst w2 val hw2
  obtain ⟨w', hrun2, hown, _⟩ := hput val d ps hv
  rw [hup] at hrun2
  have hw' : setBlock w b (.map es' clock') = w' := by
    simp only [Result.ok.injEq, true_and] at hrun2
    exact hrun2
  subst hw'
  obtain ⟨es2, clock2, hb2, rest⟩ := hown
  rw [heap_setBlock_same hb] at hb2
  refine ⟨_, hrun, ⟨es2, clock2, (heap_setBlock_same hw2 _).trans hb2, rest⟩, ⟨rfl, rfl, rfl, by simp [setBlock], fun i _ hi => heap_setBlock_other hw2 _ (fun e => hi (by rw [e]))⟩⟩

/-- at the operations, for the walk -/
theorem wpList_mapEntry_at {P : Program} {w w' : World} {ops : Array Oper} {rest : List Oper} {o : Oper} {a : Act} {Q : Exit → Act → World → Prop} (hg : o.guard = none) (m x : Operand) (t : TypeId) (hop : o.op = Op.mapEntry t m x)
    (vm vx r : Value) (hm : a.eval m = vm) (hx : a.eval x = vx) (hrun : (Instr.mapEntry t vm vx).run P w = .ok r w') (hK : wpList P ops Q rest (a.put o.dst r) w') : wpList P ops Q (o :: rest) a w := by
  refine wpList_plain hg fun K' hK' => ?_
  unfold Oper.wp
  simp [execOp, hop, hm, hx, hrun, Result.andThen]
  exact hK' _ _ hK
theorem wpList_entryStore_at {P : Program} {w w' : World} {ops : Array Oper} {rest : List Oper} {o : Oper} {a : Act} {Q : Exit → Act → World → Prop} (hg : o.guard = none) (m s x : Operand) (t : TypeId) (hop : o.op = Op.entryStore t m s x)
    (vm vs vx : Value) (hm : a.eval m = vm) (hs : a.eval s = vs) (hx : a.eval x = vx) (hrun : (Instr.entryStore t vm vs vx).run P w = .ok () w') (hK : wpList P ops Q rest (a.put o.dst undef) w') : wpList P ops Q (o :: rest) a w := by
  refine wpList_plain hg fun K' hK' => ?_
  unfold Oper.wp
  simp [execOp, hop, hm, hs, hx, hrun, Result.andThen]
  exact hK' _ _ hK
theorem wpList_lookup_at {P : Program} {w : World} {ops : Array Oper} {rest : List Oper} {o : Oper} {a : Act} {Q : Exit → Act → World → Prop} (hg : o.guard = none) (m x : Operand) (t : TypeId) (c : Bool) (hop : o.op = Op.lookup t m x c)
    (vm vx r : Value) (hm : a.eval m = vm) (hx : a.eval x = vx) (hrun : (Instr.lookup t vm vx c).run P w = .ok r w) (hK : wpList P ops Q rest (a.put o.dst r) w) : wpList P ops Q (o :: rest) a w := by
  refine wpList_plain hg fun K' hK' => ?_
  unfold Oper.wp
  simp [execOp, hop, hm, hx, hrun, Result.andThen]
  exact hK' _ _ hK

end Go.Proofs.Ytledjabhbakdeaa
