/-
  A region that draws its order, whose operations each lay a value that hangs on blocks that the region makes, and whose last operation waits for all others: shown operation by operation, whatever the order.
-/
import Derived.Test.YtgbbfmpofmeadaaKit
import Derived.Orders
namespace Go.Proofs.Ytgbbfmpofmeadaa
open Go.RowKit
set_option linter.unusedVariables false

/-- one operation: its slot; its value, by the blocks' numbers; the operations on whose blocks it hangs; the block that it lays -/
structure Mk where
  dst : Nat
  f : List Nat → Value
  dep : List Nat
  obj : Option Obj
def Mk.val (m : Mk) (g : Nat → Nat) : Value := m.f (m.dep.map g)
/-- an operation that hangs on no block -/
abbrev Mk.pure (dst : Nat) (v : Value) : Mk := ⟨dst, fun _ => v, [], none⟩

theorem Mk.hangs (m : Mk) (g g' : Nat → Nat) (h : ∀ k ∈ m.dep, g k = g' k) : m.val g = m.val g' := by
  unfold Mk.val
  rw [List.map_congr_left h]

def upd (g : Nat → Nat) (j x : Nat) : Nat → Nat := fun k => if k = j then x else g k

/-- what an operation waits for -/
def waitsOn (o : Oper) : List Nat := (o.after.toList.filter (Region.binds .any)).map (·.on)

/-- what the table must keep -/
structure MkOk (tab : List Mk) (ops : Array Oper) : Prop where
  size : ops.size = tab.length + 1
  apart : ((List.range tab.length).all fun i => (List.range tab.length).all fun j => i == j || (tab[i]?.map (·.dst)) != (tab[j]?.map (·.dst))) = true
  waits : ((List.range tab.length).all fun j => ((tab[j]?.map (·.dep)).getD []).all fun k => k == j || ((ops[j]?.map waitsOn).getD []).contains k) = true
  back : ((List.range ops.size).all fun i => ((ops[i]?.map waitsOn).getD []).all fun k => decide (k < i)) = true
  last : ((List.range tab.length).all fun j => ((ops[tab.length]?.map waitsOn).getD []).contains j) = true

section
variable {P : Program} {ops : Array Oper} {Q : Exit → Act → World → Prop} {tab : List Mk} {a0 : Act} {w0 : World}

/-- what holds while the region runs -/
structure RegI (tab : List Mk) (a0 : Act) (w0 : World) (listed : Array Bool) (g : Nat → Nat) (a : Act) (w : World) : Prop where
  val : ∀ j m, tab[j]? = some m → listed.getD j false = true → a.tmps.getD m.dst undef = m.val g
  obj : ∀ j m o, tab[j]? = some m → m.obj = some o → listed.getD j false = true → w0.heap.size ≤ g j ∧ w.heap[g j]? = some o
  dis : ∀ i j m m', tab[i]? = some m → tab[j]? = some m' → m.obj.isSome = true → m'.obj.isSome = true → listed.getD i false = true → listed.getD j false = true → i ≠ j → g i ≠ g j
  dep : ∀ j m, tab[j]? = some m → listed.getD j false = true → ∀ k ∈ m.dep, listed.getD k false = true
  fix : ∀ d, (∀ m ∈ tab, m.dst ≠ d) → a.tmps.getD d undef = a0.tmps.getD d undef
  size : a.tmps.size = a0.tmps.size
  defers : a.defers = a0.defers
  bel : Below w0.heap.size w0 w

theorem getD_set_true (l : Array Bool) (i j : Nat) (h : j < l.size) : (l.setIfInBounds j true).getD i false = if i = j then true else l.getD i false := by
  simp only [Array.getD_eq_getD_getElem?, Array.getElem?_setIfInBounds]
  by_cases e : j = i
  · subst e; simp [h]
  · rw [if_neg e, if_neg (fun e' => e e'.symm)]

theorem tmps_put (a : Act) (d t : Nat) (v : Value) (hd : d < a.tmps.size) : (a.put (some d) v).tmps.getD t undef = if t = d then v else a.tmps.getD t undef := by
  simp only [Act.put, Array.getD_eq_getD_getElem?, Array.getElem?_setIfInBounds]
  by_cases e : d = t
  · subst e; simp [hd]
  · rw [if_neg e, if_neg (fun e' => e e'.symm)]

theorem MkOk.ne (h : MkOk tab ops) {i j : Nat} {m m' : Mk} (hi : tab[i]? = some m) (hj : tab[j]? = some m') (hne : i ≠ j) : m.dst ≠ m'.dst := by
  have hil := (List.getElem?_eq_some_iff.1 hi).1
  have hjl := (List.getElem?_eq_some_iff.1 hj).1
  have h1 := List.all_eq_true.1 h.apart i (List.mem_range.2 hil)
  have h2 := List.all_eq_true.1 h1 j (List.mem_range.2 hjl)
  rw [hi, hj] at h2
  simpa [hne] using h2

/-- one operation more, whatever it is -/
theorem RegI.step (ok : MkOk tab ops) {listed : Array Bool} {g : Nat → Nat} {a : Act} {w w' : World} (h : RegI tab a0 w0 listed g a w) {j : Nat} {m : Mk} (hj : tab[j]? = some m) (hjs : j < listed.size) (hun : listed.getD j false = false)
    (hd : m.dst < a0.tmps.size) (hdep : ∀ k ∈ m.dep, k = j ∨ listed.getD k false = true) {g' : Nat → Nat} (hg : ∀ k, k ≠ j → g' k = g k)
    (hobj : ∀ o, m.obj = some o → w.heap.size ≤ g' j ∧ w'.heap[g' j]? = some o) (hb : Below w.heap.size w w') :
    RegI tab a0 w0 (listed.setIfInBounds j true) g' (a.put (some m.dst) (m.val g')) w' := by
  have hsz : m.dst < a.tmps.size := by rw [h.size]; exact hd
  have hold : ∀ i m', tab[i]? = some m' → i ≠ j → listed.getD i false = true → m'.val g' = m'.val g := fun i m' hi hij hl =>
    m'.hangs g' g fun k hk => hg k fun e => by
      have := h.dep i m' hi hl k hk
      rw [e, hun] at this; cases this
  have hlt : ∀ i m' o, tab[i]? = some m' → m'.obj = some o → listed.getD i false = true → g i < w.heap.size := fun i m' o hi ho hl => (Array.getElem?_eq_some_iff.1 (h.obj i m' o hi ho hl).2).1
  refine ⟨?_, ?_, ?_, ?_, ?_, ?_, ?_, ?_⟩
  · intro i m' hi hl
    rw [getD_set_true _ _ _ hjs] at hl
    rw [tmps_put _ _ _ _ hsz]
    by_cases e : i = j
    · subst e
      rw [hi] at hj; cases hj
      rw [if_pos rfl]
    · rw [if_neg e] at hl
      rw [if_neg (ok.ne hi hj e), h.val i m' hi hl, hold i m' hi e hl]
  · intro i m' o hi ho hl
    rw [getD_set_true _ _ _ hjs] at hl
    by_cases e : i = j
    · subst e
      rw [hi] at hj; cases hj
      obtain ⟨h1, h2⟩ := hobj o ho
      exact ⟨Nat.le_trans h.bel.size h1, h2⟩
    · rw [if_neg e] at hl
      obtain ⟨h1, h2⟩ := h.obj i m' o hi ho hl
      rw [hg i e]
      exact ⟨h1, (hb.block _ (hlt i m' o hi ho hl)).trans h2⟩
  · intro i k m' m'' hi hk h1 h2 hl hl2 hne
    rw [getD_set_true _ _ _ hjs] at hl hl2
    obtain ⟨o1, ho1⟩ := Option.isSome_iff_exists.1 h1
    obtain ⟨o2, ho2⟩ := Option.isSome_iff_exists.1 h2
    by_cases e : i = j
    · subst e
      rw [if_neg (fun e => hne e.symm)] at hl2
      rw [hi] at hj; cases hj
      have a1 := (hobj o1 ho1).1
      have a2 := hlt k m'' o2 hk ho2 hl2
      rw [hg k (fun e => hne e.symm)]
      omega
    · rw [if_neg e] at hl
      by_cases e2 : k = j
      · subst e2
        rw [hk] at hj; cases hj
        have a1 := (hobj o2 ho2).1
        have a2 := hlt i m' o1 hi ho1 hl
        rw [hg i e]
        omega
      · rw [if_neg e2] at hl2
        rw [hg i e, hg k e2]
        exact h.dis i k m' m'' hi hk h1 h2 hl hl2 hne
  · intro i m' hi hl k hk
    rw [getD_set_true _ _ _ hjs] at hl ⊢
    by_cases e2 : k = j
    · rw [if_pos e2]
    · rw [if_neg e2]
      by_cases e : i = j
      · subst e
        rw [hi] at hj; cases hj
        rcases hdep k hk with h1 | h1
        · exact absurd h1 e2
        · exact h1
      · rw [if_neg e] at hl
        exact h.dep i m' hi hl k hk
  · intro d hdd
    rw [tmps_put _ _ _ _ hsz, if_neg (fun e => hdd m (List.mem_of_getElem? hj) e.symm)]
    exact h.fix d hdd
  · simpa [Act.put] using h.size
  · exact h.defers
  · exact h.bel.trans (hb.mono h.bel.size)

/-- the frame behind the region -/
def fillT (tab : List Mk) (g : Nat → Nat) (t : Array Value) : Array Value := tab.foldl (fun t m => t.setIfInBounds m.dst (m.val g)) t
theorem fillT_size (tab : List Mk) (g : Nat → Nat) (t : Array Value) : (fillT tab g t).size = t.size := by
  unfold fillT
  induction tab generalizing t with
  | nil => rfl
  | cons m l ih => rw [List.foldl_cons, ih]; simp
theorem fillT_other (tab : List Mk) (g : Nat → Nat) (t : Array Value) (d : Nat) (h : ∀ m ∈ tab, m.dst ≠ d) : (fillT tab g t)[d]? = t[d]? := by
  unfold fillT
  induction tab generalizing t with
  | nil => rfl
  | cons m l ih =>
    rw [List.foldl_cons, ih _ (fun m' hm => h m' (by simp [hm])), Array.getElem?_setIfInBounds, if_neg (h m (by simp))]
theorem fillT_same (tab : List Mk) (g : Nat → Nat) (t : Array Value) (d : Nat) (hd : d < t.size) (v : Value) (h : ∀ m ∈ tab, m.dst = d → m.val g = v) (hx : t[d]? = some v ∨ ∃ m ∈ tab, m.dst = d) : (fillT tab g t)[d]? = some v := by
  unfold fillT
  induction tab generalizing t with
  | nil =>
    rcases hx with hx | ⟨m, hm, _⟩
    · exact hx
    · cases hm
  | cons m l ih =>
    rw [List.foldl_cons]
    refine ih _ (by simpa using hd) (fun m' hm => h m' (by simp [hm])) ?_
    by_cases e : m.dst = d
    · left; rw [Array.getElem?_setIfInBounds, if_pos e, if_pos (by rw [e]; exact hd), h m (by simp) e]
    · rcases hx with hx | ⟨m', hm, hd'⟩
      · left; rw [Array.getElem?_setIfInBounds, if_neg e]; exact hx
      · rcases List.mem_cons.1 hm with rfl | hm
        · exact absurd hd' e
        · right; exact ⟨m', hm, hd'⟩
theorem RegI.frame (ok : MkOk tab ops) {listed : Array Bool} {g : Nat → Nat} {a : Act} {w : World} (h : RegI tab a0 w0 listed g a w) (hl : ∀ j, j < tab.length → listed.getD j false = true) (hds : (tab.all fun m => decide (m.dst < a0.tmps.size)) = true) : a = ⟨fillT tab g a0.tmps, a0.defers⟩ := by
  obtain ⟨t, ds⟩ := a
  have h1 := h.size
  have h2 := h.defers
  simp only at h1 h2
  subst h2
  congr 1
  apply Array.ext_getElem?
  intro d
  by_cases hd : d < t.size
  · by_cases hx : ∃ m ∈ tab, m.dst = d
    · obtain ⟨m, hm, rfl⟩ := hx
      obtain ⟨j, hj⟩ := List.getElem?_of_mem hm
      have hv := h.val j m hj (hl j (List.getElem?_eq_some_iff.1 hj).1)
      rw [fillT_same tab g a0.tmps m.dst (by omega) (m.val g) ?_ (.inr ⟨m, hm, rfl⟩)]
      · simp only [Array.getD_eq_getD_getElem?] at hv
        rw [Array.getElem?_eq_getElem hd] at hv ⊢
        simpa using hv
      · intro m' hm' he
        obtain ⟨i, hi⟩ := List.getElem?_of_mem hm'
        by_cases e : i = j
        · subst e; rw [hi] at hj; cases hj; rfl
        · exact absurd he (ok.ne hi hj e)
    · have hx2 : ∀ m ∈ tab, m.dst ≠ d := fun m hm e => hx ⟨m, hm, e⟩
      rw [fillT_other _ _ _ _ hx2]
      have hv := h.fix d hx2
      simp only [Array.getD_eq_getD_getElem?] at hv
      rw [Array.getElem?_eq_getElem hd, Array.getElem?_eq_getElem (by omega)] at hv ⊢
      simpa using hv
  · rw [Array.getElem?_eq_none (by omega), Array.getElem?_eq_none (by rw [fillT_size]; omega)]

/-- an operation that only reckons -/
theorem wpOp_yields {i : Nat} {o : Oper} {v : Value} {a : Act} {w : World} {K : Act → World → Prop} (hi : ops[i]? = some o) (hg : o.guard = none) (hv : (execOp a.eval o).run P w = .ok (.value v) w) (h : K (a.put o.dst v) w) : wpOp P ops Q i K a w := by
  unfold wpOp
  have hw : Region.wanted o (yielded ops a.tmps) = true := by simp [Region.wanted, hg]
  simp only [hi, hw, if_true, Oper.wp, hv, Oper.upon]
  exact .inl h
/-- one that is run -/
theorem wpOp_run {i : Nat} {o : Oper} {a : Act} {w : World} {K : Act → World → Prop} (hi : ops[i]? = some o) (hg : o.guard = none) (h : o.wp P a w K Q) : wpOp P ops Q i K a w := by
  unfold wpOp
  have hw : Region.wanted o (yielded ops a.tmps) = true := by simp [Region.wanted, hg]
  simp only [hi, hw, if_true]
  exact .inl h

/-- **The region.** -/
theorem region_made {id : Nat} (hm : P.follows .mixedOrders = true) (ok : MkOk tab ops)
    (hds : (tab.all fun m => decide (m.dst < a0.tmps.size)) = true)
    (hstep : ∀ (j : Nat) (o : Oper) (m : Mk) (listed : Array Bool) (g : Nat → Nat) (a : Act) (w : World) (K : Act → World → Prop), ops[j]? = some o → tab[j]? = some m → RegI tab a0 w0 listed g a w → (∀ k ∈ waitsOn o, listed.getD k false = true) →
      (∀ g' w', (∀ k, k ≠ j → g' k = g k) → (∀ ob, m.obj = some ob → w.heap.size ≤ g' j ∧ w'.heap[g' j]? = some ob) → Below w.heap.size w w' → K (a.put (some m.dst) (m.val g')) w') → wpOp P ops Q j K a w)
    (hend : ∀ o g w listed, ops[tab.length]? = some o → (∀ j, j < tab.length → listed.getD j false = true) → RegI tab a0 w0 listed g ⟨fillT tab g a0.tmps, a0.defers⟩ w → wpOp P ops Q tab.length (fun a' w' => Q .normal a' w') ⟨fillT tab g a0.tmps, a0.defers⟩ w) :
    (Code.region id ops true).wp P Q a0 w0 := by
  refine wp_region_any hm ?_
  have main : ∀ (fuel : Nat) (listed : Array Bool) (g : Nat → Nat) (a : Act) (w : World), listed.size = tab.length + 1 → listed.getD tab.length false = false → listed.toList.countP (fun b => !b) = fuel → RegI tab a0 w0 listed g a w → wpAny P .any ops Q fuel listed a w := by
    intro fuel
    induction fuel with
    | zero =>
      intro listed g a w hs hl hc _
      exfalso
      rw [List.countP_eq_zero] at hc
      have hin : listed[tab.length]'(by omega) ∈ listed.toList := Array.getElem_mem_toList _
      have := hc _ hin
      simp [Array.getD, hs] at hl this
      rw [hl] at this; cases this
    | succ fuel ih =>
      intro listed g a w hs hl hc h
      have hready : ∀ i, i ∈ Region.ready .any ops listed → listed.getD i false = false ∧ i < listed.size ∧ ∃ o, ops[i]? = some o ∧ ∀ k ∈ waitsOn o, listed.getD k false = true := by
        intro i hi
        obtain ⟨hun, o, ho, hall⟩ := mem_ready.1 hi
        have hil := (Array.getElem?_eq_some_iff.1 ho).1
        have hsz : i < listed.size := by rw [hs, ← ok.size]; exact hil
        refine ⟨?_, hsz, o, ho, fun k hk => ?_⟩
        · simp [Array.getD, hsz] at hun ⊢; exact hun
        · obtain ⟨e, he, rfl⟩ := List.mem_map.1 hk
          obtain ⟨h1, h2⟩ := List.mem_filter.1 he
          exact hall e (by simpa using h1) h2
      refine ⟨fun h0 => ?_, fun i hi => ?_⟩
      · exfalso
        -- the least one that has not come up may come up
        have hex : ∃ i, i < tab.length + 1 ∧ listed.getD i false = false := ⟨tab.length, by omega, hl⟩
        have hleast : ∃ i, i < tab.length + 1 ∧ listed.getD i false = false ∧ ∀ k, k < i → listed.getD k false = true := by
          obtain ⟨i, hi1, hi2⟩ := hex
          induction i using Nat.strongRecOn with
          | _ i ihi =>
            by_cases hall : ∀ k, k < i → listed.getD k false = true
            · exact ⟨i, hi1, hi2, hall⟩
            · obtain ⟨k, hk⟩ := Classical.not_forall.1 hall
              obtain ⟨hk1, hk2⟩ := Classical.not_imp.1 hk
              exact ihi k hk1 (by omega) (by simpa using hk2)
        obtain ⟨i, hi1, hi2, hi3⟩ := hleast
        have hio : ops[i]? = some (ops[i]'(by rw [ok.size]; exact hi1)) := Array.getElem?_eq_getElem _
        have hmem : i ∈ Region.ready .any ops listed := by
          refine mem_ready.2 ⟨?_, _, hio, fun e he hb => ?_⟩
          · simp [Array.getD, show i < listed.size by omega] at hi2 ⊢; exact hi2
          · have h1 := List.all_eq_true.1 ok.back i (List.mem_range.2 (by rw [ok.size]; exact hi1))
            rw [hio] at h1
            simp only [Option.map_some, Option.getD_some] at h1
            have h2 := List.all_eq_true.1 h1 e.on (List.mem_map.2 ⟨e, List.mem_filter.2 ⟨by simpa using he, hb⟩, rfl⟩)
            exact hi3 _ (of_decide_eq_true h2)
        rw [h0] at hmem; cases hmem
      · obtain ⟨hun, hsz, o, ho, hall⟩ := hready i hi
        have hcount : (listed.setIfInBounds i true).toList.countP (fun b => !b) = fuel := by
          have hget : listed.toList[i]'(by simpa using hsz) = false := by simp [Array.getD, hsz] at hun; simpa using hun
          rw [Array.toList_setIfInBounds, List.countP_set (h := by simpa using hsz), hc, hget]
          simp
        by_cases hin : i < tab.length
        · have him : tab[i]? = some (tab[i]'hin) := List.getElem?_eq_getElem hin
          have hdm : (tab[i]'hin).dst < a0.tmps.size := of_decide_eq_true (List.all_eq_true.1 hds _ (List.getElem_mem hin))
          have hdep : ∀ k ∈ (tab[i]'hin).dep, k = i ∨ listed.getD k false = true := by
            intro k hk
            have h1 := List.all_eq_true.1 ok.waits i (List.mem_range.2 hin)
            rw [him, ho] at h1
            have h2 := List.all_eq_true.1 h1 k hk
            simp only [Bool.or_eq_true, beq_iff_eq, Option.map_some, Option.getD_some, List.contains_iff_mem] at h2
            exact h2.imp (fun e => e) (hall k)
          refine wpOp_mono (fun a' w' ⟨g', h'⟩ => ih _ g' a' w' (by simpa using hs) ?_ hcount h') (hstep i o _ listed g a w (fun a' w' => ∃ g', RegI tab a0 w0 (listed.setIfInBounds i true) g' a' w') ho him h hall (fun g' w' h1 h2 h3 => ⟨g', h.step ok him hsz hun hdm hdep h1 h2 h3⟩))
          rw [getD_set_true _ _ _ hsz, if_neg (by omega)]; exact hl
        · obtain rfl : i = tab.length := by omega
          have hl2 : ∀ j, j < tab.length → listed.getD j false = true := by
            intro j hj
            have h1 := List.all_eq_true.1 ok.last j (List.mem_range.2 hj)
            rw [ho] at h1
            exact hall j (by simpa using h1)
          obtain rfl := h.frame ok hl2 hds
          refine wpOp_mono (fun a' w' h' => ?_) (hend o g w listed ho hl2 h)
          have hr : Region.ready .any ops (listed.setIfInBounds tab.length true) = [] := by
            apply List.eq_nil_iff_forall_not_mem.2
            intro k hk
            obtain ⟨hun2, o2, ho2, _⟩ := mem_ready.1 hk
            have hkl := (Array.getElem?_eq_some_iff.1 ho2).1
            have h3 : (listed.setIfInBounds tab.length true).getD k false = true := by
              rw [getD_set_true _ _ _ hsz]
              split
              · rfl
              · exact hl2 k (by rw [ok.size] at hkl; omega)
            have hks : k < (listed.setIfInBounds tab.length true).size := by rw [Array.size_setIfInBounds, hs, ← ok.size]; exact hkl
            simp only [Array.getD, hks, dif_pos] at hun2 h3
            rw [h3] at hun2; cases hun2
          cases fuel with
          | zero => exact ⟨hr, h'⟩
          | succ f => exact ⟨fun _ => h', by rw [hr]; simp⟩
  refine main ops.size _ (fun _ => 0) a0 _ (by simp [ok.size]) (by simp [Array.getD, ok.size]) (by rw [Array.toList_replicate, List.countP_replicate]; simp) ?_
  have hno : ∀ j, (Array.replicate ops.size false).getD j false = false := fun j => by simp [Array.getD]
  refine ⟨?_, ?_, ?_, ?_, fun _ _ => rfl, rfl, rfl, (Below.refl _ _).drew⟩
  · intro j m _ h; rw [hno] at h; cases h
  · intro j m o _ _ h; rw [hno] at h; cases h
  · intro i j m m' _ _ _ _ h; rw [hno] at h; cases h
  · intro j m _ h; rw [hno] at h; cases h

end

end Go.Proofs.Ytgbbfmpofmeadaa
