/-
  The code's store: spots of one request deleted (maps.DeleteFunc with its closure).
-/
import Derived.Test.YtolmejaedldeeaaLine12
namespace Go.Proofs.Ytolmejaedldeeaa
open Go.RowKit Go.Maps
set_option linter.unusedVariables false

/-- every key is a spot's -/
theorem int_lits12 {m : Nat} {a : Value} {ls : List Lit} (h : Try.prog.keyLits (m + 1) 3 [a] = some ls) : ∃ n, a = .int .i64 n ∧ w64 n ∧ ls = [.int .i64 n] := by
  unfold Program.keyLits at h
  simp only [Try.underlying3] at h
  cases a <;> simp at h
  rename_i q n
  obtain ⟨⟨rfl, hw⟩, rfl⟩ := h
  exact ⟨n, rfl, hw, rfl⟩
set_option maxRecDepth 100000 in
theorem spot12_inv {key : Value} {kl : Lit} (h : keyOf Try.prog 33 key = some kl) : ∃ r l p, key = spotV r l p ∧ w64 r ∧ w64 l ∧ w64 p ∧ kl = keyT r l p := by
  unfold keyOf at h
  simp only [Try.underlying33] at h
  split at h
  rotate_left
  · cases h
  rename_i hc
  simp only [Bool.and_eq_true] at hc
  have hf := hc.2
  have h3 : Try.prog.cellsOf 33 = 3 := by kernel_rfl
  have h1 : Try.prog.cellsOf 3 = 1 := by kernel_rfl
  have hcs : ∃ a b c, key = .agg #[a, b, c] := by
    cases key with
    | agg cs =>
      simp only [Value.formed, Try.underlying33, h3] at hf
      obtain ⟨cs⟩ := cs
      have h5 : cs.length = 3 := by simpa using hf
      rcases cs with _ | ⟨a, _ | ⟨b, _ | ⟨c, _ | ⟨d, ds⟩⟩⟩⟩ <;> simp at h5
      exact ⟨a, b, c, rfl⟩
    | _ => simp [Value.formed, Try.underlying33] at hf
  obtain ⟨a, b, c, rfl⟩ := hcs
  obtain ⟨m, hm⟩ := types_some12
  rw [hm] at h
  unfold Program.keyLits at h
  simp only [Try.underlying33] at h
  rw [if_pos ⟨by kernel_rfl, by kernel_rfl⟩] at h
  simp only [List.mapM_cons, List.mapM_nil, Value.cells, h1, Option.map_eq_some_iff, Option.bind_eq_bind, Option.bind_eq_some_iff, Option.pure_def, Option.some.injEq] at h
  obtain ⟨_, ⟨_, ⟨x1, y1, _, ⟨x2, y2, _, ⟨x3, y3, _, rfl, rfl⟩, rfl⟩, rfl⟩, rfl⟩, rfl⟩ := h
  obtain ⟨n1, rfl, z1, rfl⟩ := int_lits12 (m := m) (a := a) y1
  obtain ⟨n2, rfl, z2, rfl⟩ := int_lits12 (m := m) (a := b) y2
  obtain ⟨n3, rfl, z3, rfl⟩ := int_lits12 (m := m) (a := c) y3
  exact ⟨n1, n2, n3, rfl, z1, z2, z3, rfl⟩

/-- a set of one number -/
noncomputable def oneF (q : Int) : Lit → Option Value := upF (fun _ => none) (.int .i64 q) (.agg #[])
theorem oneF_has (q x : Int) : (oneF q (.int .i64 x)).isSome = decide (x = q) ∧ (oneF q (.int .i64 x)).getD (.agg #[]) = .agg #[] := by
  unfold oneF upF
  by_cases h : x = q
  · subst h; simp
  · have : ¬ (Lit.int .i64 x = Lit.int .i64 q) := fun e => h (by cases e; rfl)
    simp [this, h]
theorem int_law12 : Keyed Try.prog 3 := int_keyed Try.underlying3
theorem zero_unit12 (w : World) : (zeroValue 67).run Try.prog w = .ok (.agg #[]) w := by kernel_rfl

set_option maxRecDepth 100000 in
theorem gone12 {W : World} {cb gb : Nat} {q r l p : Int} (k v : Rw) (hb : Box W cb 66 #[.map (some gb)]) (hG : MapAt W 3 gb 1 (oneF q)) (hr : w64 r) :
    Calls Try.prog 26 #[spotV r l p, kvR k v, .pointer (some ⟨cb, 0, none⟩)] W fun e w' => e = .returned (.bool (decide (r = q))) ∧ Below W.heap.size W w' := by
  have hk : keyOf Try.prog 3 (.int .i64 r) = some (.int .i64 r) := keyOf_int_mk Try.underlying3 hr
  have hh := oneF_has q r
  have c0 : ∀ o o', ((W.alloc o).alloc o').cell? ⟨cb, 0, none⟩ = some (.map (some gb)) := fun o o' => ((hb.alloc o).alloc o').cell 0
  have hlk := fun o o' => ((hG.alloc o).alloc o').look int_law12 Try.underlying66 (zero_unit12 _) hk hh.2 hh.1
  clear hb hG hh hk hr
  unfold spotV kvR
  go_enter Try.func26, Try.ntmps26
  go_wp2
  go_ret
  exact ⟨rfl, (((Below.refl _ _).alloc (Nat.le_refl _) _).alloc (by simp) _).alloc (by simp; omega) _⟩

/-! ### what is left of a list while some are dropped -/
def restE (q : Int) (left : Lit → Bool) (L : List Ent) : List Ent := L.filter fun x => left (keyT x.r x.l x.p) || !(x.r == q)
theorem restE_mem {q : Int} {left : Lit → Bool} {L : List Ent} {x : Ent} : x ∈ restE q left L ↔ x ∈ L ∧ (left (keyT x.r x.l x.p) = true ∨ x.r ≠ q) := by simp [restE]
theorem restE_has {q : Int} {left : Lit → Bool} {L : List Ent} {r l p : Int} : hasE (restE q left L) r l p = (hasE L r l p && (left (keyT r l p) || !(r == q))) := by
  rw [Bool.eq_iff_iff]
  simp only [hasE_iff, Bool.and_eq_true, restE_mem]
  constructor
  · rintro ⟨x, ⟨hx, h⟩, rfl, rfl, rfl⟩
    exact ⟨⟨x, hx, rfl, rfl, rfl⟩, by simpa using h⟩
  · rintro ⟨⟨x, hx, rfl, rfl, rfl⟩, h⟩
    exact ⟨x, ⟨hx, by simpa using h⟩, rfl, rfl, rfl⟩
theorem restE_start {q : Int} {left : Lit → Bool} {L : List Ent} (h : ∀ x ∈ L, left (keyT x.r x.l x.p) = true) : restE q left L = L := by
  unfold restE
  rw [List.filter_eq_self]
  intro x hx
  rw [h x hx]; rfl
theorem restE_end {q : Int} {left : Lit → Bool} {L : List Ent} (h : ∀ kl, left kl = false) : restE q left L = L.filter fun x => !(x.r == q) := by
  unfold restE
  exact List.filter_congr fun x _ => by rw [h]; rfl
theorem restE_keep {q r l p : Int} {left : Lit → Bool} {L : List Ent} (hL : GoodE L) (hw : w64 r ∧ w64 l ∧ w64 p) (hr : r ≠ q) : restE q (fun z => left z && !z.sameKey (keyT r l p)) L = restE q left L := by
  unfold restE
  refine List.filter_congr fun x hx => ?_
  by_cases h : keyT x.r x.l x.p = keyT r l p
  · obtain ⟨e, _⟩ := keyT_inj (hL.bd x hx).2 hw h
    have : (x.r == q) = false := by rw [e]; simpa using hr
    rw [this]; simp
  · dsimp only
    rw [sameKey_ne h]; simp
theorem restE_drop {q l p : Int} {left : Lit → Bool} : ∀ {L : List Ent}, GoodE L → w64 q ∧ w64 l ∧ w64 p → hasE L q l p = true → left (keyT q l p) = true → (restE q (fun z => left z && !z.sameKey (keyT q l p)) L).length + 1 = (restE q left L).length := by
  intro L hL hw hh hl
  have hap := hL.apart
  have hbd := hL.bd
  clear hL
  have same : ∀ x : Ent, x.at_ q l p = false → w64 x.r ∧ w64 x.l ∧ w64 x.p → ((left (keyT x.r x.l x.p) && !(keyT x.r x.l x.p).sameKey (keyT q l p)) || !(x.r == q)) = (left (keyT x.r x.l x.p) || !(x.r == q)) := fun x hx hwx => by
    rw [sameKey_ne (fun e => ?_)]
    · simp
    · rw [← Bool.not_eq_true, at_iff] at hx
      exact hx (keyT_inj hwx hw e)
  induction L with
  | nil => simp [hasE] at hh
  | cons a L ih =>
    obtain ⟨h1, h2⟩ := List.pairwise_cons.1 hap
    by_cases ha : a.at_ q l p = true
    · obtain ⟨e1, e2, e3⟩ := at_iff.1 ha
      have hk : (keyT q l p).sameKey (keyT q l p) = true := WideAt.sameKey_self (keyT_isKey _ _ _)
      have hrest : restE q (fun z => left z && !z.sameKey (keyT q l p)) L = restE q left L := by
        unfold restE
        refine List.filter_congr fun x hx => same x ?_ (hbd x (by simp [hx])).2
        rw [← Bool.not_eq_true, at_iff]
        intro e
        exact h1 x hx (by rw [e1, e2, e3]; exact e)
      have d1 : restE q (fun z => left z && !z.sameKey (keyT q l p)) (a :: L) = restE q (fun z => left z && !z.sameKey (keyT q l p)) L := by
        unfold restE; rw [List.filter_cons_of_neg]; dsimp only; rw [e1, e2, e3, hk]; simp
      have d2 : restE q left (a :: L) = a :: restE q left L := by
        unfold restE; rw [List.filter_cons_of_pos]; rw [e1, e2, e3, hl]; rfl
      rw [d1, d2, hrest]; rfl
    · have ha' : a.at_ q l p = false := by simpa using ha
      have hh' : hasE L q l p = true := by
        unfold hasE at hh ⊢
        rw [List.any_cons, ha'] at hh
        simpa using hh
      have ihh := ih hh' h2 (fun x hx => hbd x (by simp [hx]))
      have hs := same a ha' (hbd a (by simp)).2
      unfold restE at ihh ⊢
      dsimp only at ihh ⊢
      rw [List.filter_cons, List.filter_cons, hs]
      split
      · simp only [List.length_cons]; omega
      · exact ihh

/-- a range over the store's map under way, while q is dropped -/
structure DelI (w0 : World) (sb mb cb gb rb room : Nat) (q : Int) (L : List Ent) (n : Nat) (F : Lit → Option Value) (left : Lit → Bool) (cnt : Nat) (wr : World) : Prop where
  ran : RangeAt wr 33 mb rb n F left cnt
  len : n = (restE q left L).length
  fit : FitE wr (restE q left L) F
  gone : MapAt wr 3 gb 1 (oneF q)
  box : Box wr cb 66 #[.map (some gb)]
  st : Box wr sb 60 #[.int .i64 room, .map (some mb)]
  grown : w0.grownBy wr (some mb)
  ne : gb ≠ mb ∧ w0.heap.size ≤ rb

theorem rw_iter {w w' : World} {q : Rw} {kd : IntKind} {b r n cnt : Nat} {k : TypeId} {F : Lit → Option Value} {left : Lit → Bool} (h : q.In kd w) (hr : RangeAt w k b r n F left cnt) (hg : w.grownBy w' (some r)) : q.In kd w' := by
  refine ⟨⟨h.1.1, h.1.2.1, h.1.2.2.1, fun hn => ?_⟩, h.2⟩
  obtain ⟨g, off, ha, hc⟩ := h.1.2.2.2 hn
  refine ⟨g, off, ha, fun i hi => ?_⟩
  have h0 := hc i hi
  have hne : some g ≠ some r := by
    intro e
    cases e
    obtain ⟨m, D, ⟨es, clock, since, seen, c0, a1, a2, a3, a4, a5, a6⟩, hs⟩ := hr
    simp [World.cell?, a5] at h0
  rw [World.cell?_of_block (w := w) (a := ⟨g, off + i, none⟩) (hg.block g (World.block_lt_of_cell? _ _ h0) hne)]
  exact h0
theorem box_iter {w w' : World} {g T : Nat} {cs : Array Value} {b r n cnt : Nat} {k : TypeId} {F : Lit → Option Value} {left : Lit → Bool} (h : Box w g T cs) (hr : RangeAt w k b r n F left cnt) (hg : w.grownBy w' (some r)) : Box w' g T cs :=
  h.kept hg (fun e => by
    cases e
    obtain ⟨m, D, ⟨es, clock, since, seen, c0, a1, a2, a3, a4, a5, a6⟩, hs⟩ := hr
    unfold Box at h
    rw [a5] at h
    cases h)
theorem map_iter {w w' : World} {k2 : TypeId} {b2 n2 : Nat} {F2 : Lit → Option Value} {b r n cnt : Nat} {k : TypeId} {F : Lit → Option Value} {left : Lit → Bool} (h : MapAt w k2 b2 n2 F2) (hr : RangeAt w k b r n F left cnt) (hg : w.grownBy w' (some r)) : MapAt w' k2 b2 n2 F2 :=
  h.kept hg (fun e => by
    cases e
    obtain ⟨D, ⟨es, clock, hh, _⟩, _⟩ := h
    obtain ⟨m, D, ⟨es, clock, since, seen, c0, a1, a2, a3, a4, a5, a6⟩, hs⟩ := hr
    rw [a5] at hh
    cases hh)
section
variable {w0 : World} {sb mb cb gb rb room n cnt cnt' : Nat} {q : Int} {L : List Ent} {F : Lit → Option Value} {left : Lit → Bool} {wr w' : World} {r l p : Int}
/-- behind a step, while nothing is dropped yet -/
theorem DelI.stepped (h : DelI w0 sb mb cb gb rb room q L n F left cnt wr) (hr : RangeAt w' 33 mb rb n F (fun z => left z && !z.sameKey (keyT r l p)) cnt') (hg : wr.grownBy w' (some rb)) :
    FitE w' (restE q left L) F ∧ MapAt w' 3 gb 1 (oneF q) ∧ Box w' cb 66 #[.map (some gb)] ∧ Box w' sb 60 #[.int .i64 room, .map (some mb)] ∧ w0.grownBy w' (some mb) :=
  ⟨⟨h.fit.1, fun x hx => let ⟨k, v, e, r1, r2, r3⟩ := h.fit.2 x hx; ⟨k, v, e, rw_iter r1 h.ran hg, rw_iter r2 h.ran hg, r3⟩⟩, map_iter h.gone h.ran hg, box_iter h.box h.ran hg, box_iter h.st h.ran hg,
    h.grown.andThen hg (fun j hj => by cases hj; exact .inl h.ne.2)⟩
theorem DelI.keep (h : DelI w0 sb mb cb gb rb room q L n F left cnt wr) (hL : GoodE L) (hw : w64 r ∧ w64 l ∧ w64 p) (hq : r ≠ q) (hr : RangeAt w' 33 mb rb n F (fun z => left z && !z.sameKey (keyT r l p)) cnt') (hg : wr.grownBy w' (some rb)) :
    DelI w0 sb mb cb gb rb room q L n F (fun z => left z && !z.sameKey (keyT r l p)) cnt' w' := by
  obtain ⟨h1, h2, h3, h4, h5⟩ := h.stepped hr hg
  exact ⟨hr, by rw [restE_keep hL hw hq]; exact h.len, by rw [restE_keep hL hw hq]; exact h1, h2, h3, h4, h5, h.ne⟩
theorem DelI.drop {w'' : World} {cnt'' : Nat} (h : DelI w0 sb mb cb gb rb room q L n F left cnt wr) (hL : GoodE L) (hw : w64 q ∧ w64 l ∧ w64 p) (hh : hasE L q l p = true) (hl : left (keyT q l p) = true) (hr : RangeAt w' 33 mb rb n F (fun z => left z && !z.sameKey (keyT q l p)) cnt') (hg : wr.grownBy w' (some rb))
    (hr2 : RangeAt w'' 33 mb rb (n - 1) (delF F (keyT q l p)) (fun z => left z && !z.sameKey (keyT q l p)) cnt'') (ht : w'.mapTurned w'' mb) :
    DelI w0 sb mb cb gb rb room q L (n - 1) (delF F (keyT q l p)) (fun z => left z && !z.sameKey (keyT q l p)) cnt'' w'' := by
  obtain ⟨h1, h2, h3, h4, h5⟩ := h.stepped hr hg
  have hg2 := ht.grown
  have hM := hr.owns
  have hlen := restE_drop (left := left) hL hw hh hl
  have hkk : (keyT q l p).sameKey (keyT q l p) = true := WideAt.sameKey_self (keyT_isKey _ _ _)
  refine ⟨hr2, by have := h.len; omega, ⟨fun r' l' p' a1 a2 a3 => ?_, fun x hx => ?_⟩, h2.kept hg2 (fun e => h.ne.1 (by cases e; rfl)), h3.kept hg2 (fun e => hM.cells (by rw [← Option.some.inj e]; exact h3)), h4.kept hg2 (fun e => hM.cells (by rw [← Option.some.inj e]; exact h4)), h5.trans hg2, h.ne⟩
  · by_cases e : keyT r' l' p' = keyT q l p
    · obtain ⟨rfl, rfl, rfl⟩ := keyT_inj ⟨a1, a2, a3⟩ hw e
      rw [delF_same, restE_has, hkk]; simp
    · rw [delF_other e, h1.1 r' l' p' a1 a2 a3, restE_has, restE_has, sameKey_ne e]; simp
  · obtain ⟨hx1, hx2⟩ := restE_mem.1 hx
    have hxk : keyT x.r x.l x.p ≠ keyT q l p := by
      intro e
      obtain ⟨e1, _⟩ := keyT_inj (hL.bd x hx1).2 hw e
      rw [e, hkk] at hx2
      rcases hx2 with hx2 | hx2
      · simp at hx2
      · exact hx2 e1
    obtain ⟨k, v, e, r1, r2, r3⟩ := h1.2 x (restE_mem.2 ⟨hx1, hx2.imp (fun h => by simp only [Bool.and_eq_true] at h; exact h.1) id⟩)
    exact ⟨k, v, by rw [delF_other hxk, e], rw_map r1 hM hg2, rw_map r2 hM hg2, r3⟩
end

set_option maxHeartbeats 1600000 in
set_option maxRecDepth 100000 in
theorem del12 {w : World} {sb mb cb gb room : Nat} {q : Int} {L : List Ent} (hS : StoreAt w sb mb room L) (hq : w64 q) (hG : MapAt w 3 gb 1 (oneF q)) (hb : Box w cb 66 #[.map (some gb)]) (hne : gb ≠ mb) :
    Calls Try.prog 25 #[.map (some mb), .func (.func 26) #[] #[.pointer (some ⟨cb, 0, none⟩)]] w fun e w' =>
      e = .returned (.tuple #[]) ∧ StoreAt w' sb mb room (L.filter fun x => !(x.r == q)) ∧ w.grownBy w' (some mb) := by
  obtain ⟨F0, hM, hF⟩ := hS.map
  have hM2 : MapAt w 33 mb L.length F0 := hM
  have HI : ∀ w', RangeAt w' 33 mb w.heap.size L.length F0 (fun kl => (F0 kl).isSome) L.length → w.grownBy w' none → Hid (DelI w sb mb cb gb w.heap.size room q L L.length F0 (fun kl => (F0 kl).isSome) L.length w') := fun w' h1 h2 => Lib.hid (by
    have hall : ∀ x ∈ L, (fun kl => (F0 kl).isSome) (keyT x.r x.l x.p) = true := fun x hx => by
      obtain ⟨k, v, e, _⟩ := hF.2 x hx
      show (F0 _).isSome = true
      rw [e]; rfl
    have hbw : Below w.heap.size w w' := ⟨h2.os, h2.tape, h2.output, h2.size, fun i hi => h2.block i hi (by simp)⟩
    exact ⟨h1, by rw [restE_start hall], by rw [restE_start hall]; exact hF.bel hbw, hG.bel hbw hG.lt, hb.bel hbw, hS.box.bel hbw, h2.but _, hne, Nat.le_refl _⟩)
  have HM := Lib.hid hM2
  have HS := Lib.hid hS
  have HQ := Lib.hid hq
  clear hS hq hG hb hne hM hF hM2
  go_enter Try.func25, Try.ntmps25
  go_wp2_with (refine wpList_rangeF rfl _ _ rfl 33 63 spot12_law Try.underlying58 mb L.length F0 rfl HM.out ?_)
  intro wa hra hga hsa
  have HI0 := HI wa hra hga
  clear HI hra hga hsa HM
  go_wp2_with fail
  go_loopw [4, 5] (fun p4 p5 wr => ∃ n F left cnt, Hid (DelI w sb mb cb gb w.heap.size room q L n F left cnt wr)) (fun _ _ wr => wr.rangeLeft mb w.heap.size)
  case atStart => exact ⟨_, _, _, _, HI0⟩
  case round =>
    obtain ⟨n, F, left, cnt, HD⟩ := hrel
    clear HI0
    have hran := HD.out.ran
    go_upto_region 2 with (refine wpList_nextF (mkK := fun x : Int × Int × Int => spotV x.1 x.2.1 x.2.2) rfl _ rfl 33 spot12_law ?_ mb w.heap.size n F left cnt rfl hran ?_ ?_)
    · intro key kl hk
      obtain ⟨r, l, p, rfl, _⟩ := spot12_inv hk
      exact ⟨(r, l, p), rfl⟩
    · intro h0 hl
      have hfin : Hid (StoreAt wr sb mb room (L.filter fun x => !(x.r == q)) ∧ w.grownBy wr (some mb)) := Lib.hid (by
        have he := restE_end (q := q) (L := L) hl
        have hD := HD.out
        refine ⟨⟨hD.st, HS.out.good.filter (fun r => !(r == q)), ⟨Nat.le_trans (List.length_filter_le _ _) HS.out.room.1, HS.out.room.2⟩, F, ?_, ?_⟩, hD.grown⟩
        · have := hD.ran.owns
          rw [hD.len, he] at this
          exact this
        · rw [← he]; exact hD.fit)
      clear hran hl h0
      go_wp2
      exact bodyPost_end (v := .tuple #[]) (results_none rfl _ _ _) rfl ⟨rfl, hfin.out⟩
    · intro r l p v kl w1 cnt1 hk hlk hv hr1 hlt1 hg1 hs1 hen
      obtain ⟨r', l', p', e, wr', wl', wp', rfl⟩ := spot12_inv hk
      obtain ⟨rfl, rfl, rfl⟩ : r = r' ∧ l = l' ∧ p = p' := by simpa [spotV] using e
      have hsome := hran.has spot12_law hlk
      obtain ⟨kk, vv, hF, hvv, hin⟩ : ∃ k v : Rw, F (keyT r l p) = some (kvR k v) ∧ hasE L r l p = true ∧ ∃ x ∈ restE q left L, x.r = r ∧ x.l = l ∧ x.p = p := by
        have h1 := HD.out.fit.1 r l p wr' wl' wp'
        rw [hsome] at h1
        obtain ⟨x, hx, rfl, rfl, rfl⟩ := hasE_iff.1 h1.symm
        obtain ⟨k, v, e, _⟩ := HD.out.fit.2 x hx
        exact ⟨k, v, e, hasE_iff.2 ⟨x, (restE_mem.1 hx).1, rfl, rfl, rfl⟩, x, hx, rfl, rfl, rfl⟩
      obtain rfl := hv _ hF
      have HR1 := Lib.hid hr1
      have HL1 := Lib.hid hlk
      have HW := Lib.hid (And.intro wr' (And.intro wl' wp'))
      have HF := Lib.hid hF
      have HV := Lib.hid hvv
      have HG1 := Lib.hid hg1
      have HLT := Lib.hid hlt1
      clear hv hr1 hlk wr' wl' wp' hF hsome hin e hk hran hvv hlt1 hs1 hg1
      unfold spotV kvR at hen
      go_upto_region 3 with (fail)
      generalize hw2 : World.alloc _ _ = w2
      have hg2 : wr.grownBy w2 (some w.heap.size) := by rw [← hw2]; exact (HG1.out.trans (World.grownBy_alloc _ _ _)).trans (World.grownBy_alloc _ _ _)
      have hb2 : Below w1.heap.size w1 w2 := by rw [← hw2]; exact ((Below.refl _ _).alloc (Nat.le_refl _) _).alloc (by simp) _
      have X1 : Box w2 w1.heap.size 33 #[.int .i64 r, .int .i64 l, .int .i64 p] := by rw [← hw2]; exact (box_new _ _ _).alloc _
      have X2 : Box w2 (w1.heap.size + 1) 63 #[.slice kk.a kk.n kk.cap, .slice vv.a vv.n vv.cap] := by rw [← hw2]; exact box_at (by simp) _ _
      have HR2 := Lib.hid (HR1.out.bel hb2)
      have HS2 := Lib.hid (HD.out.stepped HR2.out hg2)
      have HG2 := Lib.hid hg2
      have z0 : w2.cell? ⟨w1.heap.size, 0, none⟩ = some (.int .i64 r) := X1.cell 0
      have z1 : w2.cell? ⟨w1.heap.size, 1, none⟩ = some (.int .i64 l) := X1.cell 1
      have z2 : w2.cell? ⟨w1.heap.size, 2, none⟩ = some (.int .i64 p) := X1.cell 2
      have k0 : w2.cell? ⟨w1.heap.size + 1, 0, none⟩ = some (.slice kk.a kk.n kk.cap) := X2.cell 0
      have k1 : w2.cell? ⟨w1.heap.size + 1, 1, none⟩ = some (.slice vv.a vv.n vv.cap) := X2.cell 1
      have cC := gone12 (r := r) (l := l) (p := p) kk vv HS2.out.2.2.1 HS2.out.2.1 HW.out.1
      have HX1 := Lib.hid X1
      unfold spotV kvR at cC
      clear hw2 hg2 hb2 X1 X2 hen HR1 HG1
      by_cases hrq : r = q
      · have hd : decide (r = q) = true := by simpa using hrq
        rw [hd] at cC
        have HQ2 := Lib.hid hrq
        clear hrq hd
        go_wp2_with (refine cC.mono ?_)
        rintro e w3 ⟨rfl, hb3⟩
        have X3 := HX1.out.bel hb3
        have hR3 := HR2.out.bel hb3
        have HG3 := Lib.hid (HG2.out.trans ⟨hb3.os, hb3.tape, hb3.output, hb3.size, fun i hi _ => hb3.block i hi⟩)
        have HR3 := Lib.hid hR3
        have z0 : w3.cell? ⟨w1.heap.size, 0, none⟩ = some (.int .i64 r) := X3.cell 0
        have z1 : w3.cell? ⟨w1.heap.size, 1, none⟩ = some (.int .i64 l) := X3.cell 1
        have z2 : w3.cell? ⟨w1.heap.size, 2, none⟩ = some (.int .i64 p) := X3.cell 2
        clear X3 hb3 cC k0 k1 HX1 HS2 HG2 HR2
        go_wp2_with (refine wpList_delF rfl _ _ _ _ rfl 63 spot12_law Try.underlying58 mb w.heap.size n F _ cnt1 rfl hR3 _ (keyT r l p) rfl (keyT_mk HW.out.1 HW.out.2.1 HW.out.2.2) (n - 1) (by rw [HF.out]; rfl) ?_)
        intro w4 cnt2 hr4 hc4 ht4
        have hr4' : RangeAt w4 33 mb w.heap.size (n - 1) (delF F (keyT r l p)) (fun z => left z && !z.sameKey (keyT r l p)) cnt2 := by simpa using hr4
        have HN : Hid (DelI w sb mb cb gb w.heap.size room q L (n - 1) (delF F (keyT r l p)) (fun z => left z && !z.sameKey (keyT r l p)) cnt2 w4) := Lib.hid (by
          have e := HQ2.out
          subst e
          exact HD.out.drop HS.out.good HW.out HV.out HL1.out HR3.out HG3.out hr4' ht4)
        have hlt4 : cnt2 < cnt := Nat.lt_of_le_of_lt hc4 HLT.out
        clear hr4 hr4' hc4 ht4 hR3 z0 z1 z2
        go_wp2
        go_roundw
        case rel => exact ⟨_, _, _, _, HN⟩
        case measure => rw [HN.out.ran.left_eq, HD.out.ran.left_eq]; exact hlt4
      · have hd : decide (r = q) = false := by simpa using hrq
        rw [hd] at cC
        have HQ2 := Lib.hid hrq
        clear hrq hd
        go_wp2_with (refine cC.mono ?_)
        rintro e w3 ⟨rfl, hb3⟩
        have HN : Hid (DelI w sb mb cb gb w.heap.size room q L n F (fun z => left z && !z.sameKey (keyT r l p)) cnt1 w3) := Lib.hid
          (HD.out.keep HS.out.good HW.out HQ2.out (HR2.out.bel hb3) (HG2.out.trans ⟨hb3.os, hb3.tape, hb3.output, hb3.size, fun i hi _ => hb3.block i hi⟩))
        clear hb3 cC z0 z1 z2 k0 k1 HX1 HS2 HG2 HR2
        go_wp2
        go_roundw
        case rel => exact ⟨_, _, _, _, HN⟩
        case measure => rw [HN.out.ran.left_eq, HD.out.ran.left_eq]; exact HLT.out

end Go.Proofs.Ytolmejaedldeeaa
