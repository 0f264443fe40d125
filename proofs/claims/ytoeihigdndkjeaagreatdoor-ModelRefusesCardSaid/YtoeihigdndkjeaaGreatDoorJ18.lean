import Derived.Test.YtoeihigdndkjeaaGreatDoorJ17
import Derived.Test.YtoeihigdndkjeaaGreatDoorJ04
/-
  A copy of a row, of a matrix; a run at place 0; how many went through.
-/
namespace Go.Proofs.YtoeihigdndkjeaaGreatDoor
open Go.RowKit Go.Shelf
set_option linter.unusedVariables false

/-- an append whose run is known, in a region of one order -/
theorem wpList_append_run {P : Program} {w w' : World} {ops : Array Oper} {rest : List Oper} {o : Oper} {a : Act} {Q : Exit → Act → World → Prop} (hgd : o.guard = none) (s x : Operand) (t : TypeId)
    (ho : o.op = .call { callee := .builtin .append, args := #[s, x], argTypes := #[t, t] }) (v1 v2 : Value) (hs : a.eval s = v1) (hx : a.eval x = v2) {v : Value}
    (hrun : Sem.run P (Builtin.append_ #[t, t] o.type #[v1, v2]) w = .ok v w') (h : wpList P ops Q rest (a.put o.dst v) w') : wpList P ops Q (o :: rest) a w := by
  refine wpList_plain hgd fun K hK => ?_
  unfold Oper.wp execOp
  simp only [ho, resolve, invoke, builtin, Sem.run_bind, Sem.run_pure, Result.andThen_ok, List.map_toArray, List.map_cons, List.map_nil, hs, hx, hrun]
  exact hK _ _ h

/-- a row of the call's own, as a row -/
theorem own_rw {kd : IntKind} {w : World} {base : Nat} {e : TypeId} {v : Value} {n : Nat} {cs : List Int} (h : w.ownsRow base e 1 v n (cs.map (.int kd))) (hw : ∀ c ∈ cs, (Lit.int kd c).wf = true) (hn : n ≤ 9223372036854775807) :
    ∃ g : Rw, v = .slice g.a g.n g.cap ∧ g.In kd w ∧ g.v = cs ∧ g.n = n ∧ ∀ x, g.a = some x → base ≤ x.block := by
  have hl : cs.length = n := by have := h.1; simpa using this
  rcases h.2 with ⟨rfl, rfl⟩ | ⟨g, cap, cur, rfl, hb, hg, hnc, hcm, hcs, ht⟩
  · obtain rfl : cs = [] := List.length_eq_zero_iff.1 hl
    exact ⟨⟨none, 0, 0, []⟩, rfl, ⟨Elems.nil_ _ _ _, Nat.le_refl _, by omega, ⟨(fun _ => rfl), (fun x hx => by cases hx)⟩⟩, rfl, rfl, fun x hx => by cases hx⟩
  · obtain ⟨a, c, hv, hE⟩ := own_form h hn hw
    cases hv
    exact ⟨⟨some ⟨g, 0, none⟩, n, cap, cs⟩, rfl, ⟨hE, hnc, by simpa [maxLen] using hcm, ⟨(fun e => by cases e), (fun x hx _ => by cases hx; rfl)⟩⟩, rfl, rfl, fun x hx => by cases hx; exact hb⟩

/-- a row whose block stands as it stood -/
theorem rw_kept {kd : IntKind} {w w' : World} {q : Rw} (h : q.In kd w) {B : Nat} (hq : ∀ x, q.a = some x → B ≤ x.block) (hk : ∀ k, B ≤ k → k < w.heap.size → w'.heap[k]? = w.heap[k]?) : q.In kd w' :=
  ⟨⟨h.1.1, h.1.2.1, h.1.2.2.1, fun hn => let ⟨b, off, ha, hc⟩ := h.1.2.2.2 hn; ⟨b, off, ha, fun i hi => by
    have h0 := hc i hi
    rw [World.cell?_of_block (w := w) (a := ⟨b, off + i, none⟩) (hk b (hq _ ha) (World.block_lt_of_cell? _ _ h0))]
    exact h0⟩⟩, h.2⟩

/-- a copy of the row q -/
def CopyR (kd : IntKind) (q : Rw) (w : World) (e : Ending) (w' : World) : Prop :=
  (∃ g : Rw, e = .returned (.slice g.a g.n g.cap) ∧ g.In kd w' ∧ g.v = q.v ∧ g.n = q.n ∧ ∀ x, g.a = some x → w.heap.size ≤ x.block) ∧ Below w.heap.size w w'

set_option maxRecDepth 100000 in
theorem clone8 (q : Rw) (w : World) (h : q.In .i8 w) (hn : q.n ≤ 65536) :
    Calls Tryz.prog 38 #[.slice q.a q.n q.cap] w fun e w' => CopyR .i8 q w e w' := by
  have q22 : ∀ (w : World) (a : Option Addr) (n c n' c' : Nat), (binOp .eql 24 (.slice a n c) (.slice none n' c')).run Tryz.prog w = .ok (.bool a.isNone) w := fun w a n c n' c' => Lib.run_eql_slice_nil w _ _ a n c n' c' Tryz.underlying24
  obtain ⟨a, n, cap, v⟩ := q
  obtain ⟨hE, h1, h2, h3⟩ := h
  simp only at hE h1 h2 h3 hn ⊢
  cases a with
  | none =>
    obtain rfl := h3.1 rfl
    obtain rfl : n = 0 := by omega
    obtain rfl : v = [] := List.eq_nil_of_length_eq_zero hE.1
    clear hE
    go_enter Tryz.func38, Tryz.ntmps38
    go_wp2
    go_ret
    exact ⟨⟨⟨none, 0, 0, []⟩, rfl, ⟨Elems.nil_ _ _ _, Nat.le_refl _, by omega, ⟨(fun _ => rfl), (fun x hx => by cases hx)⟩⟩, rfl, rfl, fun x hx => by cases hx⟩, Below.refl _ _⟩
  | some ad =>
    have hown : (w.alloc (.cells #[] 64)).ownsRow w.heap.size 64 1 (.slice (some ⟨w.heap.size, 0, none⟩) 0 0) 0 (([] : List Int).map (.int .i8)) :=
      World.ownsRow_lit (e := 64) (size := 1) w #[] 0 (Nat.le_refl _) (by unfold maxLen; omega) rfl
    have hB : Below w.heap.size w (w.alloc (.cells #[] 64)) := (Below.refl _ _).alloc (Nat.le_refl _) _
    obtain ⟨v', w', hr, ho, hg, _⟩ := run_append_elems (P := Tryz.prog) .i8 (w.alloc (.cells #[] 64)) w.heap.size 24 64 1 (by omega) Tryz.underlying24 info_i8 _ 0 [] hown (some ad) n cap v (hE.below hB) h3.1 (by omega) (by omega) hB.size
    have hb2 : Below w.heap.size w w' := hB.grown hg hB.size (fun k hk => (hown.lt k hk).1)
    obtain ⟨g, rfl, hgi, hgv, hgn, hgb⟩ := own_rw ho (by simpa using hE.2.2.1) (by omega)
    have HH : Hid (CopyR .i8 ⟨some ad, n, cap, v⟩ w (.returned (.slice g.a g.n g.cap)) w') := Lib.hid ⟨⟨g, rfl, hgi, by simpa using hgv, by simpa using hgn, hgb⟩, hb2⟩
    clear hE hown hB ho hg hb2 hgi hgv hgn hgb
    go_enter Tryz.func38, Tryz.ntmps38
    go_wp2_with (at_builtin; refine wpList_append_run (by rfl) _ _ _ (by rfl) _ _ (by rfl) (by rfl) hr ?_)
    go_ret
    exact HH.out

/-- a copy of the matrix g -/
def CopyG (g : Gr) (w : World) (e : Ending) (w' : World) : Prop :=
  (∃ h : Gr, e = .returned (.agg #[.int .i64 h.r, .int .i64 h.c, .slice h.a h.n h.cap]) ∧ h.In8 w' ∧ h.v = g.v ∧ h.n = g.n ∧ h.r = g.r ∧ h.c = g.c ∧ ∀ x, h.a = some x → w.heap.size ≤ x.block) ∧ Below w.heap.size w w'

set_option maxRecDepth 100000 in
theorem matrix8 (g : Gr) (w : World) (h : g.In8 w) (hn : g.n ≤ 65536) :
    Calls Tryz.prog 42 #[.agg #[.int .i64 g.r, .int .i64 g.c, .slice g.a g.n g.cap]] w fun e w' => CopyG g w e w' := by
  obtain ⟨hE, h1, h2, h3, h4⟩ := h
  have cC : ∀ w1, Below w.heap.size w w1 → Calls Tryz.prog 38 #[.slice g.a g.n g.cap] w1 fun e w' => CopyR .i8 g.row w1 e w' := fun w1 hb => clone8 g.row w1 ⟨hE.below hb, h1, h2, h3⟩ hn
  have H4 := Lib.hid h4
  clear hE h1 h2 h3 h4
  go_enter Tryz.func42, Tryz.ntmps42
  go_upto_region 1 with (fail)
  generalize hwa : World.alloc _ _ = wa
  have X1 : Box wa w.heap.size 47 #[.int .i64 g.r, .int .i64 g.c, .slice g.a g.n g.cap] := by rw [← hwa]; exact (box_new _ _ _).alloc _
  have X2 : Box wa (w.heap.size + 1) 47 #[.int .i64 0, .int .i64 0, .slice none 0 0] := by rw [← hwa]; exact box_at (by simp) _ _
  have hB : Below w.heap.size w wa := by rw [← hwa]; exact ((Below.refl _ _).alloc (Nat.le_refl _) _).alloc (by simp) _
  have hs2 : w.heap.size + 1 < wa.heap.size := X2.lt
  clear hwa
  have y2 : wa.cell? ⟨w.heap.size, 2, none⟩ = some (.slice g.a g.n g.cap) := X1.cell 2
  go_wp2_with fail
  refine (cC wa hB).mono ?_
  rintro e wb ⟨⟨q, rfl, hqi, hqv, hqn, hqb⟩, hb⟩
  have X1b := X1.bel hb
  have X2b := X2.bel hb
  have hBb := below_two hB hb
  have y2b : wb.cell? ⟨w.heap.size, 2, none⟩ = some (.slice g.a g.n g.cap) := X1b.cell 2
  have yf := X1b.frozen 2
  have HQ := Lib.hid hqi
  have HQV : Hid (q.v = g.v) := Lib.hid hqv
  have HQN : Hid (q.n = g.n) := Lib.hid hqn
  have HQB : Hid (∀ x, q.a = some x → w.heap.size + 2 ≤ x.block) := Lib.hid fun x hx => Nat.le_trans hs2 (hqb x hx)
  clear cC y2 X1 X2 hqi hqv hqn hqb hb hB hs2
  go_upto_region 2 with (fail)
  generalize hwc : World.setCell _ _ _ = wc
  have X1c : Box wc w.heap.size 47 #[.int .i64 g.r, .int .i64 g.c, .slice q.a q.n q.cap] := by rw [← hwc]; exact X1b.set 2 _
  have X2c : Box wc (w.heap.size + 1) 47 #[.int .i64 0, .int .i64 0, .slice none 0 0] := by rw [← hwc]; exact X2b.other _ (by simp)
  have hBc : Below w.heap.size w wc := by rw [← hwc]; exact hBb.setCell (Nat.le_refl _) _
  have HQc : Hid (q.In .i8 wc) := Lib.hid (rw_kept HQ.out HQB.out (fun k hk _ => by rw [← hwc]; exact Below.heap_setCell _ _ _ _ (by simp; omega)))
  have X3 := Lib.hid (X2c.setRow (cs' := #[.int .i64 g.r, .int .i64 g.c, .slice q.a q.n q.cap]))
  have hBd := Lib.hid (below_setRow (g := w.heap.size + 1) (cs := #[.int .i64 g.r, .int .i64 g.c, .slice q.a q.n q.cap]) hBc (Nat.le_succ _) hBc.size)
  have HQd := Lib.hid (rw_kept (w' := wc.setRow (w.heap.size + 1) #[.int .i64 g.r, .int .i64 g.c, .slice q.a q.n q.cap]) HQc.out HQB.out (fun k hk hl => (grownBy_setRow wc (w.heap.size + 1) _).block k hl (by simp; omega)))
  clear hwc X1b X2b hBb y2b yf HQ
  have HL : Hid (∀ k, k < (#[.int .i64 g.r, .int .i64 g.c, .slice q.a q.n q.cap] : Array Value).size → wc.cell? ⟨w.heap.size, 0 + k, none⟩ = (#[.int .i64 g.r, .int .i64 g.c, .slice q.a q.n q.cap] : Array Value)[k]?) := Lib.hid (fun k hk => by rw [Nat.zero_add, X1c.cell])
  go_wp2_with (first
    | (refine wpList_load_part rfl 47 _ rfl w.heap.size 0 rfl #[.int .i64 g.r, .int .i64 g.c, .slice q.a q.n q.cap] _ HL.out Tryz.underlying47 rfl (by kernel_rfl) ?_)
    | (refine wpList_store_row rfl 47 _ _ rfl (w.heap.size + 1) #[.int .i64 g.r, .int .i64 g.c, .slice q.a q.n q.cap] rfl rfl 47 _ X2c (by kernel_rfl) rfl (by simp [Value.oneCell']) ?_))
  exact bodyPost_ret (v := .agg #[.int .i64 g.r, .int .i64 g.c, .slice q.a q.n q.cap]) (results_row rfl rfl X3.out Tryz.underlying47 rfl (by kernel_rfl)) rfl
    ⟨⟨⟨g.r, g.c, q.a, q.n, q.cap, q.v⟩, rfl, ⟨HQd.out.1, HQd.out.2.1, HQd.out.2.2.1, HQd.out.2.2.2, H4.out⟩, HQV.out, HQN.out, rfl, rfl, fun x hx => Nat.le_trans (Nat.le_add_right _ 2) (HQB.out x hx)⟩, hBd.out⟩

theorem place8 (r m mb p n N : Nat) (K : KF8) (s : Sz) (w : World) (hr : RunAt w r m mb s p n N K) :
    Calls Tryz.prog 14 #[.pointer (some ⟨r, 0, none⟩)] w fun e w' => e = .returned (.int .i64 p) ∧ w = w' := by
  have c1 : w.cell? ⟨r, 1, none⟩ = some (.int .i64 p) := hr.box.cell 1
  clear hr
  go_enter Tryz.func14, Tryz.ntmps14
  go_wp2
  go_ret
  exact ⟨rfl, rfl⟩

theorem run_makeMap8 (w : World) : (Instr.makeMap 89 none).run Tryz.prog w = .ok (.map (some w.heap.size)) (w.alloc (.map #[] 0)) := by
  simp [Instr.makeMap, Result.andThen]
theorem run8 (m : Nat) (s : Sz) (W : Wt7) (w : World) (hm : ModAt w m s W) (K : KF8) :
    Calls Tryz.prog 10 #[.pointer (some ⟨m, 0, none⟩)] w fun e w' => (∃ r mb, e = .returned (.pointer (some ⟨r, 0, none⟩)) ∧ w.heap.size ≤ r ∧ w.heap.size ≤ mb ∧ r ≠ mb ∧ RunAt w' r m mb s 0 0 0 K) ∧ Below w.heap.size w w' := by
  have hmm := run_makeMap8
  clear hm
  go_enter Tryz.func10, Tryz.ntmps10
  go_wp2
  go_ret
  refine ⟨⟨w.heap.size + 1, w.heap.size, rfl, Nat.le_succ _, Nat.le_refl _, by omega, ⟨box_at (by simp) _ _, .map [], ?_, keptD_start _ _ _ _⟩⟩, ((Below.refl _ _).alloc (Nat.le_refl _) _).alloc (by simp) _⟩
  exact (ownK_made w rfl).bel ((Below.refl _ _).alloc (Nat.le_refl _) _)

end Go.Proofs.YtoeihigdndkjeaaGreatDoor

/-
  The document's taker: so many numbers, a matrix.
-/
namespace Go.Proofs.YtoeihigdndkjeaaGreatDoor
open Go.RowKit Go.Shelf
set_option linter.unusedVariables false
attribute [local go_sem] Oper.semAt_some

/-- an append whose run is known, in a region that draws its order -/
theorem wp_append_run8 {P : Program} {w w' : World} {o : Oper} {a : Act} {K : Act → World → Prop} {Q : Exit → Act → World → Prop} (s x : Operand) (t : TypeId)
    (ho : o.op = .call { callee := .builtin .append, args := #[s, x], argTypes := #[t, t] }) (v1 v2 : Value) (hs : a.eval s = v1) (hx : a.eval x = v2) {v : Value}
    (hrun : Sem.run P (Builtin.append_ #[t, t] o.type #[v1, v2]) w = .ok v w') (h : K (a.put o.dst v) w') : o.wp P a w K Q := by
  unfold Oper.wp execOp
  simp only [ho, resolve, invoke, builtin, Sem.run_bind, Sem.run_pure, Result.andThen_ok, List.map_toArray, List.map_cons, List.map_nil, hs, hx, hrun]
  exact h
/-- a taker of the numbers xs, q of them taken -/
def TakerAt (w : World) (T : Nat) (la : Option Addr) (ln lcap q : Nat) : Prop := Box w T 128 #[.slice la ln lcap, .int .i64 q]
/-- a row that was taken -/
def Took (w : World) (T : Nat) (la : Option Addr) (ln lcap q n : Nat) (ys : List Int) (e : Ending) (w' : World) : Prop :=
  (∃ g : Rw, e = .returned (.slice g.a g.n g.cap) ∧ g.In .i8 w' ∧ g.v = ys ∧ g.n = n ∧ ∀ x, g.a = some x → w.heap.size ≤ x.block) ∧ TakerAt w' T la ln lcap (q + n) ∧ w.grownBy w' (some T)

set_option maxHeartbeats 2000000 in
set_option maxRecDepth 100000 in
theorem take8 (T : Nat) (b off ln lcap q n : Nat) (xs : List Int) (w : World) (hT : TakerAt w T (some ⟨b, off, none⟩) ln lcap q) (hx : Elems .i8 w (some ⟨b, off, none⟩) ln xs) (hcap : ln ≤ lcap) (hcap2 : lcap ≤ 9223372036854775807) (hn : 0 < n) (hle : q + n ≤ ln) (hs : ln ≤ 1000000) :
    Calls Tryz.prog 60 #[.pointer (some ⟨T, 0, none⟩), .int .i64 n] w fun e w' => Took w T (some ⟨b, off, none⟩) ln lcap q n ((xs.drop q).take n) e w' := by
  have z0 : w.cell? ⟨T, 0, none⟩ = some (.slice (some ⟨b, off, none⟩) ln lcap) := hT.cell 0
  have z1 : w.cell? ⟨T, 1, none⟩ = some (.int .i64 q) := hT.cell 1
  have hx2 : Elems .i8 w.drew (some ⟨b, off + q, none⟩) n ((xs.drop q).take n) := ((hx.drop q (by omega)).take n (by omega)).below ((Below.refl _ _).drew)
  obtain ⟨v', w1, hrun, hown, hgrow, hvb⟩ := run_append_elems (P := Tryz.prog) .i8 w.drew w.heap.size 24 64 1 (by omega) Tryz.underlying24 info_i8 (.slice none 0 0) 0 [] (own_nil _ _ _) (some ⟨b, off + q, none⟩) n (lcap - q) _ hx2 (fun e => by cases e) (by omega) (by omega) (Nat.le_refl _)
  have hB : Below w.heap.size w w1 := ((Below.refl _ _).drew).grown hgrow (Nat.le_refl _) (fun k hk => by simp [Value.ownBlock] at hk)
  obtain ⟨g, rfl, hgi, hgv, hgn, hgb⟩ := own_rw hown (by simpa using hx2.2.2.1) (by omega)
  have HG := Lib.hid hgi
  have HGV : Hid (g.v = (xs.drop q).take n) := Lib.hid (by simpa using hgv)
  have HGN : Hid (g.n = n) := Lib.hid (by simpa using hgn)
  have HGB := Lib.hid hgb
  have HB := Lib.hid hB
  have HT1 := Lib.hid (Box.bel hT hB)
  have y0 : w1.cell? ⟨T, 0, none⟩ = some (.slice (some ⟨b, off, none⟩) ln lcap) := HT1.out.cell 0
  have y1 : w1.cell? ⟨T, 1, none⟩ = some (.int .i64 q) := HT1.out.cell 1
  have yf := HT1.out.frozen 1
  obtain ⟨r, hr⟩ : ∃ r, q + n = r := ⟨_, rfl⟩
  have HR := Lib.hid hr
  have hwr : IntKind.i64.wrap ((q : Int) + (n : Int)) = (r : Int) := by rw [← hr]; unfold IntKind.wrap; simp [IntKind.bits, IntKind.signed]; omega
  have l1 : q ≤ r := by omega
  have l2 : (r : Int) ≤ (lcap : Int) := by omega
  have l3 : ¬ lcap = q := by omega
  have l4 : r - q = n := by omega
  clear hr hle hcap
  have HTLT : Hid (T < w.heap.size) := Lib.hid hT.lt
  clear hx hx2 hown hgrow hvb hgi hgv hgn hgb hB hT
  go_enter Tryz.func60, Tryz.ntmps60
  go_upto_region 2 with (fail)
  refine wp_region_held_drew (S := fun w' => w'.cell? ⟨T, 0, none⟩ = some (.slice (some ⟨b, off, none⟩) ln lcap) ∧ w'.cell? ⟨T, 1, none⟩ = some (.int .i64 q)) (by kernel_rfl) ?_ (fun hHeld => ?_)
  · (first | exact ⟨z0, z1⟩ | exact ⟨y0, y1⟩)
  refine wpAnyH_take (i := 0) (oi := ⟨some 6, _, _, _, _, _⟩) (v := ?_) rfl (by kernel_rfl) (by kernel_rfl) (by kernel_rfl) (fun _ _ _ h => h) (Or.inl ⟨by rfl, ?hy1⟩) hHeld ?rest1
  case hy1 => (intro W hSw; (try dsimp only at hSw); go_simp; (try with_reducible rfl))
  simp only [Act.put, List.setIfInBounds_toArray, List.set_cons_zero, List.set_cons_succ]
  refine wpAnyH_take (i := 1) (oi := ⟨some 7, _, _, _, _, _⟩) (v := ?_) rfl (by kernel_rfl) (by kernel_rfl) (by kernel_rfl) (fun _ _ _ h => h) (Or.inl ⟨by rfl, ?hy2⟩) hHeld ?rest2
  case hy2 => (intro W hSw; (try dsimp only at hSw); go_simp; (try with_reducible rfl))
  simp only [Act.put, List.setIfInBounds_toArray, List.set_cons_zero, List.set_cons_succ]
  refine wpAnyH_take (i := 2) (oi := ⟨some 8, _, _, _, _, _⟩) (v := ?_) rfl (by kernel_rfl) (by kernel_rfl) (by kernel_rfl) (fun _ _ _ h => h) (Or.inl ⟨by rfl, ?hy3⟩) hHeld ?rest3
  case hy3 => (intro W hSw; (try dsimp only at hSw); go_simp; (try with_reducible rfl))
  simp only [Act.put, List.setIfInBounds_toArray, List.set_cons_zero, List.set_cons_succ]
  refine wpAnyH_take (i := 3) (oi := ⟨some 9, _, _, _, _, _⟩) (v := ?_) rfl (by kernel_rfl) (by kernel_rfl) (by kernel_rfl) (fun _ _ _ h => h) (Or.inl ⟨by rfl, ?hy4⟩) hHeld ?rest4
  case hy4 => (intro W hSw; (try dsimp only at hSw); go_simp; (try with_reducible rfl))
  simp only [Act.put, List.setIfInBounds_toArray, List.set_cons_zero, List.set_cons_succ]
  refine wpAnyH_take (i := 4) (oi := ⟨some 10, _, _, _, _, _⟩) (v := ?_) rfl (by kernel_rfl) (by kernel_rfl) (by kernel_rfl) (fun _ _ _ h => h) (Or.inl ⟨by rfl, ?hy5⟩) hHeld ?rest5
  case hy5 => (intro W hSw; (try dsimp only at hSw); go_simp; (try with_reducible rfl))
  simp only [Act.put, List.setIfInBounds_toArray, List.set_cons_zero, List.set_cons_succ]
  refine wpAnyH_take (i := 5) (oi := ⟨some 11, _, _, _, _, _⟩) (v := ?_) rfl (by kernel_rfl) (by kernel_rfl) (by kernel_rfl) (fun _ _ _ h => h) (Or.inl ⟨by rfl, ?hy6⟩) hHeld ?rest6
  case hy6 => (intro W hSw; (try dsimp only at hSw); go_simp; (try with_reducible rfl))
  simp only [Act.put, List.setIfInBounds_toArray, List.set_cons_zero, List.set_cons_succ]
  refine wpAnyH_take (i := 6) (oi := ⟨some 12, _, _, _, _, _⟩) (v := ?_) rfl (by kernel_rfl) (by kernel_rfl) (by kernel_rfl) (fun _ _ _ h => h) (Or.inl ⟨by rfl, ?hy7⟩) hHeld ?rest7
  case hy7 => (intro W hSw; (try dsimp only at hSw); go_simp; (try with_reducible rfl))
  simp only [Act.put, List.setIfInBounds_toArray, List.set_cons_zero, List.set_cons_succ]
  refine wpAnyH_take (i := 7) (oi := ⟨some 13, _, _, _, _, _⟩) (v := ?_) rfl (by kernel_rfl) (by kernel_rfl) (by kernel_rfl) (fun _ _ _ h => h) (Or.inl ⟨by rfl, ?hy8⟩) hHeld ?rest8
  case hy8 => (intro W hSw; (try dsimp only at hSw); go_simp; (try with_reducible rfl))
  simp only [Act.put, List.setIfInBounds_toArray, List.set_cons_zero, List.set_cons_succ]
  refine wpAnyH_take (i := 8) (oi := ⟨some 14, _, _, _, _, _⟩) (v := ?_) rfl (by kernel_rfl) (by kernel_rfl) (by kernel_rfl) (fun _ _ _ h => h) (Or.inl ⟨by rfl, ?hy9⟩) hHeld ?rest9
  case hy9 => (intro W hSw; (try dsimp only at hSw); go_simp; (try with_reducible rfl))
  simp only [Act.put, List.setIfInBounds_toArray, List.set_cons_zero, List.set_cons_succ]
  refine wpAnyH_take (i := 9) (oi := ⟨some 15, _, _, _, _, _⟩) (v := ?_) rfl (by kernel_rfl) (by kernel_rfl) (by kernel_rfl) (fun _ _ _ h => h) (Or.inl ⟨by rfl, ?hy10⟩) hHeld ?rest10
  case hy10 => (intro W hSw; (try dsimp only at hSw); go_simp; (try with_reducible rfl))
  simp only [Act.put, List.setIfInBounds_toArray, List.set_cons_zero, List.set_cons_succ]
  refine wpAnyH_take (i := 10) (oi := ⟨some 16, _, _, _, _, _⟩) (v := ?_) rfl (by kernel_rfl) (by kernel_rfl) (by kernel_rfl) (fun _ _ _ h => h) (Or.inl ⟨by rfl, ?hy11⟩) hHeld ?rest11
  case hy11 => (intro W hSw; (try dsimp only at hSw); go_simp; (try with_reducible rfl))
  simp only [Act.put, List.setIfInBounds_toArray, List.set_cons_zero, List.set_cons_succ]
  refine wpAnyH_take (i := 11) (oi := ⟨some 17, _, _, _, _, _⟩) (v := ?_) rfl (by kernel_rfl) (by kernel_rfl) (by kernel_rfl) (fun _ _ _ h => h) (Or.inl ⟨by rfl, ?hy12⟩) hHeld ?rest12
  case hy12 => (intro W hSw; (try dsimp only at hSw); go_simp; (try with_reducible rfl))
  simp only [Act.put, List.setIfInBounds_toArray, List.set_cons_zero, List.set_cons_succ]
  refine wpAnyH_take (i := 12) (oi := ⟨some 18, _, _, _, _, _⟩) (v := ?_) rfl (by kernel_rfl) (by kernel_rfl) (by kernel_rfl) (fun _ _ _ h => h) (Or.inl ⟨by rfl, ?hy13⟩) hHeld ?rest13
  case hy13 => (intro W hSw; (try dsimp only at hSw); go_simp; (try with_reducible rfl))
  simp only [Act.put, List.setIfInBounds_toArray, List.set_cons_zero, List.set_cons_succ]
  refine wpAnyH_take (i := 13) (oi := ⟨some 19, _, _, _, _, _⟩) (v := ?_) rfl (by kernel_rfl) (by kernel_rfl) (by kernel_rfl) (fun _ _ _ h => h) (Or.inl ⟨by rfl, ?hy14⟩) hHeld ?rest14
  case hy14 => (intro W hSw; (try dsimp only at hSw); go_simp; (try with_reducible rfl))
  simp only [Act.put, List.setIfInBounds_toArray, List.set_cons_zero, List.set_cons_succ]
  refine wpAnyH_take (i := 14) (oi := ⟨some 20, _, _, _, _, _⟩) (v := ?_) rfl (by kernel_rfl) (by kernel_rfl) (by kernel_rfl) (fun _ _ _ h => h) (Or.inl ⟨by rfl, ?hy15⟩) hHeld ?rest15
  case hy15 => (intro W hSw; (try dsimp only at hSw); go_simp; (try with_reducible rfl))
  simp only [Act.put, List.setIfInBounds_toArray, List.set_cons_zero, List.set_cons_succ]
  refine wpAnyH_take (i := 15) (oi := ⟨some 21, _, _, _, _, _⟩) (v := ?_) rfl (by kernel_rfl) (by kernel_rfl) (by kernel_rfl) (fun _ _ _ h => h) (Or.inl ⟨by rfl, ?hy16⟩) hHeld ?rest16
  case hy16 => (intro W hSw; (try dsimp only at hSw); go_simp; (try with_reducible rfl))
  simp only [Act.put, List.setIfInBounds_toArray, List.set_cons_zero, List.set_cons_succ]
  refine wpAnyH_ready (rs := [16]) (by kernel_rfl) (by simp) ?_
  refine AllReadyH.cons (o := ⟨some 22, _, _, _, _, _⟩) rfl (fun K hK => ?_) AllReadyH.nil
  refine wp_append_run8 _ _ _ rfl _ _ rfl rfl hrun ?_
  refine hK.out _ _ ?_ (fun hNew => ?_)
  · ((try dsimp only); (first | exact ⟨z0, z1⟩ | exact ⟨y0, y1⟩))
  clear hK K hHeld
  have hHeld := hNew
  clear hNew
  try simp only [Act.put, List.setIfInBounds_toArray, List.set_cons_zero, List.set_cons_succ]
  refine wpAnyH_take (i := 17) (oi := ⟨some 5, _, _, _, _, _⟩) (v := ?_) rfl (by kernel_rfl) (by kernel_rfl) (by kernel_rfl) (fun _ _ _ h => h) (Or.inl ⟨by rfl, ?hy18⟩) hHeld ?rest18
  case hy18 => (intro W hSw; (try dsimp only at hSw); go_simp; (try with_reducible rfl))
  simp only [Act.put, List.setIfInBounds_toArray, List.set_cons_zero, List.set_cons_succ]
  refine wpAnyH_done (by kernel_rfl) ?_ _
  have HT2 : Hid (TakerAt (w1.setCell ⟨T, 1, none⟩ (.int .i64 r)) T (some ⟨b, off, none⟩) ln lcap (q + n)) := Lib.hid (by rw [HR.out]; exact HT1.out.set 1 (.int .i64 r))
  have HG2 : Hid (g.In .i8 (w1.setCell ⟨T, 1, none⟩ (.int .i64 r))) := Lib.hid (rw_kept HG.out HGB.out (fun k hk _ => Below.heap_setCell _ _ _ _ (by have := HTLT.out; simp; omega)))
  have HW2 : Hid (w.grownBy (w1.setCell ⟨T, 1, none⟩ (.int .i64 r)) (some T)) := Lib.hid ⟨HB.out.os, HB.out.tape, HB.out.output, by simpa using HB.out.size, fun k hk hne => (Below.heap_setCell w1 ⟨T, 1, none⟩ _ k (by simpa using hne)).trans (HB.out.block k hk)⟩
  clear hHeld hrun z0 z1 HG HB HT1
  go_wp2
  go_ret
  exact ⟨⟨g, rfl, HG2.out, HGV.out, HGN.out, HGB.out⟩, HT2.out, HW2.out⟩

/-- a matrix that was taken -/
def TookG (w : World) (T : Nat) (la : Option Addr) (ln lcap q R C : Nat) (ys : List Int) (e : Ending) (w' : World) : Prop :=
  (∃ g : Gr, e = .returned (.agg #[.int .i64 g.r, .int .i64 g.c, .slice g.a g.n g.cap]) ∧ g.In8 w' ∧ g.v = ys ∧ matB8 R C g ∧ ∀ x, g.a = some x → w.heap.size ≤ x.block) ∧ TakerAt w' T la ln lcap (q + R * C) ∧ w.grownBy w' (some T)

set_option maxHeartbeats 2000000 in
set_option maxRecDepth 100000 in
theorem mat8 (T : Nat) (b off ln lcap q R C : Nat) (xs : List Int) (w : World) (hT : TakerAt w T (some ⟨b, off, none⟩) ln lcap q) (hx : Elems .i8 w (some ⟨b, off, none⟩) ln xs) (hcap : ln ≤ lcap) (hcap2 : lcap ≤ 9223372036854775807) (hR : 0 < R) (hC : 0 < C) (hle : q + R * C ≤ ln) (hs : ln ≤ 1000000) :
    Calls Tryz.prog 59 #[.pointer (some ⟨T, 0, none⟩), .int .i64 R, .int .i64 C] w fun e w' => TookG w T (some ⟨b, off, none⟩) ln lcap q R C ((xs.drop q).take (R * C)) e w' := by
  obtain ⟨n, hn⟩ : ∃ n, R * C = n := ⟨_, rfl⟩
  have hn0 : 0 < n := by rw [← hn]; exact Nat.mul_pos hR hC
  have hR1 : R ≤ 1000000 := by have := Nat.le_mul_of_pos_right R hC; omega
  have hC1 : C ≤ 1000000 := by have := Nat.le_mul_of_pos_left C hR; omega
  rw [hn] at hle
  have HN := Lib.hid hn
  have e1 : (R : Int) * (C : Int) = (n : Int) := by rw [← hn]; push_cast; rfl
  unfold TookG
  rw [hn]
  have hB : ∀ o, Below w.heap.size w (w.alloc o) := fun o => (Below.refl _ _).alloc (Nat.le_refl _) o
  have cK : ∀ o, Calls Tryz.prog 60 #[.pointer (some ⟨T, 0, none⟩), .int .i64 n] (w.alloc o) fun e w' => Took (w.alloc o) T (some ⟨b, off, none⟩) ln lcap q n ((xs.drop q).take n) e w' := fun o =>
    take8 T b off ln lcap q n xs (w.alloc o) (Box.bel hT (hB o)) (hx.below (hB o)) hcap hcap2 hn0 hle hs
  have HTLT : Hid (T < w.heap.size) := Lib.hid hT.lt
  have hBl := hB
  clear hT hx hn
  go_enter Tryz.func59, Tryz.ntmps59
  go_wp2_with fail
  refine (cK _).mono ?_
  rintro e w1 ⟨⟨g, rfl, hgi, hgv, hgn, hgb⟩, hT1, hw1⟩
  have HG := Lib.hid hgi
  have HGV := Lib.hid hgv
  have HGN := Lib.hid hgn
  have HGB := Lib.hid hgb
  have HT1 := Lib.hid hT1
  have HW1 := Lib.hid hw1
  have XM := Box.kept (box_new w 47 #[.int .i64 0, .int .i64 0, .slice none 0 0]) hw1 (by have := HTLT.out; simp; omega)
  clear hgi hgv hgn hgb hT1 hw1 cK hB
  go_wp2_with (refine wpList_store_row (o := ⟨none, .store _ _ _, _, _, _, _⟩) rfl 47 _ _ rfl w.heap.size #[.int .i64 R, .int .i64 C, .slice g.a g.n g.cap] rfl rfl 47 _ XM (by kernel_rfl) rfl (by simp [Value.oneCell']) ?_)
  have gS := grownBy_setRow w1 w.heap.size #[.int .i64 R, .int .i64 C, .slice g.a g.n g.cap]
  have X2 := XM.setRow (cs' := #[.int .i64 R, .int .i64 C, .slice g.a g.n g.cap])
  have hTl := HTLT.out
  have hT2 : TakerAt (w1.setRow w.heap.size #[.int .i64 R, .int .i64 C, .slice g.a g.n g.cap]) T (some ⟨b, off, none⟩) ln lcap (q + n) := Box.setRow_other HT1.out (by omega)
  have hG2 : g.In .i8 (w1.setRow w.heap.size #[.int .i64 R, .int .i64 C, .slice g.a g.n g.cap]) := rw_kept HG.out HGB.out (fun k hk hl => gS.block k hl (by simp at hk ⊢; omega))
  have hs2 : w.heap.size ≤ w1.heap.size := Nat.le_trans (by simp) HW1.out.size
  have hW2 : w.grownBy (w1.setRow w.heap.size #[.int .i64 R, .int .i64 C, .slice g.a g.n g.cap]) (some T) :=
    ⟨HW1.out.os, HW1.out.tape, HW1.out.output, Nat.le_trans hs2 gS.size, fun k hk hne => (gS.block k (Nat.lt_of_lt_of_le hk hs2) (by simp; omega)).trans ((HW1.out.block k (by simp; omega) hne).trans ((hBl _).block k hk))⟩
  exact bodyPost_ret (v := .agg #[.int .i64 R, .int .i64 C, .slice g.a g.n g.cap]) (results_row rfl rfl X2 Tryz.underlying47 rfl (by kernel_rfl)) rfl
    ⟨⟨⟨R, C, g.a, g.n, g.cap, g.v⟩, rfl, ⟨hG2.1, hG2.2.1, hG2.2.2.1, hG2.2.2.2, by show -9223372036854775808 ≤ (R : Int); omega, by show (R : Int) ≤ 9223372036854775807; omega, by show -9223372036854775808 ≤ (C : Int); omega, by show (C : Int) ≤ 9223372036854775807; omega⟩, HGV.out, ⟨rfl, rfl, by rw [HN.out]; exact HGN.out⟩, fun x hx => Nat.le_trans (by simp) (HGB.out x hx)⟩, hT2, hW2⟩

end Go.Proofs.YtoeihigdndkjeaaGreatDoor
