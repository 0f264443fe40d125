/-
  Contracts of package msg's read (a reader that may break off by a panic, caught) and Parse.
-/
import Derived.Test.YtobogkilkmnpmaaMsg15
import Derived.Test.YtobogkilkmnpmaaParse14
import Derived.Laws.ResultCell
import Derived.Defers
import Derived.Recover
import Derived.Tactics2
namespace Go.Proofs.Ytobogkilkmnpmaa
open Go.RowKit Go.Maps
set_option linter.unusedVariables false
set_option linter.unusedSimpArgs false

set_option maxHeartbeats 1600000 in
set_option maxRecDepth 100000 in
theorem catch15_panicking (p : Addr) (x : Int) (w : World) (hc : w.cell? p = some (.int .i64 x)) (hz : w.frozen? p = false) :
    CallsD Try.prog 45 #[.pointer (some p)] (.panicking [{ v := .iface 28 (.int .i64 150), recovered := false }]) w fun e u' w' =>
      e = .returned (.tuple #[]) ∧ u' = .panicking [{ v := .iface 28 (.int .i64 150), recovered := true }] ∧ w' = w.setCell p (.int .i64 150) := by
  refine callsD_of_wpS Try.func45 rfl fun c₀ cs hu => ?_
  apply wpS_seq
  apply wpS_region
  simp [wpOpsS, go_sem, recoverD, hu, Try.ntmps45, Exit.thenS]
  have hta : Sem.run Try.prog (Instr.typeAssert (.iface 28 (.int .i64 150)) 20 28 true) w = .ok (.tuple #[.int .i64 150, .bool true]) w := by
    simp [Instr.typeAssert, run_underlying (P := Try.prog) Try.underlying28]
  refine wpS_of_wp ?_
  have eT : ((#[Value.pointer (some p)] ++ ((Array.replicate 15 undef).setIfInBounds 3 (Value.iface 28 (Value.int IntKind.i64 150))).setIfInBounds 0 (Value.iface 28 (Value.int IntKind.i64 150)) : Array Value)) = #[.pointer (some p), .iface 28 (.int .i64 150), undef, undef, .iface 28 (.int .i64 150), undef, undef, undef, undef, undef, undef, undef, undef, undef, undef, undef] := rfl
  rw [eT]
  go_wp2_with fail
  cases c₀
  simp_all [bodyPostS, results, Try.results45]

theorem catch15_idle (p : Addr) (w : World) :
    CallsD Try.prog 45 #[.pointer (some p)] .returning w fun e u' w' => e = .returned (.tuple #[]) ∧ u' = .returning ∧ w' = w := by
  refine callsD_of_wpS Try.func45 rfl fun c₀ cs hu => ?_
  apply wpS_seq
  apply wpS_region
  simp [wpOpsS, go_sem, recoverD, hu, Try.ntmps45, Exit.thenS]
  refine wpS_of_wp ?_
  have eT : ((#[Value.pointer (some p)] ++ ((Array.replicate 15 undef).setIfInBounds 3 Value.nilIface).setIfInBounds 0 Value.nilIface : Array Value)) = #[.pointer (some p), .nilIface, undef, undef, .nilIface, undef, undef, undef, undef, undef, undef, undef, undef, undef, undef, undef] := rfl
  rw [eT]
  go_wp2_with fail
  cases c₀
  simp_all [bodyPostS, results, Try.results45]

/-- two results: a struct in a block, a number in another -/
theorem results_row_cell {P : Program} {fn : Func} {p u : Tmp} {ty ty2 : TypeId} (h : fn.results = #[.cell p ty, .cell u ty2]) {tmps : Array Value} {w : World} {g g2 : Nat} {T : TypeId} {cs : Array Value} {d : TypeDesc} {kd : IntKind} {v : Value} (hp : tmps.getD p undef = .pointer (some ⟨g, 0, none⟩)) (hg : Box w g T cs) (hu : P.underlying ty = some d) (hd : (match d with | .struct _ | .array _ _ => true | _ => false) = true) (hi : (P.info? ty).map (·.size) = some cs.size)
    (hp2 : tmps.getD u undef = .pointer (some ⟨g2, 0, none⟩)) (hg2 : w.cell? ⟨g2, 0, none⟩ = some v) (hu2 : P.underlying ty2 = some (.int kd)) :
    (results fn tmps).run P w = .ok (.tuple #[.agg cs, v]) w := by
  have hl := run_loadVar_row (P := P) w g T ty cs (0, 0) d hg hu hd hi
  have hl2 : (loadVar ty2 ⟨g2, 0, none⟩).run P w = .ok v w := by
    have ha : (isAgg ty2).run P w = .ok false w := by
      unfold isAgg
      rw [Sem.run_bind, run_underlying hu2 w]; rfl
    simp [loadVar, go_sem, ha, hg2]
  simp only [Array.getD_eq_getD_getElem?] at hp hp2
  simp only [results, h]
  simp [hp, hp2, hl, hl2, asAddr]

/-- what read answers -/
def ReadE (B : Nat) (k : Int) (bs : List Int) (e : Ending) (w' : World) : Prop :=
  if okB (fm k) bs then ∃ g : Rw, e = .returned (.tuple #[.agg (withL (rdN (fm k) k bs 7) g).cells.toArray, .int .i64 0]) ∧ g.In .i32 w' ∧ g.v = lsB (fm k) bs ∧ g.n = g.v.length ∧ (∀ a, g.a = some a → B ≤ a.block) else e = .returned (.tuple #[.agg #[.int .i64 0, .int .i64 0, .int .i64 0, .int .i64 0, .int .i64 0, .int .i64 0, .int .i64 0, .int .i64 0, .slice none 0 0], .int .i64 150])

set_option maxHeartbeats 3200000 in
set_option maxRecDepth 100000 in
theorem read15 (k : Int) (hk : 0 ≤ k ∧ k ≤ 255) (w : World) (q : Rw) (h : q.In .u8 w) (hn : q.n ≤ 1048576) :
    Calls Try.prog 30 #[.int .u8 k, .slice q.a q.n q.cap] w fun e w' => ReadE w.heap.size k q.v e w' ∧ Below w.heap.size w w' := by
  have hmf : ∀ (fn : Fn) (first cap : Array Value) (w : World), (Instr.makeFunc fn first cap).run Try.prog w = .ok (.func fn first cap) w := fun _ _ _ _ => rfl
  go_enter_defers Try.func30, Try.ntmps30
  go_upto_region 2 with fail
  have X0 : Box ((w.alloc (.cells #[.int .i64 0, .int .i64 0, .int .i64 0, .int .i64 0, .int .i64 0, .int .i64 0, .int .i64 0, .int .i64 0, .slice none 0 0] 24)).alloc (.cells #[.int .i64 0] 28)) w.heap.size 24 #[.int .i64 0, .int .i64 0, .int .i64 0, .int .i64 0, .int .i64 0, .int .i64 0, .int .i64 0, .int .i64 0, .slice none 0 0] := (box_new _ _ _).alloc _
  have X1 : Box ((w.alloc (.cells #[.int .i64 0, .int .i64 0, .int .i64 0, .int .i64 0, .int .i64 0, .int .i64 0, .int .i64 0, .int .i64 0, .slice none 0 0] 24)).alloc (.cells #[.int .i64 0] 28)) (w.heap.size + 1) 28 #[.int .i64 0] := box_at (by simp) _ _
  have hb1 : Below w.heap.size w ((w.alloc (.cells #[.int .i64 0, .int .i64 0, .int .i64 0, .int .i64 0, .int .i64 0, .int .i64 0, .int .i64 0, .int .i64 0, .slice none 0 0] 24)).alloc (.cells #[.int .i64 0] 28)) := ((Below.refl _ _).alloc (Nat.le_refl _) _).alloc (by simp) _
  have hs1 : ((w.alloc (.cells #[.int .i64 0, .int .i64 0, .int .i64 0, .int .i64 0, .int .i64 0, .int .i64 0, .int .i64 0, .int .i64 0, .slice none 0 0] 24)).alloc (.cells #[.int .i64 0] 28)).heap.size = w.heap.size + 2 := by simp
  generalize ((w.alloc (.cells #[.int .i64 0, .int .i64 0, .int .i64 0, .int .i64 0, .int .i64 0, .int .i64 0, .int .i64 0, .int .i64 0, .slice none 0 0] 24)).alloc (.cells #[.int .i64 0] 28)) = w1 at X0 X1 hb1 hs1 ⊢
  go_upto_region 3 with fail
  have X3 : Box (w1.alloc (.cells #[.slice q.a q.n q.cap] 73)) (w.heap.size + 2) 73 #[.slice q.a q.n q.cap] := box_at hs1.symm _ _
  have X4 := X0.alloc (.cells #[.slice q.a q.n q.cap] 73)
  have X5 := X1.alloc (.cells #[.slice q.a q.n q.cap] 73)
  have hb2 : Below w.heap.size w (w1.alloc (.cells #[.slice q.a q.n q.cap] 73)) := hb1.alloc hb1.size _
  have hs2 : (w1.alloc (.cells #[.slice q.a q.n q.cap] 73)).heap.size = w.heap.size + 3 := by rw [World.size_alloc]; omega
  generalize (w1.alloc (.cells #[.slice q.a q.n q.cap] 73)) = w2 at X3 X4 X5 hb2 hs2 ⊢
  clear X0 X1 hb1 hs1
  have hRD : RdAt w2 w2.heap.size (w.heap.size + 2) q := ⟨X3, h.below hb2, fun x hx hq => by
    have := h.1.blk x hx hq
    omega⟩
  have M1 := message15 k hk w2 (w.heap.size + 2) q hRD hn
  have t1 : IntKind.i64.wrap k = k := IntWalk.i64_in _ (by omega)
  have HB2 := Lib.hid hb2
  have HX4 := Lib.hid X4
  have HX5 := Lib.hid X5
  have HS2 := Lib.hid hs2
  clear hRD X3 X4 X5 hb2 hs2 h
  cases hok : okB (fm k) q.v with
  | true =>
    have M2 : Calls Try.prog 46 #[.pointer (some ⟨w.heap.size + 2, 0, none⟩), .int .i64 k] w2 fun e w' => (∃ x : Ms15, e = .returned (.agg #[.int .i64 x.kind, .int .i64 x.n0, .int .i64 x.n1, .int .i64 x.n2, .int .i64 x.n3, .int .i64 x.n4, .int .i64 x.n5, .int .i64 x.n6, .slice x.li.a x.li.n x.li.cap]) ∧ ∃ g : Rw, withL (rdN (fm k) k q.v 7) g = x ∧ g.In .i32 w' ∧ g.v = lsB (fm k) q.v ∧ g.n = g.v.length ∧ (∀ a, g.a = some a → w2.heap.size ≤ a.block)) ∧ w2.grownBy w' (some (w.heap.size + 2)) := M1.mono (fun e w' h => by
      have h1 := h.1
      unfold MsgE at h1
      rw [hok, if_pos rfl] at h1
      obtain ⟨g, rfl, h2, h3, h4, h5⟩ := h1
      exact ⟨⟨_, rfl, g, rfl, h2, h3, h4, h5⟩, h.2⟩)
    have HOK := Lib.hid hok
    clear M1 hok
    go_wp2_with fail
    refine M2.mono ?_
    rintro e w3 ⟨⟨x, rfl, g, hx, hgi, hgv, hgn, hgb⟩, hg3⟩
    have Y4 : Hid (Box w3 w.heap.size 24 #[.int .i64 0, .int .i64 0, .int .i64 0, .int .i64 0, .int .i64 0, .int .i64 0, .int .i64 0, .int .i64 0, .slice none 0 0]) := Lib.hid (HX4.out.kept hg3 (by simp))
    have Y5 := HX5.out.kept hg3 (by simp)
    have hsz := hg3.size
    have HB3 : Hid (Below w.heap.size w w3) := Lib.hid (HB2.out.grown hg3 (by rw [HS2.out]; omega) (fun b e => by cases e; omega))
    have c5 : w3.cell? ⟨w.heap.size + 1, 0, none⟩ = some (.int .i64 0) := Y5.cell 0
    have f5 : w3.frozen? ⟨w.heap.size + 1, 0, none⟩ = false := Y5.frozen 0
    have HX := Lib.hid (And.intro hx (And.intro hgi (And.intro hgv (And.intro hgn hgb))))
    have HY5 := Lib.hid Y5
    clear M2 hx hgi hgv hgn hgb hg3 hsz Y5
    have c5b : (w3.setRow w.heap.size #[.int .i64 x.kind, .int .i64 x.n0, .int .i64 x.n1, .int .i64 x.n2, .int .i64 x.n3, .int .i64 x.n4, .int .i64 x.n5, .int .i64 x.n6, .slice x.li.a x.li.n x.li.cap]).cell? ⟨w.heap.size + 1, 0, none⟩ = some (.int .i64 0) := (HY5.out.kept (grownBy_setRow w3 w.heap.size #[.int .i64 x.kind, .int .i64 x.n0, .int .i64 x.n1, .int .i64 x.n2, .int .i64 x.n3, .int .i64 x.n4, .int .i64 x.n5, .int .i64 x.n6, .slice x.li.a x.li.n x.li.cap]) (by simp)).cell 0
    have f5b : (w3.setRow w.heap.size #[.int .i64 x.kind, .int .i64 x.n0, .int .i64 x.n1, .int .i64 x.n2, .int .i64 x.n3, .int .i64 x.n4, .int .i64 x.n5, .int .i64 x.n6, .slice x.li.a x.li.n x.li.cap]).frozen? ⟨w.heap.size + 1, 0, none⟩ = false := (HY5.out.kept (grownBy_setRow w3 w.heap.size #[.int .i64 x.kind, .int .i64 x.n0, .int .i64 x.n1, .int .i64 x.n2, .int .i64 x.n3, .int .i64 x.n4, .int .i64 x.n5, .int .i64 x.n6, .slice x.li.a x.li.n x.li.cap]) (by simp)).frozen 0
    go_wp2_with (refine wpList_store_row (o := ⟨none, .store _ _ _, _, _, _, _⟩) rfl 24 _ _ rfl w.heap.size #[.int .i64 x.kind, .int .i64 x.n0, .int .i64 x.n1, .int .i64 x.n2, .int .i64 x.n3, .int .i64 x.n4, .int .i64 x.n5, .int .i64 x.n6, .slice x.li.a x.li.n x.li.cap] rfl rfl 24 _ Y4.out (by kernel_rfl) rfl (by simp [Value.oneCell']) ?_)
    refine leaves_cons (f := 45) (args := #[.pointer (some ⟨w.heap.size + 1, 0, none⟩)]) (by simp) (by simp [go_sem]) ?_
    refine (catch15_idle ⟨w.heap.size + 1, 0, none⟩ _).mono ?_
    rintro e u' w'' ⟨rfl, rfl, rfl⟩
    have hgs := grownBy_setRow w3 w.heap.size #[.int .i64 x.kind, .int .i64 x.n0, .int .i64 x.n1, .int .i64 x.n2, .int .i64 x.n3, .int .i64 x.n4, .int .i64 x.n5, .int .i64 x.n6, .slice x.li.a x.li.n x.li.cap]
    have hgc := grownBy_setCell (w3.setRow w.heap.size #[.int .i64 x.kind, .int .i64 x.n0, .int .i64 x.n1, .int .i64 x.n2, .int .i64 x.n3, .int .i64 x.n4, .int .i64 x.n5, .int .i64 x.n6, .slice x.li.a x.li.n x.li.cap]) (w.heap.size + 1) 0 (.int .i64 0)
    have Z4 : Box ((w3.setRow w.heap.size #[.int .i64 x.kind, .int .i64 x.n0, .int .i64 x.n1, .int .i64 x.n2, .int .i64 x.n3, .int .i64 x.n4, .int .i64 x.n5, .int .i64 x.n6, .slice x.li.a x.li.n x.li.cap]).setCell ⟨w.heap.size + 1, 0, none⟩ (.int .i64 0)) w.heap.size 24 #[.int .i64 x.kind, .int .i64 x.n0, .int .i64 x.n1, .int .i64 x.n2, .int .i64 x.n3, .int .i64 x.n4, .int .i64 x.n5, .int .i64 x.n6, .slice x.li.a x.li.n x.li.cap] := Box.kept (setRow_heap _ _ _ _ _ (0, 0) Y4.out) hgc (by simp)
    have Z5 : ((w3.setRow w.heap.size #[.int .i64 x.kind, .int .i64 x.n0, .int .i64 x.n1, .int .i64 x.n2, .int .i64 x.n3, .int .i64 x.n4, .int .i64 x.n5, .int .i64 x.n6, .slice x.li.a x.li.n x.li.cap]).setCell ⟨w.heap.size + 1, 0, none⟩ (.int .i64 0)).cell? ⟨w.heap.size + 1, 0, none⟩ = some (.int .i64 0) := ((HY5.out.kept hgs (by simp)).set 0 (.int .i64 0)).cell 0
    have hB5 : Below w.heap.size w ((w3.setRow w.heap.size #[.int .i64 x.kind, .int .i64 x.n0, .int .i64 x.n1, .int .i64 x.n2, .int .i64 x.n3, .int .i64 x.n4, .int .i64 x.n5, .int .i64 x.n6, .slice x.li.a x.li.n x.li.cap]).setCell ⟨w.heap.size + 1, 0, none⟩ (.int .i64 0)) := (HB3.out.grown hgs (by have := HB3.out.size; omega) (fun b e => by cases e; omega)).grown hgc (by simp; have := HB3.out.size; omega) (fun b e => by cases e; omega)
    show Leaves _ _ _ _ [] FrameMode.returning _
    refine ⟨_, results_row_cell rfl rfl Z4 Try.underlying24 rfl (by kernel_rfl) rfl Z5 Try.underlying28, ?_, hB5⟩
    obtain ⟨h1, h2, h3, h4, h5⟩ := HX.out
    unfold ReadE
    rw [HOK.out, if_pos rfl]
    refine ⟨g, by rw [h1]; rfl, ?_, h3, h4, fun a ha => by have := h5 a ha; have := HS2.out; omega⟩
    exact rw_other (rw_other h2 (fun a ha _ => by have := h5 a ha; have := HS2.out; omega) hgs) (fun a ha _ => by have := h5 a ha; have := HS2.out; omega) hgc
  | false =>
    have M2 : Calls Try.prog 46 #[.pointer (some ⟨w.heap.size + 2, 0, none⟩), .int .i64 k] w2 fun e w' => Brk e ∧ w2.grownBy w' (some (w.heap.size + 2)) := M1.mono (fun e w' h => by
      have h1 := h.1
      unfold MsgE at h1
      rw [hok, if_neg (by decide)] at h1
      exact ⟨h1, h.2⟩)
    have HOK := Lib.hid hok
    clear M1 hok
    go_wp2_with fail
    refine M2.mono ?_
    rintro e w3 ⟨hbrk, hg3⟩
    unfold Brk at hbrk
    subst hbrk
    have Y4 : Hid (Box w3 w.heap.size 24 #[.int .i64 0, .int .i64 0, .int .i64 0, .int .i64 0, .int .i64 0, .int .i64 0, .int .i64 0, .int .i64 0, .slice none 0 0]) := Lib.hid (HX4.out.kept hg3 (by simp))
    have Y5 := HX5.out.kept hg3 (by simp)
    have HB3 : Hid (Below w.heap.size w w3) := Lib.hid (HB2.out.grown hg3 (by rw [HS2.out]; omega) (fun b e => by cases e; omega))
    have c5 : w3.cell? ⟨w.heap.size + 1, 0, none⟩ = some (.int .i64 0) := Y5.cell 0
    have f5 : w3.frozen? ⟨w.heap.size + 1, 0, none⟩ = false := Y5.frozen 0
    clear M2 hg3
    go_wp2_with fail
    refine leaves_cons (f := 45) (args := #[.pointer (some ⟨w.heap.size + 1, 0, none⟩)]) (by simp) (by simp [go_sem]) ?_
    refine (catch15_panicking ⟨w.heap.size + 1, 0, none⟩ 0 _ c5 f5).mono ?_
    rintro e u' w'' ⟨rfl, rfl, rfl⟩
    have hgc := grownBy_setCell w3 (w.heap.size + 1) 0 (.int .i64 150)
    have Z4 : Box (w3.setCell ⟨w.heap.size + 1, 0, none⟩ (.int .i64 150)) w.heap.size 24 #[.int .i64 0, .int .i64 0, .int .i64 0, .int .i64 0, .int .i64 0, .int .i64 0, .int .i64 0, .int .i64 0, .slice none 0 0] := Y4.out.kept hgc (by simp)
    have Z5 : (w3.setCell ⟨w.heap.size + 1, 0, none⟩ (.int .i64 150)).cell? ⟨w.heap.size + 1, 0, none⟩ = some (.int .i64 150) := (Y5.set 0 (.int .i64 150)).cell 0
    have hB5 : Below w.heap.size w (w3.setCell ⟨w.heap.size + 1, 0, none⟩ (.int .i64 150)) := HB3.out.grown hgc (by have := HB3.out.size; omega) (fun b e => by cases e; omega)
    show Leaves _ _ _ _ [] FrameMode.returning _
    refine ⟨_, results_row_cell rfl rfl Z4 Try.underlying24 rfl (by kernel_rfl) rfl Z5 Try.underlying28, ?_, hB5⟩
    unfold ReadE
    rw [HOK.out, if_neg (by decide)]

theorem results_row_t15 {P : Program} {fn : Func} {p u : Tmp} {ty : TypeId} (h : fn.results = #[.cell p ty, .tmp u]) {tmps : Array Value} {w : World} {g : Nat} {T : TypeId} {cs : Array Value} {d : TypeDesc} (hp : tmps.getD p undef = .pointer (some ⟨g, 0, none⟩)) (hg : Box w g T cs) (hu : P.underlying ty = some d) (hd : (match d with | .struct _ | .array _ _ => true | _ => false) = true) (hi : (P.info? ty).map (·.size) = some cs.size) {v : Value} (hv : tmps.getD u undef = v) :
    (results fn tmps).run P w = .ok (.tuple #[.agg cs, v]) w := by
  have hl := run_loadVar_row (P := P) w g T ty cs (0, 0) d hg hu hd hi
  rw [results_cell_tmp h, hp, hv]
  simp [hl, asAddr]

/-- a frame's body -/
def bdy (xs : List Int) : List Int := (xs.drop 8).take (xs.length - 12)
/-- a frame's kind -/
def knd (xs : List Int) : Int := xs.getD 3 0
/-- the first error of a message's bytes -/
def flt15 (xs : List Int) : Nat := if flt xs ≠ 0 then flt xs else if okB (fm (knd xs)) (bdy xs) then 0 else 150
/-- what Parse answers -/
def PmsgE (xs : List Int) (e : Ending) (w' : World) : Prop :=
  (flt15 xs = 0 → ∃ x : Ms15, e = .returned (.tuple #[.agg #[.int .i64 x.kind, .int .i64 x.n0, .int .i64 x.n1, .int .i64 x.n2, .int .i64 x.n3, .int .i64 x.n4, .int .i64 x.n5, .int .i64 x.n6, .slice x.li.a x.li.n x.li.cap], .int .i64 0]) ∧ x.In w' ∧ ∃ g : Rw, withL (rdN (fm (knd xs)) (knd xs) (bdy xs) 7) g = x ∧ g.v = lsB (fm (knd xs)) (bdy xs) ∧ g.n = g.v.length) ∧
  (flt15 xs ≠ 0 → e = .returned (.tuple #[.agg #[.int .i64 0, .int .i64 0, .int .i64 0, .int .i64 0, .int .i64 0, .int .i64 0, .int .i64 0, .int .i64 0, .slice none 0 0], .int .i64 (flt15 xs : Nat)]))

set_option maxHeartbeats 3200000 in
set_option maxRecDepth 100000 in
theorem parse15 (q : Rw) (w : World) (h : q.In .u8 w) (hn : q.n ≤ 1073741824) :
    Calls Try.prog 15 #[.slice q.a q.n q.cap] w fun e w' => PmsgE q.v e w' ∧ Below w.heap.size w w' := by
  have hqw := h.1.2.2.1
  have hql := h.1.1
  have X0 : Box (w.alloc (.cells #[.int .i64 0, .int .i64 0, .int .i64 0, .int .i64 0, .int .i64 0, .int .i64 0, .int .i64 0, .int .i64 0, .slice none 0 0] 24)) w.heap.size 24 #[.int .i64 0, .int .i64 0, .int .i64 0, .int .i64 0, .int .i64 0, .int .i64 0, .int .i64 0, .int .i64 0, .slice none 0 0] := box_new _ _ _
  have hb0 : Below w.heap.size w (w.alloc (.cells #[.int .i64 0, .int .i64 0, .int .i64 0, .int .i64 0, .int .i64 0, .int .i64 0, .int .i64 0, .int .i64 0, .slice none 0 0] 24)) := (Below.refl _ _).alloc (Nat.le_refl _) _
  go_enter Try.func15, Try.ntmps15
  go_upto_region 1 with fail
  have hs0 : (w.alloc (.cells #[.int .i64 0, .int .i64 0, .int .i64 0, .int .i64 0, .int .i64 0, .int .i64 0, .int .i64 0, .int .i64 0, .slice none 0 0] 24)).heap.size = w.heap.size + 1 := World.size_alloc _ _
  generalize (w.alloc (.cells #[.int .i64 0, .int .i64 0, .int .i64 0, .int .i64 0, .int .i64 0, .int .i64 0, .int .i64 0, .int .i64 0, .slice none 0 0] 24)) = w1 at X0 hb0 hs0 ⊢
  have P1 := parse14 q w1 (h.below hb0) hn
  clear h
  go_wp2_with fail
  refine P1.mono ?_
  rintro e w2 ⟨k, g, rfl, hgi, hyes, hno, hb2⟩
  have HX2 := Lib.hid (X0.bel hb2)
  have HB2 := Lib.hid (hb0.trans (hb2.mono (by omega)))
  have HS2 : Hid (w.heap.size + 1 ≤ w2.heap.size) := Lib.hid (by rw [← hs0]; exact hb2.size)
  clear P1 X0 hb0 hs0 hb2
  by_cases hf : flt q.v = 0
  · obtain ⟨rfl, hgv⟩ := hyes hf
    have hcs := csz_le (flt_ok hf).1
    have hln := (flt_ok hf).2.1
    have hgl : g.n = q.v.length - 12 := by
      rw [← hgi.1.1, hgv, List.length_take, List.length_drop]; omega
    have hkw := wfu8 (getD_wf (k := .u8) hqw (by decide) 3)
    have R1 := read15 (q.v.getD 3 0) (by omega) w2 g hgi (by omega)
    have HGV : Hid (g.v = bdy q.v) := Lib.hid hgv
    have HFL : Hid (flt15 q.v = if okB (fm (knd q.v)) (bdy q.v) then 0 else 150) := Lib.hid (by unfold flt15; rw [hf]; rfl)
    have HKN : Hid (q.v.getD 3 0 = knd q.v) := Lib.hid rfl
    have HKB : Hid (0 ≤ knd q.v ∧ knd q.v ≤ 255) := Lib.hid (by unfold knd; omega)
    have HBW : Hid (∀ y ∈ bdy q.v, (Lit.int .u8 y).wf = true) := Lib.hid (fun y hy => hqw y (List.mem_of_mem_drop (List.mem_of_mem_take hy)))
    rw [hf]
    rw [HGV.out, HKN.out] at R1
    clear hyes hno hgi hgv hcs hln hgl hkw hqw
    rw [HKN.out]
    cases hok : okB (fm (knd q.v)) (bdy q.v) with
    | true =>
      have R2 : Calls Try.prog 30 #[.int .u8 (knd q.v), .slice g.a g.n g.cap] w2 fun e w' => (∃ x : Ms15, e = .returned (.tuple #[.agg #[.int .i64 x.kind, .int .i64 x.n0, .int .i64 x.n1, .int .i64 x.n2, .int .i64 x.n3, .int .i64 x.n4, .int .i64 x.n5, .int .i64 x.n6, .slice x.li.a x.li.n x.li.cap], .int .i64 0]) ∧ ∃ g : Rw, withL (rdN (fm (knd q.v)) (knd q.v) (bdy q.v) 7) g = x ∧ g.In .i32 w' ∧ g.v = lsB (fm (knd q.v)) (bdy q.v) ∧ g.n = g.v.length ∧ (∀ a, g.a = some a → w2.heap.size ≤ a.block)) ∧ Below w2.heap.size w2 w' := R1.mono (fun e w' h => by
        have h1 := h.1
        unfold ReadE at h1
        rw [hok, if_pos rfl] at h1
        obtain ⟨g, rfl, h2, h3, h4, h5⟩ := h1
        exact ⟨⟨_, rfl, g, rfl, h2, h3, h4, h5⟩, h.2⟩)
      have HZ : Hid (flt15 q.v = 0) := Lib.hid (by rw [HFL.out, hok]; rfl)
      clear R1 hok
      go_wp2_with fail
      refine R2.mono ?_
      rintro e w3 ⟨⟨x, rfl, gl, hx, hgi, hgv, hgn, hgb⟩, hb3⟩
      have X3 := Lib.hid (HX2.out.bel hb3)
      have HB3 : Hid (Below w.heap.size w w3) := Lib.hid (HB2.out.trans (hb3.mono (by have := HS2.out; omega)))
      have HG := Lib.hid (And.intro hx (And.intro hgi (And.intro hgv (And.intro hgn hgb))))
      clear R2 hx hgi hgv hgn hgb hb3
      go_wp2_with (refine wpList_store_row (o := ⟨none, .store _ _ _, _, _, _, _⟩) rfl 24 _ _ rfl w.heap.size #[.int .i64 x.kind, .int .i64 x.n0, .int .i64 x.n1, .int .i64 x.n2, .int .i64 x.n3, .int .i64 x.n4, .int .i64 x.n5, .int .i64 x.n6, .slice x.li.a x.li.n x.li.cap] rfl rfl 24 _ X3.out (by kernel_rfl) rfl (by simp [Value.oneCell']) ?_)
      have hgs := grownBy_setRow w3 w.heap.size #[.int .i64 x.kind, .int .i64 x.n0, .int .i64 x.n1, .int .i64 x.n2, .int .i64 x.n3, .int .i64 x.n4, .int .i64 x.n5, .int .i64 x.n6, .slice x.li.a x.li.n x.li.cap]
      have Z4 : Box (w3.setRow w.heap.size #[.int .i64 x.kind, .int .i64 x.n0, .int .i64 x.n1, .int .i64 x.n2, .int .i64 x.n3, .int .i64 x.n4, .int .i64 x.n5, .int .i64 x.n6, .slice x.li.a x.li.n x.li.cap]) w.heap.size 24 #[.int .i64 x.kind, .int .i64 x.n0, .int .i64 x.n1, .int .i64 x.n2, .int .i64 x.n3, .int .i64 x.n4, .int .i64 x.n5, .int .i64 x.n6, .slice x.li.a x.li.n x.li.cap] := setRow_heap _ _ _ _ _ (0, 0) X3.out
      refine bodyPost_ret (v := .tuple #[.agg #[.int .i64 x.kind, .int .i64 x.n0, .int .i64 x.n1, .int .i64 x.n2, .int .i64 x.n3, .int .i64 x.n4, .int .i64 x.n5, .int .i64 x.n6, .slice x.li.a x.li.n x.li.cap], .int .i64 0]) (results_row_t15 rfl rfl Z4 Try.underlying24 rfl (by kernel_rfl) rfl) rfl ⟨⟨fun _ => ?_, fun h0 => absurd HZ.out h0⟩, HB3.out.grown hgs HB3.out.size (fun b e => by cases e; omega)⟩
      obtain ⟨h1, h2, h3, h4, h5⟩ := HG.out
      have hgi2 : gl.In .i32 (w3.setRow w.heap.size #[.int .i64 x.kind, .int .i64 x.n0, .int .i64 x.n1, .int .i64 x.n2, .int .i64 x.n3, .int .i64 x.n4, .int .i64 x.n5, .int .i64 x.n6, .slice x.li.a x.li.n x.li.cap]) := rw_other h2 (fun a ha _ => by have := h5 a ha; have := HS2.out; omega) hgs
      have hxi := rd_in (f := fm (knd q.v)) HBW.out HKB.out hgi2
      rw [h1] at hxi
      exact ⟨x, rfl, hxi, gl, h1, h3, h4⟩
    | false =>
      have R2 : Calls Try.prog 30 #[.int .u8 (knd q.v), .slice g.a g.n g.cap] w2 fun e w' => e = .returned (.tuple #[.agg #[.int .i64 0, .int .i64 0, .int .i64 0, .int .i64 0, .int .i64 0, .int .i64 0, .int .i64 0, .int .i64 0, .slice none 0 0], .int .i64 150]) ∧ Below w2.heap.size w2 w' := R1.mono (fun e w' h => by
        have h1 := h.1
        unfold ReadE at h1
        rw [hok, if_neg (by decide)] at h1
        exact ⟨h1, h.2⟩)
      have HZ : Hid (flt15 q.v = 150) := Lib.hid (by rw [HFL.out, hok]; rfl)
      clear R1 hok
      go_wp2_with fail
      refine R2.mono ?_
      rintro e w3 ⟨rfl, hb3⟩
      have X3 := Lib.hid (HX2.out.bel hb3)
      have HB3 : Hid (Below w.heap.size w w3) := Lib.hid (HB2.out.trans (hb3.mono (by have := HS2.out; omega)))
      clear R2 hb3
      go_wp2_with (refine wpList_store_row (o := ⟨none, .store _ _ _, _, _, _, _⟩) rfl 24 _ _ rfl w.heap.size #[.int .i64 0, .int .i64 0, .int .i64 0, .int .i64 0, .int .i64 0, .int .i64 0, .int .i64 0, .int .i64 0, .slice none 0 0] rfl rfl 24 _ X3.out (by kernel_rfl) rfl (by simp [Value.oneCell']) ?_)
      have hgs := grownBy_setRow w3 w.heap.size #[.int .i64 0, .int .i64 0, .int .i64 0, .int .i64 0, .int .i64 0, .int .i64 0, .int .i64 0, .int .i64 0, .slice none 0 0]
      have Z4 : Box (w3.setRow w.heap.size #[.int .i64 0, .int .i64 0, .int .i64 0, .int .i64 0, .int .i64 0, .int .i64 0, .int .i64 0, .int .i64 0, .slice none 0 0]) w.heap.size 24 #[.int .i64 0, .int .i64 0, .int .i64 0, .int .i64 0, .int .i64 0, .int .i64 0, .int .i64 0, .int .i64 0, .slice none 0 0] := setRow_heap _ _ _ _ _ (0, 0) X3.out
      exact bodyPost_ret (v := .tuple #[.agg #[.int .i64 0, .int .i64 0, .int .i64 0, .int .i64 0, .int .i64 0, .int .i64 0, .int .i64 0, .int .i64 0, .slice none 0 0], .int .i64 150]) (results_row_t15 rfl rfl Z4 Try.underlying24 rfl (by kernel_rfl) rfl) rfl ⟨⟨(fun h0 => by rw [HZ.out] at h0; cases h0), (fun _ => by rw [HZ.out]; rfl)⟩, HB3.out.grown hgs HB3.out.size (fun b e => by cases e; omega)⟩
  · have HZ : Hid (flt15 q.v = flt q.v) := Lib.hid (by unfold flt15; rw [if_pos hf])
    have hf2 : ((flt q.v : Int) != 0) = true := by simp; omega
    generalize flt q.v = fl at hf hf2 HZ ⊢
    have hfz := hf
    clear hyes hno hgi hqw hql
    go_wp2_with (refine wpList_store_row (o := ⟨none, .store _ _ _, _, _, _, _⟩) rfl 24 _ _ rfl w.heap.size #[.int .i64 0, .int .i64 0, .int .i64 0, .int .i64 0, .int .i64 0, .int .i64 0, .int .i64 0, .int .i64 0, .slice none 0 0] rfl rfl 24 _ HX2.out (by kernel_rfl) rfl (by simp [Value.oneCell']) ?_)
    have hgs := grownBy_setRow w2 w.heap.size #[.int .i64 0, .int .i64 0, .int .i64 0, .int .i64 0, .int .i64 0, .int .i64 0, .int .i64 0, .int .i64 0, .slice none 0 0]
    have Z4 : Box (w2.setRow w.heap.size #[.int .i64 0, .int .i64 0, .int .i64 0, .int .i64 0, .int .i64 0, .int .i64 0, .int .i64 0, .int .i64 0, .slice none 0 0]) w.heap.size 24 #[.int .i64 0, .int .i64 0, .int .i64 0, .int .i64 0, .int .i64 0, .int .i64 0, .int .i64 0, .int .i64 0, .slice none 0 0] := setRow_heap _ _ _ _ _ (0, 0) HX2.out
    exact bodyPost_ret (v := .tuple #[.agg #[.int .i64 0, .int .i64 0, .int .i64 0, .int .i64 0, .int .i64 0, .int .i64 0, .int .i64 0, .int .i64 0, .slice none 0 0], .int .i64 (fl : Int)]) (results_row_t15 rfl rfl Z4 Try.underlying24 rfl (by kernel_rfl) rfl) rfl ⟨⟨fun h0 => absurd (HZ.out.symm.trans h0) hf, fun _ => by rw [HZ.out]⟩, HB2.out.grown hgs HB2.out.size (fun b e => by cases e; omega)⟩

end Go.Proofs.Ytobogkilkmnpmaa
