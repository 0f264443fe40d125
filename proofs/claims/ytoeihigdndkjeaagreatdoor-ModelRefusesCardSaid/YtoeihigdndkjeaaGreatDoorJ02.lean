import Derived.Test.YtoeihigdndkjeaaGreatDoorJ01
import Derived.Deep.QuietTactic
import Derived.BigQuiet
import Derived.Deep.RegionHeld3
import Derived.WalkSmall
/-
  A block of numbers of whatever kind that the call itself made, known whole; copy into it; one number of 8 bits more, behind a row of the call's own.
-/
namespace Go.Proofs.YtoeihigdndkjeaaGreatDoor
open Go.RowKit
set_option linter.unusedVariables false

theorem info8 : (Tryz.prog.info? 64).map (fun i => (i.zero, i.size, i.bytes)) = some (some (.int .i8 0), 1, 1) := by kernel_rfl
theorem infoInt : (Tryz.prog.info? 3).map (fun i => (i.zero, i.size, i.bytes)) = some (some (.int .i64 0), 1, 8) := by kernel_rfl

/-- block g holds the numbers cs, and none of its cells is frozen -/
def MineK (kd : IntKind) (w : World) (g : Nat) (e : TypeId) (cs : List Int) : Prop := w.heap[g]? = some (.cells (cs.map (Value.int kd)).toArray e (0, 0))

section
variable {kd : IntKind} {w w' : World} {g : Nat} {e : TypeId} {cs : List Int}
theorem MineK.lt (h : MineK kd w g e cs) : g < w.heap.size := (Array.getElem?_eq_some_iff.1 h).1
theorem MineK.cell (h : MineK kd w g e cs) {k : Nat} (hk : k < cs.length) : w.cell? ⟨g, k, none⟩ = some (.int kd (cs.getD k 0)) := by
  rw [cell_of_row w g k _ e (0, 0) h]
  simp [List.getD, hk]
theorem MineK.frozen (h : MineK kd w g e cs) (k : Nat) : w.frozen? ⟨g, k, none⟩ = false := frozen_of_row w g k _ e h
theorem MineK.set (h : MineK kd w g e cs) (k : Nat) (v : Int) : MineK kd (w.setCell ⟨g, k, none⟩ (.int kd v)) g e (cs.set k v) := by
  have := heap_setCell_same w g k _ e (.int kd v) h
  unfold MineK
  rw [this]
  congr 2
  simp [List.map_set]
theorem MineK.kept (h : MineK kd w g e cs) {row : Option Nat} (hg : w.grownBy w' row) (hne : some g ≠ row) : MineK kd w' g e cs := (hg.block g h.lt hne).trans h
theorem MineK.drewN (h : MineK kd w g e cs) (d : Nat) : MineK kd (w.drewN d) g e cs := h
theorem MineK.alloc (h : MineK kd w g e cs) (o : Obj) : MineK kd (w.alloc o) g e cs := h.kept (World.grownBy_alloc w o none) (by simp)
theorem MineK.below {B : Nat} (h : MineK kd w g e cs) (hb : Below B w w') (hg : g < B) : MineK kd w' g e cs := (hb.block g hg).trans h
end

theorem MineK.elems {kd : IntKind} {w : World} {g n : Nat} {e : TypeId} {cs : List Int} (h : MineK kd w g e cs) (hl : cs.length = n) (hn : n ≤ 9223372036854775807) (hw : ∀ x ∈ cs, (Lit.int kd x).wf = true) : Elems kd w (some ⟨g, 0, none⟩) n cs :=
  ⟨hl, hn, hw, fun _ => ⟨g, 0, rfl, fun i hi => by rw [Nat.zero_add]; exact h.cell (by omega)⟩⟩
/-- copy into a block that is known whole: of it, its row of cells behind, and what of the world stays -/
theorem wpList_copy_mineK {kd : IntKind} {P : Program} {w : World} {ops : Array Oper} {rest : List Oper} {o : Oper} {a : Act} {Q : Exit → Act → World → Prop} (hgd : o.guard = none) (d s : Operand) (dT sT : TypeId)
    (ho : o.op = .call { callee := .builtin .copy, args := #[d, s], argTypes := #[dT, sT] }) (elem : TypeId) (hu : P.underlying dT = some (.slice elem)) (hsz : (P.info? elem).map (·.size) = some 1)
    (dp sp : Option Addr) (dLen dCap sLen sCap : Nat) (hd : a.eval d = .slice dp dLen dCap) (hs : a.eval s = .slice sp sLen sCap)
    (g off : Nat) (cur : List Int) (t : TypeId) (hg : MineK kd w g t cur) (cs : List Int) (hn : cs.length = Nat.min sLen dLen)
    (hpos : 0 < cs.length → dp = some ⟨g, off, none⟩ ∧ Elems kd w sp cs.length cs)
    (hfit : off + cs.length ≤ cur.length)
    (h : ∀ w', MineK kd w' g t (splice cur off cs) → w.grownBy w' (some g) → wpList P ops Q rest (a.put o.dst (goInt cs.length)) w') :
    wpList P ops Q (o :: rest) a w := by
  by_cases h0 : cs.length = 0
  · obtain rfl : cs = [] := List.eq_nil_of_length_eq_zero h0
    refine wpList_copy_nothing hgd d s dT sT ho elem hu hsz dp sp dLen dCap sLen sCap hd hs (by simpa using hn.symm) ?_
    exact h w (by simpa [splice] using hg) (grownBy_refl _ _)
  · obtain ⟨rfl, hE⟩ := hpos (by omega)
    obtain ⟨b, so, rfl, hcell⟩ := hE.2.2.2 (by omega)
    have hN := hE.news
    refine wpList_copy_own hgd d s dT sT ho elem hu hsz g off dLen dCap ⟨b, so, none⟩ sLen sCap hd hs _ t hg (cs.map (.int kd)) (by simpa using hn) hN (by simpa using hfit) (ints_one cs) ?_
    have := h (w.setRow g _) (by
      unfold MineK
      have := setRow_heap w g _ ((List.map (Value.int kd) cur).toArray.toList.take off ++ (cs.map (Value.int kd) ++ (List.map (Value.int kd) cur).toArray.toList.drop (off + (cs.map (Value.int kd)).length))).toArray t (0, 0) hg
      rw [this]
      simp [splice, List.map_append, List.map_take, List.map_drop]) (grownBy_setRow w g _)
    simpa using this

/-- copy, as a run -/
theorem run_copy_mineK {kd : IntKind} {P : Program} {w : World} (dT sT ty elem : TypeId) (hu : P.underlying dT = some (.slice elem)) (hsz : (P.info? elem).map (·.size) = some 1)
    (dp sp : Option Addr) (dLen dCap sLen sCap : Nat)
    (g off : Nat) (cur : List Int) (t : TypeId) (hg : MineK kd w g t cur) (cs : List Int) (hn : cs.length = Nat.min sLen dLen)
    (hpos : 0 < cs.length → dp = some ⟨g, off, none⟩ ∧ Elems kd w sp cs.length cs)
    (hfit : off + cs.length ≤ cur.length) :
    ∃ w', Sem.run P (Builtin.copy_ #[dT, sT] ty #[.slice dp dLen dCap, .slice sp sLen sCap]) w = .ok (.int .i64 (cs.length : Nat)) w' ∧ MineK kd w' g t (splice cur off cs) ∧ w.grownBy w' (some g) := by
  by_cases h0 : cs.length = 0
  · obtain rfl : cs = [] := List.eq_nil_of_length_eq_zero h0
    have hrun := run_copy_none (P := P) w dT sT ty elem dp sp dLen dCap sLen sCap hu hsz (by simpa using hn.symm)
    exact ⟨w, hrun, by simpa [splice] using hg, grownBy_refl _ _⟩
  · obtain ⟨rfl, hE⟩ := hpos (by omega)
    obtain ⟨b, so, rfl, hcell⟩ := hE.2.2.2 (by omega)
    have hN := hE.news
    have hrun := run_copy_row (P := P) w dT sT ty elem g off dLen dCap ⟨b, so, none⟩ sLen sCap _ t (cs.map (.int kd)) hu hsz hg (by simpa using hn) hN (by simpa using hfit) (ints_one cs)
    rw [List.length_map] at hrun
    refine ⟨_, hrun, ?_, grownBy_setRow w g _⟩
    unfold MineK
    rw [setRow_heap w g _ _ t _ hg]
    simp [splice, List.map_append, List.map_take, List.map_drop]

/-- a block of noughts that was just made -/
theorem mine_made (kd : IntKind) (w : World) (T : TypeId) (n : Nat) {b : Nat} (hb : b = w.heap.size) : MineK kd (w.alloc (.cells (madeCells #[Value.int kd 0] n) T)) b T (List.replicate n 0) := by
  subst hb
  have := made_zeros kd n
  rw [Nat.mul_one] at this
  have hh := heap_alloc_new w (.cells (madeCells #[Value.int kd 0] n) T)
  unfold MineK
  rw [hh, ← this]
  rfl

/-- one number more, behind a row of the call's own: the append as a run -/
theorem run_append_one8 (w : World) (base : Nat) (v : Value) (m : Nat) (cs : List Int) (x : Int) (hown : w.ownsRow base 64 1 v m (cs.map (.int .i8))) (hm : m ≤ 16777216) (hbase : base ≤ w.heap.size) :
    ∃ g cap w', Sem.run Tryz.prog (Builtin.append_ #[24, 24] 24 #[v, .slice (some ⟨w.heap.size, 0, none⟩) 1 1]) (w.alloc (.cells #[.int .i8 x] 64)) = .ok (.slice (some ⟨g, 0, none⟩) (m + 1) cap) w' ∧
      w'.ownsRow base 64 1 (.slice (some ⟨g, 0, none⟩) (m + 1) cap) (m + 1) ((cs ++ [x]).map (.int .i8)) ∧ w.grownBy w' v.ownBlock ∧ w.heap.size < w'.heap.size := by
  obtain ⟨i0, hi, hz0, hz1, hz2⟩ : ∃ i, Tryz.prog.info? 64 = some i ∧ i.zero = some (.int .i8 0) ∧ i.size = 1 ∧ i.bytes = 1 := by
    have h := info8
    cases hh : Tryz.prog.info? 64 with
    | none => rw [hh] at h; cases h
    | some i =>
      rw [hh] at h
      simp only [Option.map_some, Option.some.injEq, Prod.mk.injEq] at h
      exact ⟨i, rfl, h.1, h.2.1, h.2.2⟩
  obtain ⟨v', w', hr, h2, h3, _⟩ := run_append_own (P := Tryz.prog) (w.alloc (.cells #[.int .i8 x] 64)) base 24 24 64 i0 _ 1 1 Tryz.underlying24 hi hz0 hz1 hz2 rfl (by omega) v m _ (hown.alloc _)
    ⟨w.heap.size, 0, none⟩ 1 1 [.int .i8 x] rfl (World.news_of_block (cs := #[.int .i8 x]) (t := 64) (fr := (0, 0)) (heap_alloc_new w _)) one_cell (by unfold maxLen; omega) (by omega) (by simp; omega)
  rcases h2.2 with ⟨_, h0⟩ | ⟨g, cap, cur, rfl, hb, hg, hnc, hcm, hcs, ht⟩
  · omega
  · refine ⟨g, cap, w', hr, by simpa using h2, (World.grownBy_alloc w _ _).trans h3, ?_⟩
    have := h3.size
    simp at this
    omega


end Go.Proofs.YtoeihigdndkjeaaGreatDoor

/-
  Rows of numbers, and slices of rows, as they stand in memory; numbers that a literal lays.
-/
namespace Go.Proofs.YtoeihigdndkjeaaGreatDoor
open Go.RowKit
set_option linter.unusedVariables false

/-! ### rows, and slices of rows -/

/-- a row of numbers as it stands: where it lies, and what they are -/
structure Rw where
  a : Option Addr
  n : Nat
  cap : Nat
  v : List Int
deriving Inhabited

/-- the row q may stand so in w -/
def Rw.In (k : IntKind) (w : World) (q : Rw) : Prop := Elems k w q.a q.n q.v ∧ q.n ≤ q.cap ∧ q.cap ≤ 9223372036854775807 ∧ Sl q.a q.cap
theorem Rw.In.below {k : IntKind} {w w' : World} {q : Rw} (h : q.In k w) (hb : Below w.heap.size w w') : q.In k w' := ⟨h.1.below hb, h.2⟩

/-- A slice of rows at a (a matters only where n is above 0). -/
def Rws (k : IntKind) (w : World) (a : Option Addr) (n : Nat) (qs : List Rw) : Prop :=
  qs.length = n ∧ n ≤ 9223372036854775807 ∧ (∀ q ∈ qs, q.In k w) ∧
    (0 < n → ∃ b off, a = some ⟨b, off, none⟩ ∧ ∀ i, i < n → w.cell? ⟨b, off + i, none⟩ = some (.slice (qs.getD i default).a (qs.getD i default).n (qs.getD i default).cap))
theorem Rws.below {k : IntKind} {w w' : World} {a : Option Addr} {n : Nat} {qs : List Rw} (h : Rws k w a n qs) (hb : Below w.heap.size w w') : Rws k w' a n qs := by
  refine ⟨h.1, h.2.1, fun g hg => (h.2.2.1 g hg).below hb, fun hn => ?_⟩
  obtain ⟨b, off, rfl, hc⟩ := h.2.2.2 hn
  refine ⟨b, off, rfl, fun i hi => ?_⟩
  have h0 := hc i hi
  exact (hb.cell (p := ⟨b, _, none⟩) (World.block_lt_of_cell? _ _ h0)).trans h0
/-- one of them, as a round of a loop wants it -/
theorem Rws.at_ {k : IntKind} {w : World} {a : Option Addr} {n : Nat} {qs : List Rw} (h : Rws k w a n qs) {i : Nat} (hi : i < n) :
    ∃ b off q, a = some ⟨b, off, none⟩ ∧ b < w.heap.size ∧ w.cell? ⟨b, off + i, none⟩ = some (.slice q.a q.n q.cap) ∧ Hid (qs.getD i default = q) ∧ q.In k w := by
  obtain ⟨b, off, rfl, hc⟩ := h.2.2.2 (by omega)
  have h0 := hc i hi
  refine ⟨b, off, _, rfl, World.block_lt_of_cell? _ _ h0, h0, Lib.hid rfl, h.2.2.1 _ ?_⟩
  rw [List.getD_eq_getElem?_getD, List.getElem?_eq_getElem (by rw [h.1]; exact hi)]
  exact List.getElem_mem _
theorem Rws.nil_ (k : IntKind) (w : World) (a : Option Addr) : Rws k w a 0 [] := ⟨rfl, by omega, by simp, fun h => absurd h (by omega)⟩
/-- one row, laid in a block of its own -/
theorem rws_one {k : IntKind} {w : World} {T : TypeId} {b : Nat} (q : Rw) (h : q.In k w) (hb : b = w.heap.size) : Rws k (w.alloc (.cells #[.slice q.a q.n q.cap] T)) (some ⟨b, 0, none⟩) 1 [q] := by
  subst hb
  refine ⟨rfl, by omega, ?_, fun _ => ⟨w.heap.size, 0, rfl, fun i hi => ?_⟩⟩
  · intro x hx
    simp only [List.mem_singleton] at hx
    subst hx
    exact h.below ((Below.refl _ _).alloc (Nat.le_refl _) _)
  · obtain rfl : i = 0 := by omega
    simp only [World.cell?_alloc_new]; rfl
/-- two rows -/
theorem rws_two {k : IntKind} {w : World} {T : TypeId} {b : Nat} (p q : Rw) (h : p.In k w) (h2 : q.In k w) (hb : b = w.heap.size) : Rws k (w.alloc (.cells #[.slice p.a p.n p.cap, .slice q.a q.n q.cap] T)) (some ⟨b, 0, none⟩) 2 [p, q] := by
  subst hb
  refine ⟨rfl, by omega, ?_, fun _ => ⟨w.heap.size, 0, rfl, fun i hi => ?_⟩⟩
  · intro x hx
    simp only [List.mem_cons, List.not_mem_nil, or_false] at hx
    rcases hx with rfl | rfl
    · exact h.below ((Below.refl _ _).alloc (Nat.le_refl _) _)
    · exact h2.below ((Below.refl _ _).alloc (Nat.le_refl _) _)
  · match i, hi with
    | 0, _ => simp only [World.cell?_alloc_new]; rfl
    | 1, _ => simp only [World.cell?_alloc_new]; rfl

theorem elems_litK {kd : IntKind} {w : World} {T : TypeId} (xs : List Int) {cs : Array Value} (hcs : cs = (xs.map (Value.int kd)).toArray) {b : Nat} (hb : b = w.heap.size) (hw : ∀ x ∈ xs, (Lit.int kd x).wf = true) (hl : xs.length ≤ 100) {n : Nat} (hn : xs.length = n) : Elems kd (w.alloc (.cells cs T)) (some ⟨b, 0, none⟩) n xs := by
  subst hcs hb hn
  refine ⟨rfl, by omega, hw, fun _ => ⟨w.heap.size, 0, rfl, fun i hi => ?_⟩⟩
  rw [Nat.zero_add, World.cell?_alloc_new]
  simp [List.getD, hi]

theorem rw_in {kd : IntKind} {w : World} {b n : Nat} {xs : List Int} (h : Elems kd w (some ⟨b, 0, none⟩) n xs) (hn : n ≤ 16777216) : Rw.In kd w ⟨some ⟨b, 0, none⟩, n, n, xs⟩ :=
  ⟨h, Nat.le_refl _, by show n ≤ _; omega, ⟨fun e => (by cases e), fun x e _ => (by cases e; rfl)⟩⟩


end Go.Proofs.YtoeihigdndkjeaaGreatDoor

/-
  Contract of Norm: a row brought to one size, in new memory; nothing else turns.
-/
namespace Go.Proofs.YtoeihigdndkjeaaGreatDoor
open Go.RowKit
set_option linter.unusedVariables false

theorem filledBy_range {f : Nat → Int} {n : Nat} {cs : List Int} (h : FilledBy f n n cs) : cs = (List.range n).map f := by
  apply List.ext_getElem (by rw [h.1, List.length_map, List.length_range])
  intro i h1 h2
  have h3 := h.2 i (by rw [← h.1]; exact h1)
  rw [if_pos (by rw [← h.1]; exact h1), List.getD_eq_getElem?_getD, List.getElem?_eq_getElem h1] at h3
  simpa using h3

/-- number i of the row, brought to one size -/
def norm1 (I g x : Int) : Int := near (shr (nr x * I * g) 23) (-128) 127
def norms (I : Int) (gs xs : List Int) (n : Nat) : List Int := (List.range n).map fun i => norm1 I (gs.getD i 0) (xs.getD i 0)
theorem norm1_wf (I g x : Int) : (Lit.int .i8 (norm1 I g x)).wf = true := WalkArith.wf_i8 (near_in _ _ _ (by decide))
theorem norms_wf (I : Int) (gs xs : List Int) (n : Nat) : ∀ c ∈ norms I gs xs n, (Lit.int .i8 c).wf = true := by
  intro c hc
  obtain ⟨i, _, rfl⟩ := List.mem_map.1 hc
  exact norm1_wf _ _ _
/-- the products stay within 64 bits -/
theorem norm_bd (y I g : Int) (y1 : -8388608 ≤ y) (y2 : y ≤ 8388607) (i1 : 0 ≤ I) (i2 : I ≤ 16777216) (g1 : -128 ≤ g) (g2 : g ≤ 127) :
    -140737488355328 ≤ y * I ∧ y * I ≤ 140737488355328 ∧ -18014398509481984 ≤ y * I * g ∧ y * I * g ≤ 18014398509481984 := by
  have h1 : (y * I).natAbs ≤ 8388608 * 16777216 := by rw [Int.natAbs_mul]; exact Nat.mul_le_mul (by omega) (by omega)
  have h2 : (y * I * g).natAbs ≤ 8388608 * 16777216 * 128 := by rw [Int.natAbs_mul]; exact Nat.mul_le_mul h1 (by omega)
  omega

theorem norm_len (ga xa : Option Addr) (n m gcap xcap : Nat) (h : n ≠ m) (hn : n ≤ 9223372036854775807) (hm : m ≤ 9223372036854775807) (w : World) :
    Calls Tryz.prog 65 #[.slice ga n gcap, .slice xa m xcap] w fun e w' => e = .returned (.tuple #[.slice none 0 0, .int .i64 30]) ∧ w = w' := by
  have h' : ((n : Int) != (m : Int)) = true := by simp; omega
  clear h
  go_enter Tryz.func65, Tryz.ntmps65
  go_wp2
  go_ret2
  exact ⟨rfl, rfl⟩

theorem norm_none (ga xa : Option Addr) (gcap xcap : Nat) (w : World) :
    Calls Tryz.prog 65 #[.slice ga 0 gcap, .slice xa 0 xcap] w fun e w' => e = .returned (.tuple #[.slice none 0 0, .int .i64 0]) ∧ w = w' := by
  go_enter Tryz.func65, Tryz.ntmps65
  go_wp2
  go_ret2
  exact ⟨rfl, rfl⟩

set_option maxHeartbeats 1000000 in
theorem norm_some (ga xa : Option Addr) (n gcap xcap : Nat) (gs xs : List Int) (I : Int) (w : World) (hg : Elems .i8 w ga n gs) (hx : Elems .i32 w xa n xs) (h0 : 0 < n) (hn : n ≤ 1000) (hI : IsInv (msq xs) I) :
    Calls Tryz.prog 65 #[.slice ga n gcap, .slice xa n xcap] w fun e w' => (∃ g, e = .returned (.tuple #[.slice (some ⟨g, 0, none⟩) n n, .int .i64 0]) ∧ Elems .i8 w' (some ⟨g, 0, none⟩) n (norms I gs xs n)) ∧ Below w.heap.size w w' := by
  have hmk := run_make_row' (P := Tryz.prog) 24 64 (.int .i8 0) 1 Tryz.underlying24 info8 rfl .i64 .i64 n (by omega) (by omega)
  have hms := mean_square xa n xcap xs w hx h0 (by omega)
  have hmb := msq_bd xs
  have hinv := inverse_is (msq xs) I hmb.1 (by omega) hI
  obtain ⟨i0, i1⟩ := inv_bd hmb.1 hI
  have hne : ((n : Int) != (n : Int)) = false := by simp
  have hz : ((n : Int) == 0) = false := by simp; omega
  generalize msq xs = M at hms hmb hinv hI
  clear hmb hI
  go_enter Tryz.func65, Tryz.ntmps65
  go_wp2_with fail
  refine hms.mono ?_
  rintro e w' ⟨rfl, rfl⟩
  go_wp2_with fail
  refine (hinv _).mono ?_
  rintro e w' ⟨rfl, rfl⟩
  clear hms hinv hne hz
  go_wp2
  go_loopw [32] (fun i wr => ∃ (k : Nat) (cs : List Int), k ≤ n ∧ i = .int .i64 k ∧ MineK .i8 wr w.heap.size 64 cs ∧ Below w.heap.size w wr ∧ Hid (FilledBy (fun i => norm1 I (gs.getD i 0) (xs.getD i 0)) n k cs)) (fun i _ => n - (intOf i).toNat)
  case atStart => exact ⟨0, List.replicate n 0, by omega, rfl, mine_made .i8 w 64 n rfl, (Below.refl _ _).alloc (Nat.le_refl _) _, Lib.hid (filledBy_start _ n)⟩
  case round =>
    obtain ⟨k, cs, hk, rfl, hmine, hbel, hfil⟩ := hrel
    by_cases hlt : k < n
    · obtain ⟨b, off, v, rfl, hc, hv, wv⟩ := (hx.below hbel).at_ hlt
      obtain ⟨b2, off2, u, rfl, hc2, hu, wu⟩ := (hg.below hbel).at_ hlt
      obtain ⟨v1, v2⟩ := wf32 wv
      obtain ⟨u1, u2⟩ := wf8 wu
      have hl := hfil.out.1
      have hold := hmine.cell (k := k) (by omega)
      have hf := hmine.frozen k
      have hfil' : Hid (FilledBy (fun i => norm1 I (gs.getD i 0) (xs.getD i 0)) n (k + 1) (cs.set k (norm1 I u v))) := Lib.hid (by have := filledBy_step hfil.out hlt; simp only [hu.out, hv.out] at this; exact this)
      have hnew := hmine.set k (norm1 I u v)
      have hbel' := hbel.setCell (p := ⟨w.heap.size, k, none⟩) (Nat.le_refl _) (.int .i8 (norm1 I u v))
      have hn1 := near5 v v1 v2
      have hyb := nr_bd v
      have hval : norm1 I u v = near (shr (nr v * I * u) 23) (-128) 127 := rfl
      generalize cs.getD k 0 = c at hold
      generalize nr v = y at hn1 hyb hval
      obtain ⟨p1, p2, p3, p4⟩ := norm_bd y I u hyb.1 hyb.2 i0 i1 u1 u2
      have hsh : ∀ w, Calls Tryz.prog 94 #[.int .i64 (y * I * u), .int .i64 23] w fun e w' => e = .returned (.int .i64 (shr (y * I * u) 23)) ∧ w = w' := fun w => shift _ _ (by omega) (by omega) w
      have hsa := sat8 (shr (y * I * u) 23)
      rw [← hval] at hsa
      generalize norm1 I u v = z at hfil' hnew hbel' hsa hval
      generalize shr (y * I * u) 23 = s at hsh hsa
      have e0 : IntKind.i64.wrap u = u := IntWalk.i64_in _ (by omega)
      have e1 : IntKind.i64.wrap (y * I) = y * I := IntWalk.i64_in _ (by omega)
      have e2 : IntKind.i64.wrap (y * I * u) = y * I * u := IntWalk.i64_in _ (by omega)
      have hb2 : b2 < w.heap.size := hg.blk _ rfl (by omega)
      have hkp : ∀ z, (wr.setCell ⟨w.heap.size, k, none⟩ (.int .i8 z)).drew.cell? ⟨b2, off2 + k, none⟩ = some (.int .i8 u) := fun z =>
        (World.cell?_setCell_other wr ⟨w.heap.size, k, none⟩ ⟨b2, off2 + k, none⟩ _ (by first | (simp; done) | (simp; omega))).trans hc2
      have hkp' := hkp z
      clear hv hu hl hfil hval hmine hbel hmk hb2 hkp
      go_wp2_with fail
      go_region_held3 (fun w' => w'.cell? ⟨b2, off2 + k, none⟩ = some (.int .i8 u)) (first | go_keep | assumption)
        (first
          | (go_at_call 95; (with_reducible refine (hn1 _).mono ?_); rintro e w' ⟨rfl, rfl⟩)
          | (go_at_call 94; (with_reducible refine (hsh _).mono ?_); rintro e w' ⟨rfl, rfl⟩)
          | (go_at_call 93; (with_reducible refine (hsa _).mono ?_); rintro e w' ⟨rfl, rfl⟩))
      clear e0 e1 e2 hn1 hsh hsa hkp'
      go_wp2
      go_roundw
      case rel => exact ⟨k + 1, cs.set k z, by omega, by go_num, hnew, hbel'.drew, hfil'⟩
      case measure => simp [intOf]; omega
    · obtain rfl : k = n := by omega
      have he := filledBy_range hfil.out
      have hE := hmine.elems (n := k) (by rw [he]; simp) (by omega) (by rw [he]; exact norms_wf I gs xs k)
      rw [he] at hE
      have HE := Lib.hid hE
      clear hg hx he hE hmine hfil
      go_wp2
      go_ret2
      exact ⟨⟨_, rfl, HE.out⟩, hbel⟩

theorem norm_any (ga xa : Option Addr) (n gcap xcap : Nat) (gs xs : List Int) (I : Int) (w : World) (hg : Elems .i8 w ga n gs) (hx : Elems .i32 w xa n xs) (hn : n ≤ 1000) (hI : IsInv (msq xs) I) :
    Calls Tryz.prog 65 #[.slice ga n gcap, .slice xa n xcap] w fun e w' => (∃ b c, e = .returned (.tuple #[.slice b n c, .int .i64 0]) ∧ Elems .i8 w' b n (norms I gs xs n)) ∧ Below w.heap.size w w' := by
  by_cases h0 : n = 0
  · subst h0
    exact (norm_none ga xa gcap xcap w).mono (by rintro e w' ⟨rfl, rfl⟩; exact ⟨⟨none, 0, rfl, Elems.nil_ _ _ _⟩, Below.refl _ _⟩)
  · exact (norm_some ga xa n gcap xcap gs xs I w hg hx (by omega) hn hI).mono (by rintro e w' ⟨⟨g, rfl, hE⟩, hb⟩; exact ⟨⟨_, _, rfl, hE⟩, hb⟩)

end Go.Proofs.YtoeihigdndkjeaaGreatDoor

/-
  The table of powers of 2: its numbers, and what a world is said to hold of it.
-/
namespace Go.Proofs.YtoeihigdndkjeaaGreatDoor
open Go.RowKit
set_option linter.unusedVariables false

/-- the table's numbers -/
def ptab : List Int := [65536, 64132, 62757, 61413, 60097, 58809, 57549, 56316, 55109, 53928, 52773, 51642, 50535, 49452, 48393, 47356, 46341, 45348, 44376, 43425, 42495, 41584, 40693, 39821, 38968, 38133, 37316, 36516, 35734, 34968, 34219, 33486, 32768]
/-- the program's table holds them -/
def Tab (w : World) : Prop := ∀ i, i < 33 → w.cell? ⟨1, i, none⟩ = some (.int .i64 (ptab.getD i 0))

theorem Tab.below {w w' : World} (h : Tab w) (hb : Below w.heap.size w w') : Tab w' := fun i hi => (hb.cell (p := ⟨1, i, none⟩) (World.block_lt_of_cell? _ _ (h i hi))).trans (h i hi)
theorem Tab.drewN {w : World} (h : Tab w) (d : Nat) : Tab (w.drewN d) := h

theorem tab_bd : ∀ i, i < 33 → 32768 ≤ ptab.getD i 0 ∧ ptab.getD i 0 ≤ 65536 := by decide
theorem tab_falls : ∀ i, i < 32 → 1 ≤ ptab.getD i 0 - ptab.getD (i + 1) 0 ∧ ptab.getD i 0 - ptab.getD (i + 1) 0 ≤ 1404 := by decide
theorem tab_mono : ∀ i, i < 33 → ∀ j, j ≤ i → ptab.getD i 0 ≤ ptab.getD j 0 := by decide +kernel

/-- two to the power of -f, between the table's places -/
def btw (f : Int) : Int := ptab.getD (f / 2048).toNat 0 - half ((ptab.getD (f / 2048).toNat 0 - ptab.getD ((f / 2048).toNat + 1) 0) * (f % 2048)) 2048

theorem shr_eleven (x : Int) : shr x 11 = half x 2048 := by
  have h : near 11 0 62 = 11 := by decide
  unfold shr; rw [h]; rfl

theorem half_bd (x P : Int) : x / P ≤ half x P ∧ half x P ≤ x / P + 1 := by unfold half; split <;> omega

/-- what is taken off: from 0 to the step -/
theorem off_bd (D r : Int) (hD : 1 ≤ D) (h0 : 0 ≤ r) (h1 : r < 2048) : 0 ≤ D * r ∧ D * r ≤ D * 2047 ∧ 0 ≤ half (D * r) 2048 ∧ half (D * r) 2048 ≤ D := by
  have h2 : 0 ≤ D * r := Int.mul_nonneg (by omega) h0
  have h3 : D * r ≤ D * 2047 := Int.mul_le_mul_of_nonneg_left (by omega) (by omega)
  have h4 := half_bd (D * r) 2048
  omega

theorem btw_bd (f : Int) (h0 : 0 ≤ f) (h1 : f < 65536) : 32768 ≤ btw f ∧ btw f ≤ 65536 ∧ ptab.getD ((f / 2048).toNat + 1) 0 ≤ btw f ∧ btw f ≤ ptab.getD (f / 2048).toNat 0 := by
  have hi : (f / 2048).toNat < 32 := by omega
  have a := tab_bd (f / 2048).toNat (by omega)
  have b := tab_bd ((f / 2048).toNat + 1) (by omega)
  have c := tab_falls (f / 2048).toNat hi
  have d := off_bd (ptab.getD (f / 2048).toNat 0 - ptab.getD ((f / 2048).toNat + 1) 0) (f % 2048) c.1 (by omega) (by omega)
  unfold btw
  omega

end Go.Proofs.YtoeihigdndkjeaaGreatDoor

/-
  Contracts of between and Exp: in a world whose table holds the document's numbers Exp returns E(x) and makes no memory.
-/
namespace Go.Proofs.YtoeihigdndkjeaaGreatDoor
open Go.RowKit
set_option linter.unusedVariables false

theorem between (f : Int) (h0 : 0 ≤ f) (h1 : f < 65536) (w : World) (hT : Tab w) :
    Calls Tryz.prog 143 #[.int .i64 f] w fun e w' => e = .returned (.int .i64 (btw f)) ∧ ∃ d, w' = w.drewN d := by
  obtain ⟨i, hi⟩ : ∃ i : Nat, f / 2048 = (i : Int) := ⟨(f / 2048).toNat, by omega⟩
  have hi2 : i < 32 := by omega
  have hm : bits .and .i64 f 2047 = f % 2048 := by have := and_mask f 11 (by decide); simpa using this
  have ha := hT i (by omega)
  have hb := hT (i + 1) (by omega)
  have a1 := tab_bd i (by omega)
  have a2 := tab_falls i hi2
  have hbt : btw f = ptab.getD i 0 - half ((ptab.getD i 0 - ptab.getD (i + 1) 0) * (f % 2048)) 2048 := by unfold btw; rw [hi]; rfl
  rw [hbt]
  clear hbt hT
  obtain ⟨p, hp⟩ : ∃ p, ptab.getD i 0 = p := ⟨_, rfl⟩
  obtain ⟨q, hq⟩ : ∃ q, ptab.getD (i + 1) 0 = q := ⟨_, rfl⟩
  obtain ⟨r, hr⟩ : ∃ r, f % 2048 = r := ⟨_, rfl⟩
  have r0 : 0 ≤ r ∧ r < 2048 := by omega
  rw [hp] at ha a1 a2 ⊢
  rw [hq] at hb a2 ⊢
  rw [hr] at hm ⊢
  obtain ⟨m0, m1, m2, m3⟩ := off_bd (p - q) r a2.1 r0.1 r0.2
  have hs : ∀ w, Calls Tryz.prog 94 #[.int .i64 ((p - q) * r), .int .i64 11] w fun e w' => e = .returned (.int .i64 (half ((p - q) * r) 2048)) ∧ w' = w := fun w => (by
    rw [← shr_eleven]; exact (shift _ _ (by omega) (by omega) w).mono (fun e w' h => ⟨h.1, h.2.symm⟩))
  clear hp hq hr
  go_enter Tryz.func143, Tryz.ntmps143
  go_wp2
  go_quiet (first | (go_at_call 94; refine Calls.quiet_of_same (hs _)))
  go_wp2
  go_ret
  exact ⟨rfl, _, rfl⟩

/-- E(x) -/
def E (x : Int) : Int := if 0 < x then 65536 else if x ≤ -1453643 then 0 else shr (btw (-x * 94548 / 65536 % 65536)) (-x * 94548 / 65536 / 65536)

theorem half_nonneg (x P : Int) (hx : 0 ≤ x) (hP : 1 ≤ P) : 0 ≤ half x P := by
  have h := half_bd x P
  have := Int.ediv_nonneg hx (show 0 ≤ P by omega)
  omega
theorem half_le (x P : Int) (hx : 0 ≤ x) (hP : 2 ≤ P) : half x P ≤ x := by
  have h := half_bd x P
  rcases Int.lt_or_le x 1 with h1 | h1
  · obtain rfl : x = 0 := by omega
    unfold half
    rw [Int.zero_emod, Int.zero_ediv, if_neg (by omega)]; omega
  · have : x / P < x := Int.ediv_lt_self_of_pos_of_ne_one (by omega) (by omega)
    omega
theorem shr_bd (v q : Int) (hv : 0 ≤ v) : 0 ≤ shr v q ∧ shr v q ≤ v := by
  unfold shr
  obtain ⟨n1, n2⟩ := near_in q 0 62 (by decide)
  split
  · omega
  · rename_i hne
    have h1 := pow_bounds (near q 0 62) n1 n2
    have h2 := pow_half (near q 0 62) (by omega)
    have h3 : (1 : Int) ≤ 2 ^ ((near q 0 62).toNat - 1) := by
      have := pow_bounds (near q 0 62 - 1) (by omega) (by omega)
      rw [show (near q 0 62 - 1).toNat = (near q 0 62).toNat - 1 by omega] at this
      exact this.1
    exact ⟨half_nonneg _ _ hv h1.1, half_le _ _ hv (by omega)⟩

theorem E_bd (x : Int) : 0 ≤ E x ∧ E x ≤ 65536 := by
  unfold E
  split
  · omega
  · split
    · omega
    · have h1 := btw_bd (-x * 94548 / 65536 % 65536) (by omega) (by omega)
      have h2 := shr_bd (btw (-x * 94548 / 65536 % 65536)) (-x * 94548 / 65536 / 65536) (by omega)
      omega

theorem exp (x : Int) (h1 : -9223372036854775808 ≤ x) (h2 : x ≤ 9223372036854775807) (w : World) (hT : Tab w) :
    Calls Tryz.prog 140 #[.int .i64 x] w fun e w' => e = .returned (.int .i32 (E x)) ∧ ∃ d, w' = w.drewN d := by
  by_cases c0 : 0 < x
  · have hE : E x = 65536 := by unfold E; rw [if_pos c0]
    rw [hE]
    go_enter Tryz.func140, Tryz.ntmps140
    go_wp2
    go_ret
    exact ⟨rfl, 0, rfl⟩
  · by_cases c1 : x ≤ -1453643
    · have hE : E x = 0 := by unfold E; rw [if_neg c0, if_pos c1]
      rw [hE]
      go_enter Tryz.func140, Tryz.ntmps140
      go_wp2
      go_ret
      exact ⟨rfl, 0, rfl⟩
    · have hE : E x = shr (btw (-x * 94548 / 65536 % 65536)) (-x * 94548 / 65536 / 65536) := by unfold E; rw [if_neg c0, if_neg c1]
      have hB := btw_bd (-x * 94548 / 65536 % 65536) (by omega) (by omega)
      have hS := shr_bd (btw (-x * 94548 / 65536 % 65536)) (-x * 94548 / 65536 / 65536) (by omega)
      rw [hE]
      clear hE
      obtain ⟨t, ht⟩ : ∃ t, -x * 94548 / 65536 = t := ⟨_, rfl⟩
      have t0 : 0 ≤ t ∧ t < 2097152 := by omega
      rw [ht] at hB hS ⊢
      have hm : bits .and .i64 t 65535 = t % 65536 := by have := and_mask t 16 (by decide); simpa using this
      have hb := between (t % 65536) (by omega) (by omega) w hT
      have hsh : ∀ d, Calls Tryz.prog 94 #[.int .i64 (btw (t % 65536)), .int .i64 (t / 65536)] (w.drewN d) fun e w' => e = .returned (.int .i64 (shr (btw (t % 65536)) (t / 65536))) ∧ w.drewN d = w' := fun d => shift _ _ (by omega) (by omega) _
      obtain ⟨v, hv⟩ : ∃ v, btw (t % 65536) = v := ⟨_, rfl⟩
      rw [hv] at hB hS hsh hb ⊢
      obtain ⟨s, hs⟩ : ∃ s, shr v (t / 65536) = s := ⟨_, rfl⟩
      rw [hs] at hS hsh ⊢
      clear hv hs hT
      go_enter Tryz.func140, Tryz.ntmps140
      go_wp2_with fail
      refine hb.mono ?_
      rintro e w' ⟨rfl, d, rfl⟩
      go_wp2_with fail
      refine (hsh _).mono ?_
      rintro e w' ⟨rfl, rfl⟩
      go_wp2
      go_ret
      exact ⟨rfl, _, rfl⟩

end Go.Proofs.YtoeihigdndkjeaaGreatDoor

/-
  Contract of Exps: for every list of up to 1000 numbers it returns a new slice of E of each; what was in memory stays.
-/
namespace Go.Proofs.YtoeihigdndkjeaaGreatDoor
open Go.RowKit
set_option linter.unusedVariables false

theorem E_wf (x : Int) : (Lit.int .i32 (E x)).wf = true := by have := E_bd x; exact WalkArith.wf_i32 ⟨by omega, by omega⟩

set_option maxHeartbeats 800000 in
theorem exps (a : Option Addr) (n cap : Nat) (xs : List Int) (w : World) (h : Elems .i64 w a n xs) (hn : n ≤ 1000) (hT : Tab w) :
    Calls Tryz.prog 132 #[.slice a n cap] w fun e w' => ∃ g, e = .returned (.slice (some ⟨g, 0, none⟩) n n) ∧ Elems .i32 w' (some ⟨g, 0, none⟩) n (xs.map E) ∧ Below w.heap.size w w' := by
  have hmk := run_make_row' (P := Tryz.prog) 36 21 (.int .i32 0) 4 Tryz.underlying36 info_int32 rfl .i64 .i64 n (by omega) (by omega)
  go_enter Tryz.func132, Tryz.ntmps132
  go_wp2
  go_loopw [11] (fun i wr => ∃ (k : Nat) (cs : List Int), k ≤ n ∧ i = .int .i64 k ∧ wr.ownsRow w.heap.size 21 1 (.slice (some ⟨w.heap.size, 0, none⟩) n n) n (cs.map (.int .i32)) ∧ Below w.heap.size w wr ∧ Hid (FilledBy (fun i => E (xs.getD i 0)) n k cs)) (fun i _ => n - (intOf i).toNat)
  case atStart =>
    have hown := World.ownsRow_lit (e := 21) (size := 1) w (madeCells #[Value.int .i32 0] n) n (Nat.le_refl _) (by unfold maxLen; omega) (by rw [size_madeCells, Nat.mul_one])
    refine ⟨0, List.replicate n 0, by omega, rfl, ?_, (Below.refl _ _).alloc (Nat.le_refl _) _, Lib.hid (filledBy_start _ n)⟩
    rw [← made_zeros .i32 n, Nat.mul_one]
    exact hown
  case round =>
    obtain ⟨k, cs, hk, rfl, hown, hbel, hfil⟩ := hrel
    by_cases hlt : k < n
    · have hE := h.below hbel
      obtain ⟨b, off, v, rfl, hc, hv, wv⟩ := hE.at_ hlt
      obtain ⟨v1, v2⟩ := wf64 wv
      have hf := hown.frozenAt k
      have hold : wr.cell? ⟨w.heap.size, k, none⟩ = some (.int .i32 (cs.getD k 0)) := by
        have hl := hfil.out.1
        rw [hown.cellAt k (by omega), List.getElem?_map, List.getD_eq_getElem?_getD, List.getElem?_eq_getElem (by omega)]; rfl
      obtain ⟨c, hcc⟩ : ∃ c, cs.getD k 0 = c := ⟨_, rfl⟩
      rw [hcc] at hold
      clear hcc
      have hq := exp v v1 v2 wr (hT.below hbel)
      have hfil' : Hid (FilledBy (fun i => E (xs.getD i 0)) n (k + 1) (cs.set k (E v))) := Lib.hid (by have := filledBy_step hfil.out hlt; rwa [hv.out] at this)
      have hnew : ∀ d, ((wr.drewN d).setCell ⟨w.heap.size, k, none⟩ (.int .i32 (E v))).ownsRow w.heap.size 21 1 (.slice (some ⟨w.heap.size, 0, none⟩) n n) n ((cs.set k (E v)).map (.int .i32)) := fun d => by
        have hown' : (wr.drewN d).ownsRow w.heap.size 21 1 (.slice (some ⟨w.heap.size, 0, none⟩) n n) n (cs.map (.int .i32)) := hown
        have := (hown'.stored k (.int .i32 (E v))).1
        rwa [← List.map_set] at this
      have hbel' : ∀ d, Below w.heap.size w ((wr.drewN d).setCell ⟨w.heap.size, k, none⟩ (.int .i32 (E v))) := fun d => (below_drewN hbel d).setCell (p := ⟨w.heap.size, k, none⟩) (Nat.le_refl _) _
      obtain ⟨y, hy⟩ : ∃ y, E v = y := ⟨_, rfl⟩
      rw [hy] at hq hfil' hnew hbel'
      clear hv hfil hE h hown hbel hT hy
      go_wp2_with fail
      refine hq.mono ?_
      rintro e w' ⟨rfl, d, rfl⟩
      go_wp2
      go_roundw
      case rel => exact ⟨k + 1, cs.set k y, by omega, by go_num, hnew d, hbel' d, hfil'⟩
      case measure => simp [intOf]; omega
    · obtain rfl : k = n := by omega
      have he := filledBy_end (g := E) hfil.out h.1 (fun i _ => rfl)
      have HE := Lib.hid he
      clear h he hT
      go_wp2
      go_ret
      exact ⟨w.heap.size, rfl, by rw [← HE.out]; exact own_elems hown (by omega) (by rw [HE.out]; intro c hc; obtain ⟨x, _, rfl⟩ := List.mem_map.1 hc; exact E_wf x), hbel⟩

end Go.Proofs.YtoeihigdndkjeaaGreatDoor

/-
  Contract of Shares: for every total and every list of up to 1000 numbers it returns a new slice of the shares; what was in memory stays.
-/
namespace Go.Proofs.YtoeihigdndkjeaaGreatDoor
open Go.RowKit
set_option linter.unusedVariables false

/-- a weight: x, where it is above 0 -/
def pos (x : Int) : Int := if 0 < x then x else 0
/-- the weights' sum -/
def stot (xs : List Int) : Int := (xs.map pos).sum
/-- the share of x of the total t, where the weights' sum is S -/
def share (t S x : Int) : Int := if S = 0 ∨ t < 0 then 0 else pos x * t / S

theorem pos_bd (x : Int) (h : x ≤ 2147483647) : 0 ≤ pos x ∧ pos x ≤ 2147483647 := by unfold pos; split <;> omega
theorem stot_step (xs : List Int) (k : Nat) (hk : k < xs.length) : stot (xs.take (k + 1)) = stot (xs.take k) + pos (xs.getD k 0) := by
  unfold stot
  rw [List.take_add_one, List.map_append, List.sum_append]
  simp [List.getD, List.getElem?_eq_getElem hk]
theorem tot_bd (xs : List Int) (h : ∀ x ∈ xs, x ≤ 2147483647) : 0 ≤ stot xs ∧ stot xs ≤ xs.length * 2147483647 := by
  induction xs with
  | nil => simp [stot]
  | cons x xs ih =>
    have h1 := ih (fun y hy => h y (List.mem_cons_of_mem _ hy))
    have h2 := pos_bd x (h x List.mem_cons_self)
    have e : stot (x :: xs) = pos x + stot xs := by simp [stot]
    rw [e, List.length_cons]; push_cast; omega
theorem pos_le_tot (xs : List Int) (h : ∀ x ∈ xs, x ≤ 2147483647) : ∀ x ∈ xs, pos x ≤ stot xs := by
  induction xs with
  | nil => simp
  | cons y ys ih =>
    intro x hx
    have h1 := tot_bd ys (fun z hz => h z (List.mem_cons_of_mem _ hz))
    have h2 := pos_bd y (h y List.mem_cons_self)
    have e : stot (y :: ys) = pos y + stot ys := by simp [stot]
    rw [e]
    rcases List.mem_cons.1 hx with rfl | hm
    · omega
    · have := ih (fun z hz => h z (List.mem_cons_of_mem _ hz)) x hm; omega

/-- one share, in its bounds -/
theorem share_bd {t S p : Int} (hS : 0 < S) (ht : 0 ≤ t) (ht2 : t ≤ 2147483647) (hp : 0 ≤ p) (hp2 : p ≤ 2147483647) (hpS : p ≤ S) :
    0 ≤ p * t ∧ p * t ≤ 4611686014132420609 ∧ 0 ≤ p * t / S ∧ p * t / S ≤ t := by
  have h1 : 0 ≤ p * t := Int.mul_nonneg hp ht
  have h2 : p * t ≤ 2147483647 * 2147483647 := Int.mul_le_mul hp2 ht2 ht (by decide)
  have h3 : p * t ≤ S * t := Int.mul_le_mul_of_nonneg_right hpS ht
  refine ⟨h1, by omega, Int.ediv_nonneg h1 (by omega), ?_⟩
  have h4 : p * t / S ≤ S * t / S := Int.ediv_le_ediv hS h3
  rwa [Int.mul_ediv_cancel_left _ (by omega)] at h4

theorem share_wf {t : Int} {xs : List Int} (hx : ∀ x ∈ xs, x ≤ 2147483647) (ht2 : t ≤ 2147483647) : ∀ c ∈ xs.map (share t (stot xs)), (Lit.int .i32 c).wf = true := by
  intro c hc
  obtain ⟨x, hm, rfl⟩ := List.mem_map.1 hc
  have h1 := pos_bd x (hx x hm)
  have h2 := pos_le_tot xs hx x hm
  have h3 := tot_bd xs hx
  unfold share
  split
  · rfl
  · rename_i hne
    have h4 := share_bd (t := t) (S := stot xs) (p := pos x) (by omega) (by omega) ht2 h1.1 h1.2 h2
    exact WalkArith.wf_i32 ⟨by omega, by omega⟩

theorem zero_wf (n : Nat) : ∀ c ∈ List.replicate n (0 : Int), (Lit.int .i32 c).wf = true := by
  intro c hc; rw [List.eq_of_mem_replicate hc]; rfl

theorem zeros_share {t : Int} {xs : List Int} {n : Nat} (hl : xs.length = n) (h : stot xs = 0 ∨ t < 0) : List.replicate n 0 = xs.map (share t (stot xs)) := by
  apply List.ext_getElem (by simp [hl])
  intro i h1 h2
  simp [share, h]

set_option maxHeartbeats 800000 in
theorem shares_at (t : Int) (a : Option Addr) (n cap : Nat) (xs : List Int) (w : World) (h : Elems .i32 w a n xs) (hn : n ≤ 1000) (ht1 : -2147483648 ≤ t) (ht2 : t ≤ 2147483647) :
    Calls Tryz.prog 131 #[.int .i32 t, .slice a n cap] w fun e w' => e = .returned (.slice (some ⟨w.heap.size, 0, none⟩) n n) ∧ Elems .i32 w' (some ⟨w.heap.size, 0, none⟩) n (xs.map (share t (stot xs))) ∧ Below w.heap.size w w' := by
  have hmk := run_make_row' (P := Tryz.prog) 36 21 (.int .i32 0) 4 Tryz.underlying36 info_int32 rfl .i64 .i64 n (by omega) (by omega)
  have hx : ∀ x ∈ xs, x ≤ 2147483647 := fun x hm => (wf32 (h.2.2.1 x hm)).2
  have hT := tot_bd xs hx
  have hlen := h.1
  rw [hlen] at hT
  have HX := Lib.hid hx
  have HL := Lib.hid hlen
  clear hlen
  go_enter Tryz.func131, Tryz.ntmps131
  go_wp2
  go_loop [6, 16] (fun s i => ∃ (k : Nat) (q : Int), k ≤ n ∧ i = .int .i64 k ∧ s = .int .i64 q ∧ Hid (q = stot (xs.take k)) ∧ 0 ≤ q ∧ q ≤ k * 2147483647) (fun _ i => n - (intOf i).toNat)
  case atStart => exact ⟨0, 0, by omega, rfl, rfl, Lib.hid (by simp [stot]), by omega, by omega⟩
  case round =>
    obtain ⟨k, q, hk, rfl, rfl, hq, q0, q1⟩ := hrel
    have hE := h.below ((Below.refl _ w).alloc (Nat.le_refl _) (Obj.cells (madeCells #[Value.int .i32 0] n) 21))
    by_cases hlt : k < n
    · obtain ⟨b, off, v, rfl, hc, hv, wv⟩ := hE.at_ hlt
      obtain ⟨v1, v2⟩ := wf32 wv
      have hst : Hid (q + pos v = stot (xs.take (k + 1))) := Lib.hid (by rw [stot_step xs k (by rw [HL.out]; exact hlt), hq.out, hv.out])
      clear hE h hx hT hv wv hq
      by_cases hp : 0 < v
      · have e : pos v = v := by unfold pos; rw [if_pos hp]
        rw [e] at hst
        clear e
        go_wp2
        go_round
        case rel => exact ⟨k + 1, q + v, by omega, by go_num, rfl, hst, by omega, by push_cast; omega⟩
        case measure => simp [intOf]; omega
      · have e : pos v = 0 := by unfold pos; rw [if_neg hp]
        rw [e] at hst
        clear e
        go_wp2
        go_round
        case rel => exact ⟨k + 1, q, by omega, by go_num, by go_num, Lib.hid (by have := hst.out; omega), by omega, by push_cast; omega⟩
        case measure => simp [intOf]; omega
    · obtain rfl : k = n := by omega
      obtain rfl : q = stot xs := by rw [hq.out, List.take_of_length_le (by rw [HL.out]; omega)]
      have hzero : (stot xs = 0 ∨ t < 0) → Elems .i32 (w.alloc (Obj.cells (madeCells #[Value.int .i32 0] k) 21)) (some ⟨w.heap.size, 0, none⟩) k (xs.map (share t (stot xs))) := by
        intro hz
        have hown := World.ownsRow_lit (e := 21) (size := 1) w (madeCells #[Value.int IntKind.i32 0] k) k (Nat.le_refl _) (by unfold maxLen; omega) (by rw [size_madeCells, Nat.mul_one])
        have e := made_zeros .i32 k
        rw [Nat.mul_one] at e
        rw [← zeros_share HL.out hz]
        rw [show (madeCells #[Value.int IntKind.i32 0] k).toList = (List.replicate k 0).map (Value.int .i32) from e] at hown
        exact own_elems hown (by omega) (zero_wf k)
      have HZ := Lib.hid hzero
      clear hzero hx hq q1 hE
      by_cases c0 : stot xs = 0
      · have HC := Lib.hid c0
        have c0' : (stot xs == 0) = true := by simpa using c0
        clear c0 h hT
        go_wp2
        go_ret
        exact ⟨rfl, HZ.out (.inl HC.out), (Below.refl _ _).alloc (Nat.le_refl _) _⟩
      · have c0' : (stot xs == 0) = false := by simpa using c0
        by_cases c1 : t < 0
        · clear h hT c0
          go_wp2
          go_ret
          exact ⟨rfl, HZ.out (.inr c1), (Below.refl _ _).alloc (Nat.le_refl _) _⟩
        · have hS : 0 < stot xs := by omega
          obtain ⟨S, hSe⟩ : ∃ S, stot xs = S := ⟨_, rfl⟩
          rw [hSe] at hS c0' hT c0 ⊢
          have HS := Lib.hid hSe
          clear HZ hSe c0
          go_wp2
          go_loopw [35] (fun i wr => ∃ (j : Nat) (cs : List Int), j ≤ k ∧ i = .int .i64 j ∧ wr.ownsRow w.heap.size 21 1 (.slice (some ⟨w.heap.size, 0, none⟩) k k) k (cs.map (.int .i32)) ∧ Below w.heap.size w wr ∧ Hid (FilledBy (fun i => share t S (xs.getD i 0)) k j cs)) (fun i _ => k - (intOf i).toNat)
          case atStart =>
            have hown := World.ownsRow_lit (e := 21) (size := 1) w (madeCells #[Value.int IntKind.i32 0] k) k (Nat.le_refl _) (by unfold maxLen; omega) (by rw [size_madeCells, Nat.mul_one])
            refine ⟨0, List.replicate k 0, by omega, rfl, ?_, (Below.refl _ _).alloc (Nat.le_refl _) _, Lib.hid (filledBy_start _ k)⟩
            rw [← made_zeros .i32 k, Nat.mul_one]
            exact hown
          case round =>
            obtain ⟨j, cs, hj, rfl, hown, hbel, hfil⟩ := hrel
            by_cases hlt2 : j < k
            · have hE := h.below hbel
              obtain ⟨b, off, v, rfl, hc, hv, wv⟩ := hE.at_ hlt2
              obtain ⟨v1, v2⟩ := wf32 wv
              have hp1 := pos_bd v v2
              have hpS : pos v ≤ S := by
                rw [← HS.out]; refine pos_le_tot xs HX.out v ?_
                rw [← hv.out]; exact getD_mem (by rw [HL.out]; exact hlt2)
              obtain ⟨b0, b1, b2, b3⟩ := share_bd (t := t) (S := S) (p := pos v) hS (by omega) ht2 hp1.1 hp1.2 hpS
              have hsh : share t S v = pos v * t / S := by unfold share; rw [if_neg (by omega)]
              have hf := hown.frozenAt j
              have hold : wr.cell? ⟨w.heap.size, j, none⟩ = some (.int .i32 (cs.getD j 0)) := by
                have hl := hfil.out.1
                rw [hown.cellAt j (by omega), List.getElem?_map, List.getD_eq_getElem?_getD, List.getElem?_eq_getElem (by omega)]; rfl
              obtain ⟨c, hcc⟩ : ∃ c, cs.getD j 0 = c := ⟨_, rfl⟩
              rw [hcc] at hold
              have hnew := (hown.stored j (.int .i32 (share t S v))).1
              have hbel' := hbel.setCell (p := ⟨w.heap.size, j, none⟩) (Nat.le_refl _) (.int .i32 (share t S v))
              have hfil' : Hid (FilledBy (fun i => share t S (xs.getD i 0)) k (j + 1) (cs.set j (share t S v))) := Lib.hid (by have := filledBy_step hfil.out hlt2; rwa [hv.out] at this)
              rw [← List.map_set] at hnew
              rw [hsh] at hnew hbel' hfil'
              have hz : (S == 0) = false := by simp; omega
              clear hcc hv hfil hE h hown hbel hsh hT
              by_cases hp : 0 < v
              · have e : pos v = v := by unfold pos; rw [if_pos hp]
                rw [e] at b0 b1 b2 b3 hnew hbel' hfil'
                clear e hp1 hpS
                go_wp2
                go_roundw
                case rel => exact ⟨j + 1, _, by omega, by go_num, hnew, hbel', hfil'⟩
                case measure => simp [intOf]; omega
              · have e : pos v = 0 := by unfold pos; rw [if_neg hp]
                rw [e, Int.zero_mul, Int.zero_ediv] at hnew hbel' hfil'
                clear e hp1 hpS b0 b1 b2 b3
                have hm : (if v < 0 then (0 : Int) else v) = 0 := by split <;> omega
                go_wp2
                go_roundw
                case rel => exact ⟨j + 1, _, by omega, by go_num, hnew, hbel', hfil'⟩
                case measure => simp [intOf]; omega
            · obtain rfl : j = k := by omega
              have hwf := share_wf (t := t) HX.out ht2
              rw [HS.out] at hwf
              have he := filledBy_end (g := share t S) hfil.out HL.out (fun i _ => rfl)
              have HW := Lib.hid hwf
              have HE := Lib.hid he
              clear h hwf he hT
              go_wp2
              go_ret
              exact ⟨rfl, by rw [HS.out, ← HE.out]; exact own_elems hown (by omega) (by rw [HE.out]; exact HW.out), hbel⟩

theorem shares (t : Int) (a : Option Addr) (n cap : Nat) (xs : List Int) (w : World) (h : Elems .i32 w a n xs) (hn : n ≤ 1000) (ht1 : -2147483648 ≤ t) (ht2 : t ≤ 2147483647) :
    Calls Tryz.prog 131 #[.int .i32 t, .slice a n cap] w fun e w' => ∃ g, e = .returned (.slice (some ⟨g, 0, none⟩) n n) ∧ Elems .i32 w' (some ⟨g, 0, none⟩) n (xs.map (share t (stot xs))) ∧ Below w.heap.size w w' :=
  (shares_at t a n cap xs w h hn ht1 ht2).mono fun e w' h => ⟨_, h⟩

end Go.Proofs.YtoeihigdndkjeaaGreatDoor

/-
  Contracts of Argmax and of the document's Argmax: for every list of numbers each returns the first place of a greatest one, -1 of none; they read memory alone.
-/
namespace Go.Proofs.YtoeihigdndkjeaaGreatDoor
open Go.RowKit
set_option linter.unusedVariables false

/-- b is the first place of a greatest one among the first k numbers, -1 of none -/
def Best (xs : List Int) (k : Nat) (b : Int) : Prop :=
  (k = 0 ∧ b = -1) ∨ ∃ j : Nat, b = j ∧ j < k ∧ (∀ i, i < k → xs.getD i 0 ≤ xs.getD j 0) ∧ ∀ i, i < j → xs.getD i 0 < xs.getD j 0

theorem best_uniq {xs : List Int} {k : Nat} {b c : Int} (h : Best xs k b) (h' : Best xs k c) : b = c := by
  rcases h with ⟨h0, rfl⟩ | ⟨j, rfl, hj, h1, h2⟩
  · rcases h' with ⟨_, rfl⟩ | ⟨j, _, hj, _⟩
    · rfl
    · omega
  · rcases h' with ⟨h0, _⟩ | ⟨i, rfl, hi, h3, h4⟩
    · omega
    · rcases Nat.lt_trichotomy i j with hlt | rfl | hgt
      · have := h2 i hlt; have := h3 j hj; omega
      · rfl
      · have := h4 j hgt; have := h1 i hi; omega

theorem best_start (xs : List Int) : Best xs 0 (-1) := .inl ⟨rfl, rfl⟩
theorem best_first {xs : List Int} {b : Int} (h : Best xs 0 b) : Best xs 1 0 := by
  refine .inr ⟨0, rfl, by omega, fun i hi => ?_, fun i hi => by omega⟩
  obtain rfl : i = 0 := by omega
  exact Int.le_refl _
theorem best_new {xs : List Int} {k j : Nat} (h : Best xs k j) (hlt : xs.getD j 0 < xs.getD k 0) : Best xs (k + 1) k := by
  rcases h with ⟨_, h0⟩ | ⟨j', he, hj, h1, h2⟩
  · omega
  · obtain rfl : j' = j := by omega
    refine .inr ⟨k, rfl, by omega, fun i hi => ?_, fun i hi => ?_⟩
    · rcases Nat.lt_or_ge i k with h | h
      · have := h1 i h; omega
      · obtain rfl : i = k := by omega
        exact Int.le_refl _
    · have := h1 i hi; omega
theorem best_old {xs : List Int} {k j : Nat} (h : Best xs k j) (hle : ¬ xs.getD j 0 < xs.getD k 0) : Best xs (k + 1) j := by
  rcases h with ⟨_, h0⟩ | ⟨j', he, hj, h1, h2⟩
  · omega
  · obtain rfl : j' = j := by omega
    refine .inr ⟨j', rfl, by omega, fun i hi => ?_, h2⟩
    rcases Nat.lt_or_ge i k with h | h
    · exact h1 i h
    · obtain rfl : i = k := by omega
      omega
theorem best_is {xs : List Int} {k : Nat} {b : Int} (h : Best xs k b) (hk : k ≠ 0) : ∃ j : Nat, b = j ∧ j < k := by
  rcases h with ⟨h0, _⟩ | ⟨j, he, hj, _⟩
  · exact absurd h0 hk
  · exact ⟨j, he, hj⟩
theorem best_exists (xs : List Int) (k : Nat) : ∃ b, Best xs k b := by
  induction k with
  | zero => exact ⟨-1, best_start xs⟩
  | succ k ih =>
    obtain ⟨b, hb⟩ := ih
    by_cases h0 : k = 0
    · subst h0; exact ⟨0, best_first hb⟩
    · obtain ⟨j, rfl, hj⟩ := best_is hb h0
      by_cases hlt : xs.getD j 0 < xs.getD k 0
      · exact ⟨k, best_new hb hlt⟩
      · exact ⟨j, best_old hb hlt⟩

set_option maxHeartbeats 400000 in
theorem argmax (a : Option Addr) (n cap : Nat) (xs : List Int) (w : World) (h : Elems .i32 w a n xs) (B : Int) (hB : Best xs n B) :
    Calls Tryz.prog 57 #[.slice a n cap] w fun e w' => e = .returned (.int .i64 B) ∧ w = w' := by
  have hn := h.2.1
  have HB := Lib.hid hB
  clear hB
  go_enter Tryz.func57, Tryz.ntmps57
  go_wp2
  go_loop [3, 8] (fun s i => ∃ (k : Nat) (b : Int), k ≤ n ∧ i = .int .i64 k ∧ s = .int .i64 b ∧ Hid (Best xs k b)) (fun _ i => n - (intOf i).toNat)
  case atStart => exact ⟨0, -1, by omega, rfl, rfl, Lib.hid (best_start xs)⟩
  case round =>
    obtain ⟨k, b, hk, rfl, rfl, hb⟩ := hrel
    by_cases hlt : k < n
    · by_cases h0 : k = 0
      · obtain ⟨g, off, v, rfl, hc, hv, wv⟩ := h.at_ hlt
        subst h0
        rw [Nat.add_zero] at hc
        have T := Lib.hid (best_first hb.out)
        obtain rfl : b = -1 := best_uniq hb.out (best_start xs)
        clear hv wv h hb
        go_wp2
        go_round
        case rel => exact ⟨1, 0, by omega, rfl, rfl, T⟩
        case measure => simp [intOf]; omega
      · obtain ⟨j, rfl, hj⟩ := best_is hb.out h0
        obtain ⟨g, off, v, rfl, hc, hv, wv⟩ := h.at_ hlt
        obtain ⟨g', off', u, he, hc', hu, wu⟩ := h.at_ (i := j) (by omega)
        simp only [Option.some.injEq, Addr.mk.injEq] at he
        obtain ⟨rfl, rfl, _⟩ := he
        by_cases hgt : u < v
        · have T := Lib.hid (best_new hb.out (by rw [hu.out, hv.out]; exact hgt))
          clear hv wv h hb hu wu
          go_wp2
          go_round
          case rel => exact ⟨k + 1, k, by omega, by go_num, rfl, T⟩
          case measure => simp [intOf]; omega
        · have T := Lib.hid (best_old hb.out (by rw [hu.out, hv.out]; exact hgt))
          clear hv wv h hb hu wu
          go_wp2
          go_round
          case rel => exact ⟨k + 1, j, by omega, by go_num, rfl, T⟩
          case measure => simp [intOf]; omega
    · obtain rfl : k = n := by omega
      clear h
      go_wp2
      go_ret
      exact ⟨ret_int (best_uniq hb.out HB.out), rfl⟩

end Go.Proofs.YtoeihigdndkjeaaGreatDoor

/-
  Plain mathematics of shifting down to the nearest: never farther than half a step, exact at a multiple, odd, and it keeps orders.
-/
namespace Go.Proofs.YtoeihigdndkjeaaGreatDoor
open Go.RowKit
set_option linter.unusedVariables false

theorem half_dist (x D : Int) (hD : 1 ≤ D) : -D ≤ 2 * (half x D * D - x) ∧ 2 * (half x D * D - x) ≤ D := by
  have h := Int.emod_add_mul_ediv x D
  have h0 := Int.emod_nonneg x (b := D) (by omega)
  have h1 := Int.emod_lt_of_pos x (b := D) (by omega)
  unfold half
  split
  · rw [Int.add_mul, Int.mul_comm (x / D) D]; omega
  · rw [Int.mul_comm (x / D) D]; omega

theorem half_mul (x D : Int) (hD : 1 ≤ D) : half (x * D) D = x := by
  unfold half
  rw [Int.mul_emod_left, Int.mul_ediv_cancel _ (by omega), if_neg (by omega)]

theorem neg_divmod (x D : Int) (hD : 1 ≤ D) :
    (x % D = 0 → (-x) / D = -(x / D) ∧ (-x) % D = 0) ∧ (x % D ≠ 0 → (-x) / D = -(x / D) - 1 ∧ (-x) % D = D - x % D) := by
  have h := Int.emod_add_mul_ediv x D
  have h0 := Int.emod_nonneg x (b := D) (by omega)
  have h1 := Int.emod_lt_of_pos x (b := D) (by omega)
  constructor
  · intro hr
    refine (Int.ediv_emod_unique (by omega)).mpr ⟨?_, by omega, by omega⟩
    rw [Int.mul_neg]; omega
  · intro hr
    refine (Int.ediv_emod_unique (by omega)).mpr ⟨?_, by omega, by omega⟩
    rw [Int.mul_sub, Int.mul_neg]; omega

theorem half_neg (x D : Int) (hD : 1 ≤ D) : half (-x) D = -half x D := by
  have h0 := Int.emod_nonneg x (b := D) (by omega)
  have h1 := Int.emod_lt_of_pos x (b := D) (by omega)
  obtain ⟨n1, n2⟩ := neg_divmod x D hD
  unfold half
  by_cases hr : x % D = 0
  · obtain ⟨e1, e2⟩ := n1 hr
    rw [e1, e2, hr, if_neg (by omega), if_neg (by omega)]
  · obtain ⟨e1, e2⟩ := n2 hr
    rw [e1, e2]
    by_cases c1 : D - x % D < x % D
    · rw [if_neg (by omega), if_pos (by omega)]; omega
    · by_cases c2 : x % D = D - x % D
      · by_cases c3 : x / D % 2 = 1
        · rw [if_neg (by omega), if_pos (by omega)]; omega
        · rw [if_pos (by omega), if_neg (by omega)]; omega
      · rw [if_pos (by omega), if_neg (by omega)]; omega

theorem half_mono (x y D : Int) (hD : 1 ≤ D) (h : x ≤ y) : half x D ≤ half y D := by
  have hx := Int.emod_add_mul_ediv x D
  have hy := Int.emod_add_mul_ediv y D
  have hq : x / D ≤ y / D := Int.ediv_le_ediv (by omega) h
  unfold half
  rcases Int.lt_or_eq_of_le hq with hlt | heq
  · split <;> split <;> omega
  · rw [heq] at hx
    rw [heq]
    have hr : x % D ≤ y % D := by omega
    split <;> split <;> omega

theorem half_bounds (x D B : Int) (hD : 1 ≤ D) (hB : 0 ≤ B) (h1 : -B ≤ x) (h2 : x ≤ B) : -B ≤ half x D ∧ half x D ≤ B := by
  have e1 : half B D ≤ B := by
    have hd := half_dist B D hD
    by_cases hc : half B D ≤ B
    · exact hc
    · have g1 : (B + 1) * D ≤ half B D * D := Int.mul_le_mul_of_nonneg_right (by omega) (by omega)
      have g2 : (2 * B + 1) * 1 ≤ (2 * B + 1) * D := Int.mul_le_mul_of_nonneg_left hD (by omega)
      rw [Int.add_mul] at g1
      rw [Int.add_mul (2 * B) 1 D, Int.mul_assoc 2 B D] at g2
      omega
  have m1 := half_mono x B D hD h2
  have m2 := half_mono (-B) x D hD h1
  rw [half_neg B D hD] at m2
  omega

/-! ### of n, brought to 0 .. 62 -/
theorem near_62 (n : Int) : 0 ≤ near n 0 62 ∧ near n 0 62 ≤ 62 := near_in n 0 62 (by decide)

theorem shr_mono (x y n : Int) (h : x ≤ y) : shr x n ≤ shr y n := by
  unfold shr
  split
  · exact h
  · exact half_mono x y _ (pow_bounds _ (near_62 n).1 (near_62 n).2).1 h

theorem near_mono (x y lo hi : Int) (h : x ≤ y) (hl : lo ≤ hi) : near x lo hi ≤ near y lo hi := by
  unfold near; split <;> split <;> (try split) <;> (try split) <;> omega

theorem near_same (x lo hi : Int) (h1 : lo ≤ x) (h2 : x ≤ hi) : near x lo hi = x := by
  unfold near; rw [if_neg (by omega), if_neg (by omega)]

/-- at k from 0 to 30, a step being 2^k -/
theorem shr_at (x k : Int) (h0 : 0 ≤ k) (h1 : k ≤ 62) : shr x k = if k = 0 then x else half x (2 ^ k.toNat) := by
  unfold shr; rw [near_same k 0 62 h0 h1]

theorem shr_dist (x k : Int) (h0 : 0 ≤ k) (h1 : k ≤ 62) : -(2 ^ k.toNat) ≤ 2 * (shr x k * 2 ^ k.toNat - x) ∧ 2 * (shr x k * 2 ^ k.toNat - x) ≤ 2 ^ k.toNat := by
  rw [shr_at x k h0 h1]
  split
  · rename_i hk; subst hk; simp
  · exact half_dist x _ (pow_bounds k h0 h1).1

theorem shr_mul (x k : Int) (h0 : 0 ≤ k) (h1 : k ≤ 62) : shr (x * 2 ^ k.toNat) k = x := by
  rw [shr_at _ k h0 h1]
  split
  · rename_i hk; subst hk; simp
  · exact half_mul x _ (pow_bounds k h0 h1).1

theorem shr_neg (x k : Int) (h0 : 0 ≤ k) (h1 : k ≤ 62) : shr (-x) k = -shr x k := by
  rw [shr_at _ k h0 h1, shr_at _ k h0 h1]
  split
  · rfl
  · exact half_neg x _ (pow_bounds k h0 h1).1

theorem shr_bounds (x k B : Int) (h0 : 0 ≤ k) (h1 : k ≤ 62) (hB : 0 ≤ B) (b1 : -B ≤ x) (b2 : x ≤ B) : -B ≤ shr x k ∧ shr x k ≤ B := by
  rw [shr_at _ k h0 h1]
  split
  · exact ⟨b1, b2⟩
  · exact half_bounds x _ B (pow_bounds k h0 h1).1 hB b1 b2

theorem pow30 (k : Int) (h0 : 0 ≤ k) (h : k ≤ 30) : (1 : Int) ≤ 2 ^ k.toNat ∧ (2 : Int) ^ k.toNat ≤ 1073741824 := by
  refine ⟨(pow_bounds k h0 (by omega)).1, ?_⟩
  have hk : k.toNat ≤ 30 := by omega
  generalize k.toNat = j at hk
  have h1 : (2 : Nat) ^ j ≤ 2 ^ 30 := Nat.pow_le_pow_right (by decide) hk
  have h2 : ((2 : Int) ^ j) = ((2 ^ j : Nat) : Int) := by simp
  have h3 : (2 : Nat) ^ 30 = 1073741824 := by decide
  rw [h2]; omega

/-- a rest by 31, brought above 0, as Go reckons it -/
theorem rest31 (n : Int) : -30 ≤ n.tmod 31 ∧ n.tmod 31 ≤ 30 := by
  rcases Int.le_total 0 n with h | h
  · have := Int.tmod_eq_emod_of_nonneg (b := 31) h; omega
  · have h1 := Int.neg_tmod n 31
    have h2 := Int.tmod_eq_emod_of_nonneg (a := -n) (b := 31) (by omega)
    omega

end Go.Proofs.YtoeihigdndkjeaaGreatDoor

/-
  Contract of Softmax: weights of a row, in new memory; nothing else turns. The greatest number of a row.
-/
namespace Go.Proofs.YtoeihigdndkjeaaGreatDoor
open Go.RowKit
set_option linter.unusedVariables false

theorem shr_any (x n B : Int) (hB : 0 ≤ B) (b1 : -B ≤ x) (b2 : x ≤ B) : -B ≤ shr x n ∧ shr x n ≤ B := by
  unfold shr
  split
  · exact ⟨b1, b2⟩
  · obtain ⟨n1, n2⟩ := near_62 n
    exact half_bounds x _ B (pow_bounds _ n1 n2).1 hB b1 b2

/-- m is the greatest number of the row -/
def IsTop (xs : List Int) (m : Int) : Prop := m ∈ xs ∧ ∀ x ∈ xs, x ≤ m
theorem IsTop.unique {xs : List Int} {m k : Int} (h : IsTop xs m) (g : IsTop xs k) : m = k := by
  have := h.2 k g.1; have := g.2 m h.1; omega
theorem top_best {xs : List Int} {n j : Nat} (hl : xs.length = n) (h : Best xs n (j : Int)) : j < n ∧ IsTop xs (xs.getD j 0) := by
  rcases h with ⟨_, h0⟩ | ⟨i, he, hi, h1, _⟩
  · omega
  · obtain rfl : i = j := by omega
    refine ⟨hi, getD_mem (by omega), fun x hx => ?_⟩
    obtain ⟨k, hk, rfl⟩ := List.getElem_of_mem hx
    have := h1 k (by omega)
    simpa [List.getD, hk] using this

theorem top_ex {xs : List Int} {n : Nat} (hl : xs.length = n) (h0 : 0 < n) : ∃ m, IsTop xs m := by
  obtain ⟨B, hB⟩ := best_exists xs n
  obtain ⟨j, rfl, hj⟩ := best_is hB (by omega)
  exact ⟨_, (top_best hl hB).2⟩

/-- what E is asked at -/
def dif (b n m x : Int) : Int := shr ((x - m) * b) n
theorem dif_bd (b n m x : Int) (b1 : -2147483648 ≤ b) (b2 : b ≤ 2147483647) (m1 : -2147483648 ≤ m) (m2 : m ≤ 2147483647) (x1 : -2147483648 ≤ x) (x2 : x ≤ 2147483647) :
    -4294967295 ≤ x - m ∧ x - m ≤ 4294967295 ∧ -9223372034707292160 ≤ (x - m) * b ∧ (x - m) * b ≤ 9223372034707292160 ∧ -9223372034707292160 ≤ dif b n m x ∧ dif b n m x ≤ 9223372034707292160 := by
  have h1 : ((x - m) * b).natAbs ≤ 4294967295 * 2147483648 := by rw [Int.natAbs_mul]; exact Nat.mul_le_mul (by omega) (by omega)
  have h2 := shr_any ((x - m) * b) n 9223372034707292160 (by decide) (by omega) (by omega)
  unfold dif
  omega
/-- the powers, and the weights -/
def pows (b n m : Int) (xs : List Int) : List Int := xs.map fun x => E (dif b n m x)
def soft (b n m : Int) (xs : List Int) : List Int := (pows b n m xs).map (share 65536 (stot (pows b n m xs)))
theorem pows_le (b n m : Int) (xs : List Int) : ∀ p ∈ pows b n m xs, p ≤ 2147483647 := by
  intro p hp
  obtain ⟨x, _, rfl⟩ := List.mem_map.1 hp
  have := E_bd (dif b n m x); omega
theorem soft_wf (b n m : Int) (xs : List Int) : ∀ p ∈ soft b n m xs, (Lit.int .i32 p).wf = true := share_wf (pows_le b n m xs) (by decide)

theorem softmax_none (b n : Int) (a : Option Addr) (cap : Nat) (w : World) :
    Calls Tryz.prog 113 #[.int .i32 b, .int .i64 n, .slice a 0 cap] w fun e w' => e = .returned (.slice none 0 0) ∧ w = w' := by
  go_enter Tryz.func113, Tryz.ntmps113
  go_wp2
  go_ret
  exact ⟨rfl, rfl⟩

set_option maxHeartbeats 1000000 in
theorem softmax_some (b s m : Int) (a : Option Addr) (n cap : Nat) (xs : List Int) (w : World) (h : Elems .i32 w a n xs) (h0 : 0 < n) (hn : n ≤ 1000) (b1 : -2147483648 ≤ b) (b2 : b ≤ 2147483647) (hm : IsTop xs m) (hT : Tab w) :
    Calls Tryz.prog 113 #[.int .i32 b, .int .i64 s, .slice a n cap] w fun e w' => (∃ g, e = .returned (.slice (some ⟨g, 0, none⟩) n n) ∧ Elems .i32 w' (some ⟨g, 0, none⟩) n (soft b s m xs)) ∧ Below w.heap.size w w' := by
  have hmk := run_make_row' (P := Tryz.prog) 149 2 (.int .i64 0) 8 Tryz.underlying149 info_int64 rfl .i64 .i64 n (by omega) (by omega)
  have HL := Lib.hid h.1
  have hz : ((n : Int) == 0) = false := by simp; omega
  obtain ⟨B, hB⟩ := best_exists xs n
  obtain ⟨j, rfl, hj⟩ := best_is hB (by omega)
  obtain ⟨_, htop⟩ := top_best HL.out hB
  have hmx := hm.unique htop
  have harg := argmax a n cap xs w h j hB
  obtain ⟨bb, off, mm, rfl, hc, hv, wv⟩ := h.at_ hj
  obtain rfl : mm = m := by rw [hmx]; exact hv.out.symm
  obtain ⟨m1, m2⟩ := wf32 wv
  clear hmx htop hm hB hv wv
  go_enter Tryz.func113, Tryz.ntmps113
  go_wp2_with fail
  refine harg.mono ?_
  rintro e w' ⟨rfl, rfl⟩
  clear harg hz
  go_wp2
  go_loopw [25] (fun i wr => ∃ (k : Nat) (cs : List Int), k ≤ n ∧ i = .int .i64 k ∧ MineK .i64 wr w.heap.size 2 cs ∧ Below w.heap.size w wr ∧ Hid (FilledBy (fun i => dif b s mm (xs.getD i 0)) n k cs)) (fun i _ => n - (intOf i).toNat)
  case atStart => exact ⟨0, List.replicate n 0, by omega, rfl, mine_made .i64 w 2 n rfl, (Below.refl _ _).alloc (Nat.le_refl _) _, Lib.hid (filledBy_start _ n)⟩
  case round =>
    clear hc
    obtain ⟨k, cs, hk, rfl, hmine, hbel, hfil⟩ := hrel
    by_cases hlt : k < n
    · obtain ⟨b', off', v, he, hc, hv, wv⟩ := (h.below hbel).at_ hlt
      cases he
      obtain ⟨v1, v2⟩ := wf32 wv
      have hl := hfil.out.1
      have hold := hmine.cell (k := k) (by omega)
      have hf := hmine.frozen k
      have hfil' : Hid (FilledBy (fun i => dif b s mm (xs.getD i 0)) n (k + 1) (cs.set k (dif b s mm v))) := Lib.hid (by have := filledBy_step hfil.out hlt; simp only [hv.out] at this; exact this)
      have hnew := hmine.set k (dif b s mm v)
      have hbel' := hbel.setCell (p := ⟨w.heap.size, k, none⟩) (Nat.le_refl _) (.int .i64 (dif b s mm v))
      obtain ⟨d1, d2, p1, p2, p3, p4⟩ := dif_bd b s mm v b1 b2 m1 m2 v1 v2
      have hsh : ∀ w, Calls Tryz.prog 94 #[.int .i64 ((v - mm) * b), .int .i64 s] w fun e w' => e = .returned (.int .i64 (dif b s mm v)) ∧ w = w' := fun w => shift _ _ (by omega) (by omega) w
      generalize dif b s mm v = z at hfil' hnew hbel' hsh p3 p4
      generalize cs.getD k 0 = c at hold
      clear hv hl hfil hmine hbel hmk h hT
      go_wp2_with (go_at_call 94; (with_reducible refine (hsh _).mono ?_); rintro e w' ⟨rfl, rfl⟩)
      go_roundw
      case rel => exact ⟨k + 1, cs.set k z, by omega, by go_num, hnew, hbel', hfil'⟩
      case measure => simp [intOf]; omega
    · obtain rfl : k = n := by omega
      have he := filledBy_end (g := dif b s mm) hfil.out HL.out (fun i _ => rfl)
      have hwf : ∀ x ∈ cs, (Lit.int .i64 x).wf = true := by
        rw [he]
        intro c hc
        obtain ⟨x, hx, rfl⟩ := List.mem_map.1 hc
        have hxb := wf32 (h.2.2.1 x hx)
        have := dif_bd b s mm x b1 b2 m1 m2 hxb.1 hxb.2
        exact WalkArith.wf_i64 ⟨by omega, by omega⟩
      have hE := hmine.elems (n := k) hfil.out.1 (by omega) hwf
      have hex := exps (some ⟨w.heap.size, 0, none⟩) k k cs wr hE hn (hT.below hbel)
      have hp : cs.map E = pows b s mm xs := by rw [he]; unfold pows; rw [List.map_map]; rfl
      rw [hp] at hex
      have hso : (pows b s mm xs).map (share 65536 (stot (pows b s mm xs))) = soft b s mm xs := rfl
      have HSO := Lib.hid hso
      clear hfil he hwf hE hp hmine h hT hso
      go_wp2_with fail
      refine hex.mono ?_
      rintro e wb ⟨g, rfl, hE2, hb2⟩
      have hb3 := below_two hbel hb2
      clear hex hbel hb2
      go_wp2_with fail
      refine (shares 65536 _ k k (pows b s mm xs) wb hE2 hn (by decide) (by decide)).mono ?_
      rintro e wc ⟨g2, rfl, hE3, hb4⟩
      rw [HSO.out] at hE3
      have hb5 := below_two hb3 hb4
      clear hE2 hb3 hb4
      go_wp2
      go_ret
      exact ⟨⟨_, rfl, hE3⟩, hb5⟩

end Go.Proofs.YtoeihigdndkjeaaGreatDoor

/-
  Contracts of layer 5's sum of products in two parts: add lays a product, down is the sum shifted down and brought to 8 bits. A slice of such sums that was just made.
-/
namespace Go.Proofs.YtoeihigdndkjeaaGreatDoor
open Go.RowKit
set_option linter.unusedVariables false

/-- what a sum comes to -/
def mix1 (T : Int) : Int := near (shr T 16) (-128) 127
theorem mix1_wf (T : Int) : (Lit.int .i8 (mix1 T)).wf = true := WalkArith.wf_i8 (near_in _ _ _ (by decide))

theorem info_sum : (Tryz.prog.info? 200).map (fun i => (i.zero, i.size, i.bytes)) = some (some (.agg #[.int .i64 0, .int .i64 0]), 2, 16) := by kernel_rfl

theorem made_sums (n : Nat) : madeCells (Value.agg #[.int .i64 0, .int .i64 0]).cells (n * 2) = Array.replicate (2 * n) (Value.int .i64 0) := by
  apply Array.ext
  · simp [size_madeCells]; omega
  · intro i h1 h2
    simp [madeCells, Value.cells]
    rcases Nat.mod_two_eq_zero_or_one i with h | h <;> simp [h]

theorem run_make_sums (n : Nat) (hn : n ≤ 16777216) (w : World) : (Instr.makeSlice 198 (.int .i64 (n : Int)) (.int .i64 (n : Int))).run Tryz.prog w = .ok (.slice (some ⟨w.heap.size, 0, none⟩) n n) (w.alloc (.cells (Array.replicate (2 * n) (Value.int .i64 0)) 200)) := by
  obtain ⟨i, hi, hzz⟩ := Option.map_eq_some_iff.1 info_sum
  simp only [Prod.mk.injEq] at hzz
  obtain ⟨hz, hs, hb⟩ := hzz
  have hr := run_make (P := Tryz.prog) w 198 200 i _ Tryz.underlying198 hi hz .i64 .i64 n n (by omega) (Int.le_refl _) (by rw [hb]; omega) (by omega)
  simp only [Int.toNat_natCast, hs] at hr
  rw [hr, made_sums]

theorem mineK_noughts {kd : IntKind} {w : World} {T : TypeId} {n b : Nat} (hb : b = w.heap.size) : MineK kd (w.alloc (.cells (Array.replicate n (Value.int kd 0)) T)) b T (List.replicate n 0) := by
  subst hb
  have e : (Array.replicate n (Value.int kd 0)) = ((List.replicate n (0 : Int)).map (Value.int kd)).toArray := by simp
  unfold MineK
  rw [e]
  exact heap_alloc_new w _

set_option maxHeartbeats 400000 in
theorem sum_add (B o : Nat) (t hi lo : Int) (w : World) (c0 : w.cell? ⟨B, o, none⟩ = some (.int .i64 hi)) (c1 : w.cell? ⟨B, o + 1, none⟩ = some (.int .i64 lo)) (f0 : w.frozen? ⟨B, o, none⟩ = false) (f1 : w.frozen? ⟨B, o + 1, none⟩ = false)
    (t1 : -1099511627776 ≤ t) (t2 : t ≤ 1099511627776) (h1 : -1099511627776 ≤ hi) (h2 : hi ≤ 1099511627776) (l1 : 0 ≤ lo) (l2 : lo ≤ 1099511627776) :
    Calls Tryz.prog 129 #[.pointer (some ⟨B, o, none⟩), .int .i64 t] w fun e w' => e = .returned (.tuple #[]) ∧ w' = (w.setCell ⟨B, o, none⟩ (.int .i64 (hi + t / 65536))).setCell ⟨B, o + 1, none⟩ (.int .i64 (lo + t % 65536)) := by
  have hm : bits .and .i64 t 65535 = t % 65536 := by have := and_mask t 16 (by decide); simpa using this
  have c1' : ∀ v, (w.setCell ⟨B, o, none⟩ v).cell? ⟨B, o + 1, none⟩ = some (.int .i64 lo) := fun v => (World.cell?_setCell_other _ _ _ _ (by simp)).trans c1
  have f1' : ∀ v, (w.setCell ⟨B, o, none⟩ v).frozen? ⟨B, o + 1, none⟩ = false := fun v => (World.frozen?_setCell _ _ _ _).trans f1
  go_enter Tryz.func129, Tryz.ntmps129
  go_wp2
  exact bodyPost_end (v := .tuple #[]) (results_none rfl _ _ _) rfl ⟨rfl, rfl⟩

set_option maxHeartbeats 400000 in
theorem sum_down (B o : Nat) (hi lo : Int) (w : World) (c0 : w.cell? ⟨B, o, none⟩ = some (.int .i64 hi)) (c1 : w.cell? ⟨B, o + 1, none⟩ = some (.int .i64 lo))
    (h1 : -1073741824 ≤ hi) (h2 : hi ≤ 1073741824) (l1 : 0 ≤ lo) (l2 : lo ≤ 1099511627776) :
    Calls Tryz.prog 130 #[.pointer (some ⟨B, o, none⟩)] w fun e w' => e = .returned (.int .i8 (mix1 (hi * 65536 + lo))) ∧ ∃ d, w' = w.drewN d := by
  have hm : bits .and .i64 lo 65535 = lo % 65536 := by have := and_mask lo 16 (by decide); simpa using this
  have hsat : ∀ w, Calls Tryz.prog 135 #[.int .i64 (hi + lo / 65536)] w fun e w' => e = .returned (.int .i32 (hi + lo / 65536)) ∧ w' = w := fun w => (sat32 _ w).mono (by
    rintro e w' ⟨rfl, rfl⟩
    exact ⟨ret_int (near_same _ _ _ (by omega) (by omega)), rfl⟩)
  have hT : (hi + lo / 65536) * 65536 + lo % 65536 = hi * 65536 + lo := by omega
  have hsh : ∀ w, Calls Tryz.prog 94 #[.int .i64 ((hi + lo / 65536) * 65536 + lo % 65536), .int .i64 16] w fun e w' => e = .returned (.int .i64 (shr (hi * 65536 + lo) 16)) ∧ w = w' := fun w => by
    rw [hT]; exact shift _ _ (by omega) (by omega) w
  have hsa := fun w => sat8 (shr (hi * 65536 + lo) 16) w
  have hv : near (shr (hi * 65536 + lo) 16) (-128) 127 = mix1 (hi * 65536 + lo) := rfl
  rw [hv] at hsa
  generalize mix1 (hi * 65536 + lo) = z at hsa
  generalize shr (hi * 65536 + lo) 16 = s at hsh hsa
  have e1 : IntKind.i64.wrap (hi + lo / 65536) = hi + lo / 65536 := IntWalk.i64_in _ (by omega)
  clear hT hv
  go_enter Tryz.func130, Tryz.ntmps130
  go_wp2
  go_quiet (first | (go_at_call 135; refine Calls.quiet_of_same (hsat _)))
  clear e1
  go_wp2_with (first | (go_at_call 94; refine (hsh _).mono ?_; rintro e w' ⟨rfl, rfl⟩) | (go_at_call 93; refine (hsa _).mono ?_; rintro e w' ⟨rfl, rfl⟩))
  go_ret
  exact ⟨rfl, _, rfl⟩

end Go.Proofs.YtoeihigdndkjeaaGreatDoor

/-
  Contracts of sameWidth and Mix: rows, summed by weights, in new memory; or a refusal.
-/
namespace Go.Proofs.YtoeihigdndkjeaaGreatDoor
open Go.RowKit
set_option linter.unusedVariables false

/-- are the rows of one width? -/
def sameW (qs : List Rw) : Bool := qs.all fun q => decide (q.n = (qs.getD 0 default).n)

theorem same_width (a : Option Addr) (n cap : Nat) (qs : List Rw) (w : World) (h : Rws .i8 w a n qs) :
    Calls Tryz.prog 128 #[.slice a n cap] w fun e w' => e = .returned (.bool (sameW qs)) ∧ w = w' := by
  have HL := Lib.hid h.1
  have hn := h.2.1
  go_enter Tryz.func128, Tryz.ntmps128
  go_wp2
  go_loop [7] (fun i => ∃ (k : Nat), k ≤ n ∧ i = .int .i64 k ∧ Hid (∀ i, i < k → (qs.getD i default).n = (qs.getD 0 default).n)) (fun i => n - (intOf i).toNat)
  case atStart => exact ⟨0, by omega, rfl, Lib.hid (fun i hi => by omega)⟩
  case round =>
    obtain ⟨k, hk, rfl, hall⟩ := hrel
    by_cases hlt : k < n
    · obtain ⟨b, off, q, rfl, _, cq, hq, hin⟩ := h.at_ hlt
      obtain ⟨b2, off2, p, he, _, cp, hp, hin2⟩ := h.at_ (i := 0) (by omega)
      cases he
      obtain ⟨qa, qn, qcap, qv⟩ := q
      obtain ⟨pa, pn, pcap, pv⟩ := p
      have hq1 := hin.2.2.1
      have hp1 := hin2.2.2.1
      have hq2 := hin.2.1
      have hp2 := hin2.2.1
      simp only at cq cp hq1 hp1 hq2 hp2
      rw [Nat.add_zero] at cp
      by_cases hc : qn = pn
      · subst hc
        have hst : Hid (∀ i, i < k + 1 → (qs.getD i default).n = (qs.getD 0 default).n) := Lib.hid (fun i hi => by
          rcases Nat.lt_or_ge i k with h1 | h1
          · exact hall.out i h1
          · obtain rfl : i = k := by omega
            rw [hq.out, hp.out])
        clear h hq hp hin hin2 hall
        go_wp2
        go_round
        case rel => exact ⟨k + 1, by omega, by go_num, hst⟩
        case measure => simp [intOf]; omega
      · have hc' : ((qn : Int) != (pn : Int)) = true := by simp; omega
        have hno : sameW qs = false := by
          unfold sameW
          rw [List.all_eq_false]
          refine ⟨qs.getD k default, ?_, by rw [hq.out, hp.out]; simpa using hc⟩
          rw [List.getD_eq_getElem?_getD, List.getElem?_eq_getElem (by rw [HL.out]; exact hlt)]
          exact List.getElem_mem _
        have HN := Lib.hid hno
        clear h hq hp hin hin2 hall hc hno
        go_wp2
        go_ret
        exact ⟨ret_bool HN.out.symm, rfl⟩
    · have hyes : sameW qs = true := by
        unfold sameW
        rw [List.all_eq_true]
        intro q hq
        obtain ⟨i, hi, rfl⟩ := List.getElem_of_mem hq
        have := hall.out i (by have := HL.out; omega)
        rw [List.getD_eq_getElem?_getD, List.getElem?_eq_getElem hi] at this
        simpa using this
      have HY := Lib.hid hyes
      clear h hall hyes
      go_wp2
      go_ret
      exact ⟨ret_bool HY.out.symm, rfl⟩

theorem sameW_at {qs : List Rw} (h : sameW qs = true) {q : Rw} (hq : q ∈ qs) : q.n = (qs.getD 0 default).n := by
  unfold sameW at h
  simpa using List.all_eq_true.1 h q hq

/-- the sum at place p of the first k rows, by their weights -/
def msum (ws : List Int) (qs : List Rw) (k p : Nat) : Int := ((List.range k).map fun i => ws.getD i 0 * (qs.getD i default).v.getD p 0).sum
theorem msum_step (ws : List Int) (qs : List Rw) (k p : Nat) : msum ws qs (k + 1) p = msum ws qs k p + ws.getD k 0 * (qs.getD k default).v.getD p 0 := by
  unfold msum
  rw [List.range_succ, List.map_append, List.sum_append]; simp
def mixL (ws : List Int) (qs : List Rw) (n m : Nat) : List Int := (List.range m).map fun p => mix1 (msum ws qs n p)
theorem mixL_wf (ws : List Int) (qs : List Rw) (n m : Nat) : ∀ c ∈ mixL ws qs n m, (Lit.int .i8 c).wf = true := by
  intro c hc
  obtain ⟨i, _, rfl⟩ := List.mem_map.1 hc
  exact mix1_wf _

/-- what the loops keep: k rows are summed, and one more at the first j places -/
def SInv (ws : List Int) (qs : List Rw) (m k j : Nat) (cs : List Int) : Prop :=
  cs.length = 2 * m ∧ ∀ p, p < m → ∃ hi lo : Int, cs.getD (p * 2) 0 = hi ∧ cs.getD (p * 2 + 1) 0 = lo ∧ hi * 65536 + lo = msum ws qs (if p < j then k + 1 else k) p ∧ -(4194304 * (if p < j then k + 1 else k : Nat)) ≤ hi ∧ hi ≤ 4194304 * (if p < j then k + 1 else k : Nat) ∧ 0 ≤ lo ∧ lo ≤ 65535 * (if p < j then k + 1 else k : Nat)
theorem sinv_start (ws : List Int) (qs : List Rw) (m : Nat) : SInv ws qs m 0 0 (List.replicate (2 * m) 0) := by
  refine ⟨by simp, fun p hp => ⟨0, 0, ?_, ?_, by simp [msum], by simp, by simp, by simp, by simp⟩⟩
  · rw [List.getD_eq_getElem?_getD, List.getElem?_replicate]; split <;> rfl
  · rw [List.getD_eq_getElem?_getD, List.getElem?_replicate]; split <;> rfl
theorem sinv_row {ws : List Int} {qs : List Rw} {m k : Nat} {cs : List Int} (h : SInv ws qs m k m cs) : SInv ws qs m (k + 1) 0 cs := by
  refine ⟨h.1, fun p hp => ?_⟩
  obtain ⟨hi, lo, h1, h2, h3⟩ := h.2 p hp
  rw [if_pos hp] at h3
  refine ⟨hi, lo, h1, h2, ?_⟩
  rw [if_neg (by omega)]
  exact h3
theorem sinv_step {ws : List Int} {qs : List Rw} {m k j : Nat} {cs : List Int} {x wt hi lo : Int} (h : SInv ws qs m k j cs) (hj : j < m) (hx : (qs.getD k default).v.getD j 0 = x) (hw : ws.getD k 0 = wt)
    (e1 : cs.getD (j * 2) 0 = hi) (e2 : cs.getD (j * 2 + 1) 0 = lo) (hb1 : -274877906944 ≤ x * wt) (hb2 : x * wt ≤ 274877906944) :
    SInv ws qs m k (j + 1) ((cs.set (j * 2) (hi + x * wt / 65536)).set (j * 2 + 1) (lo + x * wt % 65536)) := by
  have hl := h.1
  refine ⟨by simpa using hl, fun p hp => ?_⟩
  obtain ⟨hi', lo', h1, h2, h3⟩ := h.2 p hp
  by_cases e : p = j
  · subst e
    obtain rfl : hi' = hi := by rw [← h1, e1]
    obtain rfl : lo' = lo := by rw [← h2, e2]
    rw [if_neg (by omega)] at h3
    obtain ⟨h3, h4, h5, h6, h7⟩ := h3
    refine ⟨hi' + x * wt / 65536, lo' + x * wt % 65536, ?_, ?_, ?_⟩
    · rw [List.getD_eq_getElem?_getD, List.getElem?_set_ne (by omega), List.getElem?_set_self (by omega)]; rfl
    · rw [List.getD_eq_getElem?_getD, List.getElem?_set_self (by simp; omega)]; rfl
    · rw [if_pos (by omega), msum_step, hx, hw, ← h3]
      have hc : wt * x = x * wt := Int.mul_comm _ _
      rw [hc]
      generalize x * wt = t at hb1 hb2 ⊢
      push_cast
      omega
  · refine ⟨hi', lo', ?_, ?_, ?_⟩
    · rw [List.getD_eq_getElem?_getD, List.getElem?_set_ne (by omega), List.getElem?_set_ne (by omega), ← List.getD_eq_getElem?_getD]; exact h1
    · rw [List.getD_eq_getElem?_getD, List.getElem?_set_ne (by omega), List.getElem?_set_ne (by omega), ← List.getD_eq_getElem?_getD]; exact h2
    · by_cases e2 : p < j
      · rw [if_pos e2] at h3; rw [if_pos (by omega)]; exact h3
      · rw [if_neg e2] at h3; rw [if_neg (by omega)]; exact h3

theorem mix_prod (x wt : Int) (x1 : -128 ≤ x) (x2 : x ≤ 127) (w1 : -2147483648 ≤ wt) (w2 : wt ≤ 2147483647) : -274877906944 ≤ x * wt ∧ x * wt ≤ 274877906944 := by
  have ha : (x * wt).natAbs ≤ 128 * 2147483648 := by rw [Int.natAbs_mul]; exact Nat.mul_le_mul (by omega) (by omega)
  omega

theorem mix_no (wa a : Option Addr) (n m wcap cap : Nat) (qs : List Rw) (w : World) (h : Rws .i8 w a m qs) (hn : n ≤ 9223372036854775807) (hne : n ≠ m ∨ sameW qs = false) :
    Calls Tryz.prog 112 #[.slice wa n wcap, .slice a m cap] w fun e w' => e = .returned (.tuple #[.slice none 0 0, .int .i64 30]) ∧ w = w' := by
  have hm := h.2.1
  have hs := same_width a m cap qs w h
  by_cases hc : n = m
  · have hf : sameW qs = false := by rcases hne with h1 | h1; exact absurd hc h1; exact h1
    rw [hf] at hs
    subst hc
    clear hne hf h
    have hnn : ((n : Int) != (n : Int)) = false := by simp
    go_enter Tryz.func112, Tryz.ntmps112
    go_wp2_with (go_at_call 128; (with_reducible refine hs.mono ?_); rintro e w' ⟨rfl, rfl⟩)
    go_ret2
    exact ⟨rfl, rfl⟩
  · have hnn : ((n : Int) != (m : Int)) = true := by simp; omega
    clear hne hc hs h
    go_enter Tryz.func112, Tryz.ntmps112
    go_wp2
    go_ret2
    exact ⟨rfl, rfl⟩

theorem mix_none (wa a : Option Addr) (wcap cap : Nat) (w : World) :
    Calls Tryz.prog 112 #[.slice wa 0 wcap, .slice a 0 cap] w fun e w' => e = .returned (.tuple #[.slice none 0 0, .int .i64 0]) ∧ w = w' := by
  have hs := same_width a 0 cap [] w (Rws.nil_ _ _ _)
  have e : sameW [] = true := rfl
  rw [e] at hs
  clear e
  go_enter Tryz.func112, Tryz.ntmps112
  go_wp2_with (go_at_call 128; (with_reducible refine hs.mono ?_); rintro e w' ⟨rfl, rfl⟩)
  go_ret2
  exact ⟨rfl, rfl⟩

set_option maxHeartbeats 2000000 in
theorem mix_some (wa a : Option Addr) (n wcap cap m : Nat) (ws : List Int) (qs : List Rw) (w : World) (hw : Elems .i32 w wa n ws) (h : Rws .i8 w a n qs) (h0 : 0 < n) (hn : n ≤ 200) (hs : sameW qs = true) (hm : (qs.getD 0 default).n = m) (hm2 : m ≤ 1000) :
    Calls Tryz.prog 112 #[.slice wa n wcap, .slice a n cap] w fun e w' => (∃ g, e = .returned (.tuple #[.slice (some ⟨g, 0, none⟩) m m, .int .i64 0]) ∧ Elems .i8 w' (some ⟨g, 0, none⟩) m (mixL ws qs n m)) ∧ Below w.heap.size w w' := by
  have hmk := run_make_sums m (by omega)
  have hmk2 := run_make_row' (P := Tryz.prog) 24 64 (.int .i8 0) 1 Tryz.underlying24 info8 rfl .i64 .i64 m (by omega) (by omega)
  have hsw := same_width a n cap qs w h
  rw [hs] at hsw
  have HW : ∀ q ∈ qs, q.n = m := fun q hq => (sameW_at hs hq).trans hm
  obtain ⟨b, off, q, rfl, hblk, cq, hq, hin⟩ := h.at_ h0
  have hqn : q.n = m := by rw [← hq.out]; exact hm
  obtain ⟨qa, qn, qcap, qv⟩ := q
  simp only at hqn cq
  subst hqn
  rw [Nat.add_zero] at cq
  have hnn : ((n : Int) != (n : Int)) = false := by simp
  have hnz : ((n : Int) == 0) = false := by simp; omega
  have hcp := hin.2.2.1
  have hcp2 := hin.2.1
  simp only at hcp hcp2
  have HH := Lib.hid h
  have HWT := Lib.hid hw
  have HWD := Lib.hid HW
  clear hq hin hs hm h hw HW
  go_enter Tryz.func112, Tryz.ntmps112
  go_wp2_with (go_at_call 128; (with_reducible refine hsw.mono ?_); rintro e w' ⟨rfl, rfl⟩)
  clear hsw hnn hnz
  go_loopw [34] (fun i wr => ∃ (k : Nat) (cs : List Int), k ≤ n ∧ i = .int .i64 k ∧ MineK .i64 wr w.heap.size 200 cs ∧ Below w.heap.size w wr ∧ Hid (SInv ws qs qn k 0 cs)) (fun i _ => n - (intOf i).toNat)
  case atStart => exact ⟨0, _, by omega, rfl, mineK_noughts rfl, (Below.refl _ _).alloc (Nat.le_refl _) _, Lib.hid (sinv_start ws qs qn)⟩
  case round =>
    clear cq
    obtain ⟨k, cs, hk, rfl, hmine, hbel, hinv⟩ := hrel
    by_cases hlt : k < n
    · obtain ⟨b1, off1, wt, rfl, hc, hv, wv⟩ := (HWT.out.below hbel).at_ hlt
      obtain ⟨b2, off2, q, he, _, cq, hq, hin⟩ := (HH.out.below hbel).at_ hlt
      cases he
      have hqm : q ∈ qs := by
        rw [← hq.out, List.getD_eq_getElem?_getD, List.getElem?_eq_getElem (by rw [HH.out.1]; exact hlt)]
        exact List.getElem_mem _
      have hqn := HWD.out q hqm
      have hqw := HH.out.2.2.1 q hqm
      obtain ⟨ra, rn, rcap, rv⟩ := q
      simp only at hqn cq
      subst hqn
      have hrc := hin.2.2.1
      have hrc2 := hin.2.1
      simp only at hrc hrc2
      have HQ := Lib.hid hqw.1
      obtain ⟨wt1, wt2⟩ := wf32 wv
      have HWV := Lib.hid (show ws.getD k 0 = wt from hv.out)
      have HRV := Lib.hid (show (qs.getD k default).v = rv by rw [hq.out])
      clear hv hq hqm hqw hin
      go_wp2
      go_loopw [46] (fun i wr => ∃ (j : Nat) (cs : List Int), j ≤ rn ∧ i = .int .i64 j ∧ MineK .i64 wr w.heap.size 200 cs ∧ Below w.heap.size w wr ∧ Hid (SInv ws qs rn k j cs)) (fun i _ => rn - (intOf i).toNat)
      case atStart => exact ⟨0, cs, by omega, rfl, hmine, hbel, hinv⟩
      case round =>
        clear hinv hbel hmine hc cq
        obtain ⟨j, cs, hj, rfl, hmine, hbel, hinv⟩ := hrel
        by_cases hlt2 : j < rn
        · obtain ⟨b3, off3, x, he, hc, hv, wv⟩ := (HQ.out.below hbel).at_ hlt2
          subst he
          obtain ⟨x1, x2⟩ := wf8 wv
          have hl := hinv.out.1
          obtain ⟨hi, lo, e1, e2, h3⟩ := hinv.out.2 j hlt2
          rw [if_neg (by omega)] at h3
          obtain ⟨_, h4, h5, h6, h7⟩ := h3
          have c0 := hmine.cell (k := j * 2) (by omega)
          have c1 := hmine.cell (k := j * 2 + 1) (by omega)
          rw [e1] at c0
          rw [e2] at c1
          obtain ⟨p1, p2⟩ := mix_prod x wt x1 x2 wt1 wt2
          have hadd := sum_add w.heap.size (j * 2) (x * wt) hi lo wr c0 c1 (hmine.frozen _) (hmine.frozen _) (by omega) (by omega) (by omega) (by omega) (by omega) (by omega)
          have hst := Lib.hid (sinv_step hinv.out hlt2 (by rw [HRV.out]; exact hv.out) HWV.out e1 e2 p1 p2)
          have hm2' := (hmine.set (j * 2) (hi + x * wt / 65536)).set (j * 2 + 1) (lo + x * wt % 65536)
          have hb2' := (hbel.setCell (p := ⟨w.heap.size, j * 2, none⟩) (Nat.le_refl _) (.int .i64 (hi + x * wt / 65536))).setCell (p := ⟨w.heap.size, j * 2 + 1, none⟩) (Nat.le_refl _) (.int .i64 (lo + x * wt % 65536))
          clear hinv hbel hmine hl e1 e2 c0 c1 h4 h5 h6 h7 hv wv
          go_wp2_with (go_at_call 129; (with_reducible refine hadd.mono ?_); rintro e w' ⟨rfl, rfl⟩)
          clear hadd
          go_roundw
          case rel => exact ⟨j + 1, _, by omega, by go_num, hm2', hb2', hst⟩
          case measure => simp [intOf]; omega
        · obtain rfl : j = rn := by omega
          have hst := Lib.hid (sinv_row hinv.out)
          clear hinv
          go_wp2
          go_roundw
          case rel => exact ⟨k + 1, cs, by omega, by go_num, hmine, hbel, hst⟩
          case measure => simp [intOf]; omega
    · obtain rfl : k = n := by omega
      obtain ⟨w1, hw1⟩ : ∃ w1, w1 = wr := ⟨_, rfl⟩
      subst hw1
      have hs1 := hbel.size
      have hB1 := hmine.lt
      clear HH HWT HWD hmk
      go_wp2
      go_loopw [66] (fun i wr => ∃ (j : Nat) (ds : List Int), j ≤ qn ∧ i = .int .i64 j ∧ MineK .i64 wr w.heap.size 200 cs ∧ MineK .i8 wr w1.heap.size 64 ds ∧ Below w.heap.size w wr ∧ Hid (FilledBy (fun p => mix1 (msum ws qs k p)) qn j ds)) (fun i _ => qn - (intOf i).toNat)
      case atStart => exact ⟨0, List.replicate qn 0, by omega, rfl, hmine.alloc _, mine_made .i8 w1 64 qn rfl, hbel.alloc hs1 _, Lib.hid (filledBy_start _ qn)⟩
      case round =>
        clear hmine hbel
        obtain ⟨j, ds, hj, rfl, hmine, hmy, hbel, hfil⟩ := hrel
        by_cases hlt2 : j < qn
        · have hl := hinv.out.1
          obtain ⟨hi, lo, e1, e2, h3⟩ := hinv.out.2 j hlt2
          rw [if_neg (by omega)] at h3
          obtain ⟨hT, h4, h5, h6, h7⟩ := h3
          have c0 := hmine.cell (k := j * 2) (by omega)
          have c1 := hmine.cell (k := j * 2 + 1) (by omega)
          rw [e1] at c0
          rw [e2] at c1
          have hdown := sum_down w.heap.size (j * 2) hi lo wr c0 c1 (by omega) (by omega) (by omega) (by omega)
          rw [hT] at hdown
          have hyl := hfil.out.1
          have hold := hmy.cell (k := j) (by omega)
          have hf := hmy.frozen j
          have hst := Lib.hid (filledBy_step hfil.out hlt2)
          have hm2' := fun d => (hmine.drewN d).kept (grownBy_setCell _ w1.heap.size j (.int .i8 (mix1 (msum ws qs k j)))) (by simp; omega)
          have hmy' := fun d => (hmy.drewN d).set j (mix1 (msum ws qs k j))
          have hb2' := fun d => (below_drewN hbel d).setCell (p := ⟨w1.heap.size, j, none⟩) hs1 (.int .i8 (mix1 (msum ws qs k j)))
          generalize ds.getD j 0 = c at hold
          generalize mix1 (msum ws qs k j) = z at hdown hst hm2' hmy' hb2'
          clear hmine hmy hbel hfil hl e1 e2 c0 c1 h4 h5 h6 h7 hT hyl
          go_wp2_with (go_at_call 130; (with_reducible refine hdown.mono ?_); rintro e w' ⟨rfl, d, rfl⟩)
          clear hdown
          go_roundw
          case rel => exact ⟨j + 1, _, by omega, by go_num, hm2' d, hmy' d, hb2' d, hst⟩
          case measure => simp [intOf]; omega
        · obtain rfl : j = qn := by omega
          have he := filledBy_range hfil.out
          have hE := hmy.elems (n := j) hfil.out.1 (by omega) (by rw [he]; exact mixL_wf ws qs k j)
          rw [he] at hE
          have HE := Lib.hid (show Elems .i8 wr (some ⟨w1.heap.size, 0, none⟩) j (mixL ws qs k j) from hE)
          clear he hE hmine hmy hfil hinv
          go_wp2
          go_ret2
          exact ⟨⟨_, rfl, HE.out⟩, hbel⟩

end Go.Proofs.YtoeihigdndkjeaaGreatDoor

/-
  Contracts of the document's above, greatest, Root and Inverse: each root is the greatest r with r times r not above its number; memory stays as it was.
-/
namespace Go.Proofs.YtoeihigdndkjeaaGreatDoor
open Go.RowKit
set_option linter.unusedVariables false

theorem above_iff (a q : Int) (ha : 1 ≤ a) : q / a < a ↔ q < a * a := by
  constructor
  · intro h; exact Int.lt_mul_of_ediv_lt (by omega) h
  · intro h; exact Int.ediv_lt_of_lt_mul (by omega) h

theorem ref_above (a n m : Int) (a0 : 0 ≤ a) (a1 : a ≤ 18446744073709551615) (n0 : 1 ≤ n) (n1 : n ≤ 18446744073709551615) (m0 : 0 ≤ m) (m1 : m ≤ 18446744073709551615) (w : World) :
    Calls Tryz.prog 120 #[.int .u64 a, .int .u64 n, .int .u64 m] w fun e w' => e = .returned (.bool (decide (m / n < a * a))) ∧ w = w' := by
  have q0 : 0 ≤ m / n := Int.ediv_nonneg m0 (by omega)
  have q1 : m / n ≤ m := Int.ediv_le_self _ m0
  by_cases c : a = 0
  · subst c
    have e : decide (m / n < 0 * 0) = false := by simp; omega
    rw [e]
    go_enter Tryz.func120, Tryz.ntmps120
    go_wp2
    go_ret
    exact ⟨rfl, rfl⟩
  · have e : decide (m / n < a * a) = decide (m / n / a < a) := by rw [decide_eq_decide]; exact (above_iff a (m / n) (by omega)).symm
    rw [e]
    have p0 : 0 ≤ m / n / a := Int.ediv_nonneg q0 (by omega)
    have p1 : m / n / a ≤ m / n := Int.ediv_le_self _ q0
    have ca : (a == 0) = false := by simpa using c
    have cn : (n == 0) = false := by simp; omega
    clear e
    go_enter Tryz.func120, Tryz.ntmps120
    go_wp2
    go_ret
    exact ⟨rfl, rfl⟩

theorem ref_greatest (n m : Int) (n0 : 1 ≤ n) (n1 : n ≤ 18446744073709551615) (m0 : 0 ≤ m) (m1 : m ≤ 18446744073709551615) (w : World) :
    Calls Tryz.prog 100 #[.int .u64 n, .int .u64 m] w fun e w' => (∃ r, e = .returned (.int .u64 r) ∧ IsRoot (m / n) r ∧ r ≤ 4294967295) ∧ w = w' := by
  have q0 : 0 ≤ m / n := Int.ediv_nonneg m0 (by omega)
  have q1 : m / n ≤ m := Int.ediv_le_self _ m0
  have hab : ∀ a, 0 ≤ a → a ≤ 18446744073709551615 → ∀ w, Calls Tryz.prog 120 #[.int .u64 a, .int .u64 n, .int .u64 m] w fun e w' => e = .returned (.bool (decide (m / n < a * a))) ∧ w = w' := fun a h0 h1 w => ref_above a n m h0 h1 n0 n1 m0 m1 w
  go_enter Tryz.func100, Tryz.ntmps100
  go_wp2
  go_loop [5, 6] (fun l u => ∃ (lo hi : Int), l = .int .u64 lo ∧ u = .int .u64 hi ∧ 0 ≤ lo ∧ lo < hi ∧ hi ≤ 4294967296 ∧ Hid (lo * lo ≤ m / n ∧ m / n < hi * hi)) (fun l u => (intOf u - intOf l).toNat)
  case atStart => exact ⟨0, 4294967296, rfl, rfl, by omega, by omega, by omega, Lib.hid ⟨by omega, by omega⟩⟩
  case round =>
    obtain ⟨lo, hi, rfl, rfl, l0, l1, u1, H⟩ := hrel
    by_cases hd : 1 < hi - lo
    · obtain ⟨x, hx⟩ : ∃ x, (lo + hi) / 2 = x := ⟨_, rfl⟩
      have x0 : lo < x ∧ x < hi := by omega
      by_cases hc : m / n < x * x
      · have e := decide_eq_true hc
        have h := hab x (by omega) (by omega)
        rw [e] at h
        have HC := Lib.hid hc
        clear hc e hab
        go_wp2_with (go_at_call 120; (with_reducible refine (h _).mono ?_); rintro e w' ⟨rfl, rfl⟩)
        go_round
        case rel => exact ⟨lo, x, rfl, rfl, l0, by omega, by omega, Lib.hid ⟨H.out.1, HC.out⟩⟩
        case measure => simp [intOf]; omega
      · have e := decide_eq_false hc
        have h := hab x (by omega) (by omega)
        rw [e] at h
        have HC := Lib.hid hc
        clear hc e hab
        go_wp2_with (go_at_call 120; (with_reducible refine (h _).mono ?_); rintro e w' ⟨rfl, rfl⟩)
        go_round
        case rel => exact ⟨x, hi, rfl, rfl, by omega, by omega, by omega, Lib.hid ⟨by have := HC.out; omega, H.out.2⟩⟩
        case measure => simp [intOf]; omega
    · have hh : hi = lo + 1 := by omega
      have hR : IsRoot (m / n) lo := ⟨l0, H.out.1, by have := H.out.2; rwa [hh] at this⟩
      have HR := Lib.hid hR
      clear hab hR H hh
      go_wp2
      go_ret
      exact ⟨⟨_, rfl, HR.out, by omega⟩, rfl⟩


theorem ref_inverse (n : Int) (h0 : 0 ≤ n) (h1 : n ≤ 18446744073709551615) (w : World) :
    Calls Tryz.prog 71 #[.int .u64 n] w fun e w' => (∃ r, e = .returned (.int .u64 r) ∧ IsRoot (281474976710656 / one_of n) r ∧ r ≤ 4294967295) ∧ w = w' := by
  by_cases c : n = 0
  · subst c
    have e : (281474976710656 : Int) / one_of 0 = 281474976710656 := by decide
    rw [e]
    have hR : IsRoot 281474976710656 16777216 := by unfold IsRoot; decide
    have HR := Lib.hid hR
    clear hR e
    go_enter Tryz.func71, Tryz.ntmps71
    go_wp2
    go_ret
    exact ⟨⟨_, rfl, HR.out, by decide⟩, rfl⟩
  · have e : one_of n = n := by unfold one_of; rw [if_neg c]
    rw [e]
    have hr := ref_greatest n 281474976710656 (by omega) h1 (by decide) (by decide) w
    have cn : (n == 0) = false := by simpa using c
    go_enter Tryz.func71, Tryz.ntmps71
    go_wp2_with fail
    refine hr.mono ?_
    rintro e w' ⟨⟨r, rfl, hR⟩, rfl⟩
    have HR := Lib.hid hR
    clear hR
    go_wp2
    go_ret
    exact ⟨⟨_, rfl, HR.out⟩, rfl⟩

end Go.Proofs.YtoeihigdndkjeaaGreatDoor
