import Derived.Test.YtoeihigdndkjeaaGreatDoorJ20
import Derived.Test.YtoeihigdndkjeaaGreatDoorJ23
import Derived.Test.YtoeihigdndkjeaaGreatDoorJ02
import Derived.Deep.RegionHeld3
import Derived.BigQuiet
import Derived.Test.YtoeihigdndkjeaaGreatDoorJ22
import Derived.Test.YtoeihigdndkjeaaGreatDoorJ04
/-
  A talk: what is due and what was said; the errors ahead of it.
-/
namespace Go.Proofs.YtoeihigdndkjeaaGreatDoor
open Go.RowKit Go.Shelf
set_option linter.unusedVariables false

set_option maxRecDepth 100000 in
theorem cloneI (q : Rw) (w : World) (h : q.In .i64 w) (hn : q.n ≤ 65536) :
    Calls Tryz.prog 58 #[.slice q.a q.n q.cap] w fun e w' => CopyR .i64 q w e w' := by
  have q22 : ∀ (w : World) (a : Option Addr) (n c n' c' : Nat), (binOp .eql 35 (.slice a n c) (.slice none n' c')).run Tryz.prog w = .ok (.bool a.isNone) w := fun w a n c n' c' => Lib.run_eql_slice_nil w _ _ a n c n' c' Tryz.underlying35
  obtain ⟨a, n, cap, v⟩ := q
  obtain ⟨hE, h1, h2, h3⟩ := h
  simp only at hE h1 h2 h3 hn ⊢
  cases a with
  | none =>
    obtain rfl := h3.1 rfl
    obtain rfl : n = 0 := by omega
    obtain rfl : v = [] := List.eq_nil_of_length_eq_zero hE.1
    clear hE
    go_enter Tryz.func58, Tryz.ntmps58
    go_wp2
    go_ret
    exact ⟨⟨⟨none, 0, 0, []⟩, rfl, ⟨Elems.nil_ _ _ _, Nat.le_refl _, by omega, ⟨(fun _ => rfl), (fun x hx => by cases hx)⟩⟩, rfl, rfl, fun x hx => by cases hx⟩, Below.refl _ _⟩
  | some ad =>
    have hown : (w.alloc (.cells #[] 3)).ownsRow w.heap.size 3 1 (.slice (some ⟨w.heap.size, 0, none⟩) 0 0) 0 (([] : List Int).map (.int .i64)) :=
      World.ownsRow_lit (e := 3) (size := 1) w #[] 0 (Nat.le_refl _) (by unfold maxLen; omega) rfl
    have hB : Below w.heap.size w (w.alloc (.cells #[] 3)) := (Below.refl _ _).alloc (Nat.le_refl _) _
    obtain ⟨v', w', hr, ho, hg, _⟩ := run_append_elems (P := Tryz.prog) .i64 (w.alloc (.cells #[] 3)) w.heap.size 35 3 8 (by omega) Tryz.underlying35 info_int _ 0 [] hown (some ad) n cap v (hE.below hB) h3.1 (by omega) (by omega) hB.size
    have hb2 : Below w.heap.size w w' := hB.grown hg hB.size (fun k hk => (hown.lt k hk).1)
    obtain ⟨g, rfl, hgi, hgv, hgn, hgb⟩ := own_rw ho (by simpa using hE.2.2.1) (by omega)
    have HH : Hid (CopyR .i64 ⟨some ad, n, cap, v⟩ w (.returned (.slice g.a g.n g.cap)) w') := Lib.hid ⟨⟨g, rfl, hgi, by simpa using hgv, by simpa using hgn, hgb⟩, hb2⟩
    clear hE hown hB ho hg hb2 hgi hgv hgn hgb
    go_enter Tryz.func58, Tryz.ntmps58
    go_wp2_with (at_builtin; refine wpList_append_run (by rfl) _ _ _ (by rfl) _ _ (by rfl) (by rfl) hr ?_)
    go_ret
    exact HH.out

/-- a talk in block T, of the run in block r; what is due, what was said -/
structure TalkAt (w : World) (T r : Nat) (due said : Rw) : Prop where
  box : Box w T 123 #[.pointer (some ⟨r, 0, none⟩), .slice due.a due.n due.cap, .slice said.a said.n said.cap]
  due : due.In .i64 w
  said : said.In .i64 w

set_option maxRecDepth 100000 in
theorem fault9 (m : Nat) (s : Sz) (ok : s.Ok) (W : Wt7) (w : World) (hm : ModAt w m s W) (a : Option Addr) (n cap : Nat) (ts : List Int) (most : Int) (hmo : -9223372036854775808 ≤ most ∧ most ≤ 9223372036854775807) (hE : Elems .i64 w a n ts) (hn : n ≤ 1000) :
    Calls Tryz.prog 54 #[.pointer (some ⟨m, 0, none⟩), .slice a n cap, .int .i64 most] w fun e w' => e = .returned (.int .i64 (check9 s.v s.p ts most)) ∧ Below w.heap.size w w' := by
  have bd := ok.bd
  have cS := shape8 m s W w hm
  have cC := fun V (hV : Below w.heap.size w V) => check_code s.l s.w s.h s.i s.v s.p most a n cap ts V (by omega) (by omega) hmo (hE.below hV) hn
  unfold sh9 at cC
  unfold Sz.val shv at cS
  clear hE hm bd ok
  go_enter Tryz.func54, Tryz.ntmps54
  go_wp2_with fail
  refine cS.mono ?_
  rintro e wa ⟨rfl, hba⟩
  have cD := cC wa hba
  clear cS cC
  go_wp2_with fail
  refine cD.mono ?_
  rintro e wb ⟨rfl, hbb⟩
  have HB := Lib.hid (below_two hba hbb)
  clear cD hba hbb
  go_wp2
  go_ret
  exact ⟨rfl, HB.out⟩

set_option maxRecDepth 100000 in
theorem talk9 (m : Nat) (s : Sz) (W : Wt7) (w : World) (hm : ModAt w m s W) (q : Rw) (hq : q.In .i64 w) (hn : q.n ≤ 65536) (K : KF8) :
    Calls Tryz.prog 55 #[.pointer (some ⟨m, 0, none⟩), .slice q.a q.n q.cap] w fun e w' =>
      (∃ T r mb due, e = .returned (.pointer (some ⟨T, 0, none⟩)) ∧ w.heap.size ≤ T ∧ w.heap.size ≤ r ∧ w.heap.size ≤ mb ∧ r ≠ mb ∧ RunAt w' r m mb s 0 0 0 K ∧ TalkAt w' T r due ⟨none, 0, 0, []⟩ ∧ due.v = q.v ∧ due.n = q.n ∧ (∀ x, due.a = some x → x.block ≠ r ∧ x.block ≠ mb)) ∧ Below w.heap.size w w' := by
  have cR := run8 m s W w hm K
  have HQ := Lib.hid hq
  clear hm hq
  go_enter Tryz.func55, Tryz.ntmps55
  go_wp2_with fail
  refine cR.mono ?_
  rintro e wa ⟨⟨r, mb, rfl, h1, h2, h3, hR⟩, hba⟩
  have cC := cloneI q wa (HQ.out.below hba) hn
  have hrl := hR.box.lt
  have hml : mb < wa.heap.size := let ⟨D, hO, _⟩ := hR.map; hO.lt
  have HR := Lib.hid hR
  have HBa := Lib.hid hba
  clear cR hR hba
  go_wp2_with fail
  refine cC.mono ?_
  rintro e wb ⟨⟨g, rfl, hgi, hgv, hgn, hgb⟩, hbb⟩
  have HB := Lib.hid (below_two HBa.out hbb)
  have HRb := Lib.hid (HR.out.bel hbb)
  have HG := Lib.hid hgi
  have HGV := Lib.hid hgv
  have HGN := Lib.hid hgn
  have HGB : Hid (∀ x, g.a = some x → x.block ≠ r ∧ x.block ≠ mb) := Lib.hid fun x hx => by have := hgb x hx; omega
  clear cC hgi hgv hgn hgb hbb
  go_wp2
  go_ret
  have B1 : ∀ o, Below wb.heap.size wb (wb.alloc o) := fun o => (Below.refl _ _).alloc (Nat.le_refl _) o
  exact ⟨⟨wb.heap.size, r, mb, g, rfl, HB.out.size, h1, h2, h3, HRb.out.bel (B1 _), ⟨box_new _ _ _, HG.out.below (B1 _), ⟨Elems.nil_ _ _ _, Nat.le_refl _, by show (0 : Nat) ≤ _; omega, ⟨(fun _ => rfl), (fun x hx => by cases hx)⟩⟩⟩, HGV.out, HGN.out, HGB.out⟩, HB.out.alloc HB.out.size _⟩

set_option maxRecDepth 100000 in
theorem said9 (T r : Nat) (due said : Rw) (w : World) (h : TalkAt w T r due said) (hn : said.n ≤ 65536) :
    Calls Tryz.prog 32 #[.pointer (some ⟨T, 0, none⟩)] w fun e w' => CopyR .i64 said w e w' := by
  have z2 : w.cell? ⟨T, 2, none⟩ = some (.slice said.a said.n said.cap) := h.box.cell 2
  have cC := cloneI said w h.said hn
  clear h
  go_enter Tryz.func32, Tryz.ntmps32
  go_wp2_with fail
  refine cC.mono ?_
  rintro e wb hC
  obtain ⟨⟨g, rfl, hgi⟩, hbb⟩ := hC
  have HC : Hid (CopyR .i64 said w (.returned (.slice g.a g.n g.cap)) wb) := Lib.hid ⟨⟨g, rfl, hgi⟩, hbb⟩
  clear cC hgi hbb
  go_wp2
  go_ret
  exact HC.out

end Go.Proofs.YtoeihigdndkjeaaGreatDoor

/-
  A row of tokens of a talk's own: every cell of its block is a number of 64 bits; one token more.
-/
namespace Go.Proofs.YtoeihigdndkjeaaGreatDoor
open Go.RowKit Go.Shelf
set_option linter.unusedVariables false

/-- every cell is a number of 64 bits -/
def All64 (cs : List Value) : Prop := ∀ u ∈ cs, ∃ y, u = Value.int .i64 y
theorem all64_app {a b : List Value} (h : All64 a) (k : All64 b) : All64 (a ++ b) := fun u hu => (List.mem_append.1 hu).elim (h u) (k u)
theorem all64_map (xs : List Int) : All64 (xs.map (Value.int .i64)) := fun u hu => let ⟨y, _, e⟩ := List.mem_map.1 hu; ⟨y, e.symm⟩
theorem all64_zero (n : Nat) : All64 (Builtin.zeroCells #[.int .i64 0] n).toList := by
  intro u hu
  unfold Builtin.zeroCells at hu
  simp at hu
  obtain ⟨q, _, e⟩ := hu
  have : q % 1 = 0 := Nat.mod_one q
  rw [this] at e
  exact ⟨0, by simpa using e.symm⟩
/-- a row of tokens of a talk's own -/
structure SaidR (w : World) (base : Nat) (v : Value) (n : Nat) (xs : List Int) : Prop where
  own : w.ownsRow base 3 1 v n (xs.map (.int .i64))
  all : ∀ g, v.ownBlock = some g → ∃ cs, Box w g 3 cs ∧ All64 cs.toList
theorem saidR_nil (w : World) (base : Nat) : SaidR w base (.slice none 0 0) 0 [] := ⟨own_nil _ _ _, fun g hg => by simp [Value.ownBlock] at hg⟩

theorem said_next (w : World) (base : Nat) (v : Value) (n : Nat) (xs : List Int) (x : Int) (h : SaidR w base v n xs) (hn : n ≤ 1000) (hbase : base ≤ w.heap.size) :
    ∃ v' w', Sem.run Tryz.prog (Builtin.append_ #[35, 35] 35 #[v, .slice (some ⟨w.heap.size, 0, none⟩) 1 1]) (w.alloc (.cells #[.int .i64 x] 3)) = .ok v' w' ∧ SaidR w' base v' (n + 1) (xs ++ [x]) ∧
      w.grownBy w' v.ownBlock ∧ (v'.ownBlock = v.ownBlock ∨ v'.ownBlock = some (w.heap.size + 1)) := by
  obtain ⟨v', w', hr, ho, hg, hb⟩ := run_append_lits (P := Tryz.prog) .i64 w base 35 3 8 (by omega) Tryz.underlying35 info_int v n 1 xs [x] #[.int .i64 x] rfl rfl h.own (by omega) (by omega) hbase
  refine ⟨v', w', hr, ⟨ho, fun g hg2 => ?_⟩, hg, hb⟩
  obtain ⟨i0, hi, hz0, hz1, hz2⟩ := info_int
  have hnews := World.news_of_block (cs := #[.int .i64 x]) (t := 3) (fr := (0, 0)) (heap_alloc_new w (.cells #[.int .i64 x] 3))
  have hzc : (Value.int .i64 0).cells = #[.int .i64 0] := rfl
  obtain ⟨wl, hwl⟩ : ∃ wl, w.alloc (.cells #[.int .i64 x] 3) = wl := ⟨_, rfl⟩
  have hbw : Below w.heap.size w wl := by rw [← hwl]; exact (Below.refl _ _).alloc (Nat.le_refl _) _
  rw [hwl] at hr hnews
  rcases h.own.2 with ⟨rfl, rfl⟩ | ⟨g0, cap, cur, rfl, hb0, hg0, hnc, hcm, hcs, ht⟩
  · have e := run_append_nil (P := Tryz.prog) (w := wl) 35 35 3 i0 _ Tryz.underlying35 hi hz0 ⟨w.heap.size, 0, none⟩ 1 1 [.int .i64 x] (by rw [hz1]; rfl) hnews (by omega) (by omega) (by rw [hz2]; omega)
    rw [hr] at e
    simp only [Result.ok.injEq] at e
    obtain ⟨rfl, rfl⟩ := e
    simp only [Value.ownBlock, Option.some.injEq] at hg2
    subst hg2
    refine ⟨_, box_new wl.drew _ _, ?_⟩
    rw [Array.toList_append]
    exact all64_app (all64_map [x]) (all64_zero _)
  · obtain ⟨cs2, hB, h64⟩ := h.all g0 rfl
    have hcur : cs2 = cur := by
      have := hB.symm.trans hg0
      simpa using this
    subst hcur
    have hBl : Box wl g0 3 cs2 := hB.bel hbw
    by_cases hroom : n + 1 ≤ cap
    · have e := run_append_room (P := Tryz.prog) (w := wl) 35 35 3 i0 Tryz.underlying35 hi g0 n cap cs2 hBl ⟨w.heap.size, 0, none⟩ 1 1 [.int .i64 x] (by rw [hz1]; rfl) hnews (by simp [Value.oneCell']) hroom (by rw [hz1, hcs]; simp; omega)
      rw [hr] at e
      simp only [Result.ok.injEq] at e
      obtain ⟨rfl, rfl⟩ := e
      simp only [Value.ownBlock, Option.some.injEq] at hg2
      subst hg2
      refine ⟨_, hBl.setRow, ?_⟩
      exact all64_app (all64_app (fun u hu => h64 u (List.mem_of_mem_take hu)) (all64_map [x])) (fun u hu => h64 u (List.mem_of_mem_drop hu))
    · have holds : ∀ j u, (cs2.toList.take (n * 1))[j]? = some u → wl.cell? ((⟨g0, 0, none⟩ : Addr).add j) = some u := by
        intro j u hu
        rw [List.getElem?_take] at hu
        split at hu
        · have := hBl.cell j
          simp only [Addr.add_lit, Nat.zero_add]
          rw [this, ← Array.getElem?_toList]; exact hu
        · cases hu
      have e := run_append_grow (P := Tryz.prog) (w := wl) 35 35 3 i0 _ Tryz.underlying35 hi hz0 ⟨g0, 0, none⟩ n cap (cs2.toList.take (n * 1)) (by rw [hz1]; simp; omega) holds ⟨w.heap.size, 0, none⟩ 1 1 [.int .i64 x] (by rw [hz1]; rfl) hnews (by omega) (by omega)
        (by rw [hz2]; have := nextslicecap_le (need := n + 1) (old := cap) (by omega); omega)
      rw [hr] at e
      simp only [Result.ok.injEq] at e
      obtain ⟨rfl, rfl⟩ := e
      simp only [Value.ownBlock, Option.some.injEq] at hg2
      subst hg2
      refine ⟨_, box_new wl.drew _ _, ?_⟩
      rw [Array.toList_append, Array.toList_append]
      exact all64_app (all64_app (fun u hu => h64 u (List.mem_of_mem_take hu)) (all64_map [x])) (all64_zero _)

end Go.Proofs.YtoeihigdndkjeaaGreatDoor

/-
  What stands where a talk's row of tokens grows: a model, a run, the tables.
-/
namespace Go.Proofs.YtoeihigdndkjeaaGreatDoor
open Go.RowKit Go.Shelf
set_option linter.unusedVariables false

theorem no8_all {cs : Array Value} (h : All64 cs.toList) : No8 cs := by
  intro o y e
  rw [← Array.getElem?_toList] at e
  obtain ⟨z, hz⟩ := h _ (List.mem_of_getElem? e)
  cases hz
theorem but_of {w w' : World} {g : Nat} (hg : w.grownBy w' (some g)) : But g w w' := fun k hk hne => hg.block k hk (by simpa using hne)
theorem mod_grows {w w' : World} {m g : Nat} {s : Sz} {W : Wt7} {cs : Array Value} (h : ModAt w m s W) (hX : Box w g 3 cs) (h64 : All64 cs.toList) (hg : w.grownBy w' (some g)) : ModAt w' m s W := by
  have h8 := no8_all h64
  have hb := but_of hg
  obtain ⟨k1, k2, k3, ⟨c1, c2, c3, c4⟩, k5⟩ := h.inn
  refine ⟨h.box.kept hg (by simpa using box_ne8 h.box hX (by decide)), ⟨gr_but hX h8 hb k1, gr_but hX h8 hb k2, rw_but hX h8 hb k3, ⟨c1, c2, fun b hbm => bk_but hX h8 hb (c3 b hbm), fun hn => ?_⟩, k5⟩, h.l, h.w, h.h, h.i, h.v, h.p, h.whole⟩
  obtain ⟨gb, off, ha, hlt, hx⟩ := c4 hn
  have hne : gb ≠ g := by
    rintro rfl
    have h0 := hx 0 hn 0 (by decide)
    rw [hX.cell] at h0
    have h1 : (W.bs.getD 0 default).cells[0]? = some (.slice (W.bs.getD 0 default).x.a (W.bs.getD 0 default).x.n (W.bs.getD 0 default).x.cap) := rfl
    rw [h1, ← Array.getElem?_toList] at h0
    obtain ⟨z, hz⟩ := h64 _ (List.mem_of_getElem? h0)
    cases hz
  refine ⟨gb, off, ha, Nat.lt_of_lt_of_le hlt hg.size, fun i hi k hk => ?_⟩
  rw [World.cell?_of_block (w := w) (a := ⟨gb, off + i * 20 + k, none⟩) (hb gb hlt hne)]
  exact hx i hi k hk
theorem OwnK.ne_box {w : World} {b n g : Nat} {D : DataW Unit} {T : TypeId} {cs : Array Value} (h : OwnK w b n D) (hX : Box w g T cs) : b ≠ g := by
  rintro rfl
  obtain ⟨es, clock, hh, _⟩ := h
  have := hh.symm.trans hX
  simp at this
theorem run_grows {w w' : World} {r m mb g p n N : Nat} {s : Sz} {K : KF8} {cs : Array Value} (h : RunAt w r m mb s p n N K) (hX : Box w g 3 cs) (h64 : All64 cs.toList) (hg : w.grownBy w' (some g)) : RunAt w' r m mb s p n N K := by
  obtain ⟨D, hO, hD⟩ := h.map
  exact ⟨h.box.kept hg (by simpa using box_ne8 h.box hX (by decide)), D, hO.kept hg (by simpa using hO.ne_box hX), hD.kept fun q hq => rw_but hX (no8_all h64) (but_of hg) hq⟩
theorem stab_grows {w w' : World} {g : Nat} (h : STab w) (hlt : 0 < g) (hg : w.grownBy w' (some g)) : STab w' := fun i hi => by
  have h0 := h i hi
  rw [World.cell?_of_block (w := w) (a := ⟨0, i, none⟩) (but_of hg _ (World.block_lt_of_cell? _ _ h0) (Nat.ne_of_lt hlt))]
  exact h0
theorem tab_grows {w w' : World} {g : Nat} (h : Tab w) (hlt : 1 < g) (hg : w.grownBy w' (some g)) : Tab w' := fun i hi => by
  have h0 := h i hi
  rw [World.cell?_of_block (w := w) (a := ⟨1, i, none⟩) (but_of hg _ (World.block_lt_of_cell? _ _ h0) (Nat.ne_of_lt hlt))]
  exact h0
theorem below_none {w w' : World} (hg : w.grownBy w' none) : Below w.heap.size w w' := ⟨hg.os, hg.tape, hg.output, hg.size, fun k hk => hg.block k hk (by simp)⟩

end Go.Proofs.YtoeihigdndkjeaaGreatDoor

/-
  The next token of a talk.
-/
namespace Go.Proofs.YtoeihigdndkjeaaGreatDoor
open Go.RowKit Go.Shelf
set_option linter.unusedVariables false
attribute [local go_sem] Oper.semAt_some

theorem SaidR.away {w w' : World} {base n : Nat} {v : Value} {xs : List Int} (h : SaidR w base v n xs) (hk : ∀ g, v.ownBlock = some g → w'.heap[g]? = w.heap[g]?) : SaidR w' base v n xs := by
  refine ⟨⟨h.own.1, ?_⟩, fun g hg => let ⟨cs, h1, h2⟩ := h.all g hg; ⟨cs, (hk g hg).trans h1, h2⟩⟩
  rcases h.own.2 with h1 | ⟨g, cap, cur, h1, h2, h3, h4⟩
  · exact .inl h1
  · exact .inr ⟨g, cap, cur, h1, h2, (hk g (by rw [h1]; rfl)).trans h3, h4⟩
theorem SaidR.form {w : World} {base n : Nat} {v : Value} {xs : List Int} (h : SaidR w base v n xs) : ∃ a cap, v = .slice a n cap := by
  rcases h.own.2 with ⟨h1, rfl⟩ | ⟨g, cap, cur, h1, _⟩
  · exact ⟨none, 0, h1⟩
  · exact ⟨_, cap, h1⟩
/-- a talk as it stands -/
structure TalkSt (w : World) (T r m mb : Nat) (s : Sz) (W : Wt7) (st : St8) (N : Nat) (due : Rw) (v : Value) (n : Nat) (said : List Int) (base : Nat) : Prop where
  box : Box w T 123 #[.pointer (some ⟨r, 0, none⟩), .slice due.a due.n due.cap, v]
  dueIn : due.In .i64 w
  away : ∀ b o, due.a = some ⟨b, o, none⟩ → b ≠ r ∧ b ≠ mb
  saidR : SaidR w base v n said
  run : RunAt w r m mb s st.p 0 N st.K
  mod : ModAt w m s W
  tab : Tab w
  stab : STab w
  le : base ≤ w.heap.size
  ptab : 1 < base
  pstab : 0 < base
/-- what lies below B stands, where all of the talk lies from B on -/
def Stays (w w' : World) (T r mb base : Nat) : Prop := ∀ B w0, Below B w0 w → B ≤ T → B ≤ r → B ≤ mb → B ≤ base → Below B w0 w'

/-- all below base stands, but the talk, its run and what that keeps -/
structure AwayT (w w' : World) (T r mb base : Nat) : Prop where
  block : ∀ k, k < base → k ≠ T → k ≠ r → k ≠ mb → w'.heap[k]? = w.heap[k]?
  os : w'.os = w.os
  tape : w'.tape = w.tape
  output : w'.output = w.output
  size : w.heap.size ≤ w'.heap.size
theorem AwayT.elems {w w' : World} {T r mb base : Nat} (h : AwayT w w' T r mb base) {kd : IntKind} {a : Option Addr} {n : Nat} {xs : List Int} (hE : Elems kd w a n xs) (hne : ∀ x, a = some x → x.block < base ∧ x.block ≠ T ∧ x.block ≠ r ∧ x.block ≠ mb) : Elems kd w' a n xs :=
  ⟨hE.1, hE.2.1, hE.2.2.1, fun hn => let ⟨b, off, ha, hc⟩ := hE.2.2.2 hn; ⟨b, off, ha, fun i hi => (World.cell?_of_block (w := w) (a := ⟨b, off + i, none⟩) (let ⟨h1, h2, h3, h4⟩ := hne ⟨b, off, none⟩ ha; h.block b h1 h2 h3 h4)).trans (hc i hi)⟩⟩

/-- what stands where a block of three cells, none of them a number of 8 bits, changes -/
theorem mod_three {w w' : World} {m T : Nat} {s : Sz} {W : Wt7} {X : TypeId} {cs : Array Value} (h : ModAt w m s W) (hX : Box w T X cs) (h8 : No8 cs) (h3 : cs.size ≤ 3) (hne : X ≠ 94) (hg : w.grownBy w' (some T)) : ModAt w' m s W := by
  have hb := but_of hg
  obtain ⟨k1, k2, k3, ⟨c1, c2, c3, c4⟩, k5⟩ := h.inn
  refine ⟨h.box.kept hg (by simpa using box_ne8 h.box hX hne.symm), ⟨gr_but hX h8 hb k1, gr_but hX h8 hb k2, rw_but hX h8 hb k3, ⟨c1, c2, fun b hbm => bk_but hX h8 hb (c3 b hbm), fun hn => ?_⟩, k5⟩, h.l, h.w, h.h, h.i, h.v, h.p, h.whole⟩
  obtain ⟨gb, off, ha, hlt, hx⟩ := c4 hn
  have hne : gb ≠ T := by
    rintro rfl
    have h9 := hx 0 hn 19 (by decide)
    rw [hX.cell, Array.getElem?_eq_none (by omega)] at h9
    have h8 : (19 : Nat) < (W.bs.getD 0 default).cells.size := (by decide : 19 < 20)
    rw [Array.getElem?_eq_getElem h8] at h9
    cases h9
  refine ⟨gb, off, ha, Nat.lt_of_lt_of_le hlt hg.size, fun i hi k hk => ?_⟩
  rw [World.cell?_of_block (w := w) (a := ⟨gb, off + i * 20 + k, none⟩) (hb gb hlt hne)]
  exact hx i hi k hk
theorem run_three {w w' : World} {r m mb T p n N : Nat} {s : Sz} {K : KF8} {X : TypeId} {cs : Array Value} (h : RunAt w r m mb s p n N K) (hX : Box w T X cs) (h8 : No8 cs) (hne : X ≠ 91) (hg : w.grownBy w' (some T)) : RunAt w' r m mb s p n N K := by
  obtain ⟨D, hO, hD⟩ := h.map
  exact ⟨h.box.kept hg (by simpa using box_ne8 h.box hX hne.symm), D, hO.kept hg (by simpa using hO.ne_box hX), hD.kept fun q hq => rw_but hX h8 (but_of hg) hq⟩
theorem tab_three {w w' : World} {T : Nat} {X : TypeId} {cs : Array Value} (h : Tab w) (hX : Box w T X cs) (h3 : cs.size ≤ 3) (hg : w.grownBy w' (some T)) : Tab w' := fun i hi => by
  have hne : 1 ≠ T := by
    intro e
    subst e
    have := h 32 (by decide)
    rw [hX.cell, Array.getElem?_eq_none (by omega)] at this
    cases this
  have h0 := h i hi
  rw [World.cell?_of_block (w := w) (a := ⟨1, i, none⟩) (but_of hg _ (World.block_lt_of_cell? _ _ h0) hne)]
  exact h0
theorem stab_three {w w' : World} {T : Nat} {X : TypeId} {cs : Array Value} (h : STab w) (hX : Box w T X cs) (h3 : cs.size ≤ 3) (hg : w.grownBy w' (some T)) : STab w' := fun i hi => by
  have hne : 0 ≠ T := by
    intro e
    subst e
    have := h 32 (by decide)
    rw [hX.cell, Array.getElem?_eq_none (by omega)] at this
    cases this
  have h0 := h i hi
  rw [World.cell?_of_block (w := w) (a := ⟨0, i, none⟩) (but_of hg _ (World.block_lt_of_cell? _ _ h0) hne)]
  exact h0
theorem no8_talk (a b c : Value) (ha : ∀ y, a ≠ .int .i8 y) (hb : ∀ y, b ≠ .int .i8 y) (hc : ∀ y, c ≠ .int .i8 y) : No8 #[a, b, c] := by
  intro o y e
  match o with
  | 0 => exact ha y (by simpa using e)
  | 1 => exact hb y (by simpa using e)
  | 2 => exact hc y (by simpa using e)
  | o + 3 => simp at e

set_option maxHeartbeats 8000000 in
set_option maxRecDepth 100000 in
theorem next9 (T r m mb N n base : Nat) (s : Sz) (ok : s.Ok) (W : Wt7) (st : St8) (due : Rw) (v : Value) (said : List Int) (w : World) (h : TalkSt w T r m mb s W st N due v n said base) (h0 : st.x = []) (h200 : s.p ≤ 200) (hp : st.p ≤ s.p) (hd0 : 0 < due.n) (hd : due.n ≤ 1000) (hn : n ≤ 1000) (hN : N + 16 * due.n + 16 ≤ 10000)
    (hf : faultO s st.p due.v = 0) :
    Calls Tryz.prog 31 #[.pointer (some ⟨T, 0, none⟩)] w fun e w' => ∃ (B : Nat) (due' : Rw) (v' : Value) (N' : Nat), e = .returned (.tuple #[.int .i64 B, .bool true]) ∧ B < s.v ∧ Best (outO (W.nums s) (runO (W.nums s) st (due.v.map Int.toNat)).x) s.v B ∧
      TalkSt w' T r m mb s W ⟨[], st.p + due.n, (runO (W.nums s) st (due.v.map Int.toNat)).K⟩ N' due' v' (n + 1) (said ++ [(B : Int)]) base ∧ due'.v = [(B : Int)] ∧ due'.n = 1 ∧ N' ≤ N + 16 * due.n ∧ Stays w w' T r mb base ∧ AwayT w w' T r mb base := by
  have z0 : w.cell? ⟨T, 0, none⟩ = some (.pointer (some ⟨r, 0, none⟩)) := h.box.cell 0
  have z1 : w.cell? ⟨T, 1, none⟩ = some (.slice due.a due.n due.cap) := h.box.cell 1
  have eTr : T ≠ r := box_ne8 h.box h.run.box (by decide)
  have eTmb : T ≠ mb := let ⟨D, hO, _⟩ := h.run.map; (hO.ne_box h.box).symm
  have hbd : Below w.heap.size w w.drew := (Below.refl _ _).drew
  have cF := feed8 r m mb due.n N due.cap st s ok W w.drew (h.run.bel hbd) (h.mod.bel hbd) h0 h200 hp due.a due.v (h.dueIn.1.below hbd) hd h.away hN (h.tab.below hbd) (h.stab.below hbd)
  have H := Lib.hid h
  have HF := Lib.hid hf
  have OK := Lib.hid ok
  have hl := Lib.hid h.dueIn.1.1
  clear h hf ok h0
  go_enter Tryz.func31, Tryz.ntmps31
  go_upto_region 1 with (fail)
  go_region_held3 (fun w' => w'.cell? ⟨T, 0, none⟩ = some (.pointer (some ⟨r, 0, none⟩)) ∧ w'.cell? ⟨T, 1, none⟩ = some (.slice due.a due.n due.cap))
    (first | go_keep | (go_split_ands; refine ⟨?_, ?_⟩ <;> assumption))
    (first
      | (go_at_call 11; (with_reducible refine cF.mono ?_); rintro e w1 ⟨vv, N1, rfl, q1, q2, q3, q4, q5, q6, q7, q8⟩
         obtain ⟨g, c, rfl, q9, q10, q11⟩ := q3 HF.out (by rw [hl.out]; exact hd0)
         rw [HF.out]
         have k0 := q8.cell z0 eTr eTmb
         have k1 := q8.cell z1 eTr eTmb))
  have hnx : nextO s (W.nums s) st due.v = runO (W.nums s) st (due.v.map Int.toNat) := by unfold nextO; rw [if_pos HF.out]
  have hpp : (runO (W.nums s) st (due.v.map Int.toNat)).p = st.p + due.n := by rw [runO_p, List.length_map, hl.out]
  rw [hnx, hpp] at q4
  obtain ⟨B0, hB⟩ := best_exists (outO (W.nums s) (runO (W.nums s) st (due.v.map Int.toNat)).x) s.v
  obtain ⟨B, rfl, hBl⟩ := best_is hB (by have := OK.out.bd.2.2.2.2.1.1; omega)
  have hv512 : s.v ≤ 512 := OK.out.bd.2.2.2.2.1.2
  have cA := argmax (some ⟨g, 0, none⟩) s.v c _ w1 q11 B hB
  have HBest := Lib.hid hB
  obtain ⟨sa, scap, hvs⟩ := H.out.saidR.form
  subst hvs
  have hX1 : Box w1 T 123 #[.pointer (some ⟨r, 0, none⟩), .slice due.a due.n due.cap, .slice sa n scap] := (q8.block T H.out.box.lt eTr eTmb).trans H.out.box
  have hS1 : SaidR w1 base (.slice sa n scap) n said := H.out.saidR.away fun g2 hg2 => by
    obtain ⟨cs, hb, _⟩ := H.out.saidR.all g2 hg2
    obtain ⟨D, hO, _⟩ := H.out.run.map
    exact q8.block g2 hb.lt (box_ne8 hb H.out.run.box (by decide)) (hO.ne_box hb).symm
  have hle : w.heap.size ≤ w1.heap.size := q8.size
  obtain ⟨v2, w2, hrun, hS2, hgrow, hvb⟩ := said_next w1 base (.slice sa n scap) n said (B : Int) hS1 hn (Nat.le_trans H.out.le hle)
  obtain ⟨g2, cap2, hv2⟩ := own_some hS2.own (by omega)
  subst hv2
  -- what stands behind the append
  have hA2 : RunAt w2 r m mb s (st.p + due.n) 0 N1 (runO (W.nums s) st (due.v.map Int.toNat)).K ∧ ModAt w2 m s W ∧ Tab w2 ∧ STab w2 ∧ Box w2 T 123 #[.pointer (some ⟨r, 0, none⟩), .slice due.a due.n due.cap, .slice sa n scap] := by
    cases sa with
    | none =>
      have hb := below_none hgrow
      exact ⟨q4.bel hb, q5.bel hb, q6.below hb, q7.below hb, hX1.bel hb⟩
    | some ad =>
      obtain ⟨cs, hb, h64⟩ := hS1.all ad.block rfl
      have hge : base ≤ ad.block := (hS1.own.lt _ rfl).1
      exact ⟨run_grows q4 hb h64 hgrow, mod_grows q5 hb h64 hgrow, tab_grows q6 (Nat.lt_of_lt_of_le H.out.ptab hge) hgrow, stab_grows q7 (Nat.lt_of_lt_of_le H.out.pstab hge) hgrow, hX1.kept hgrow (by show some T ≠ some ad.block; simpa using box_ne8 hX1 hb (by decide))⟩
  have HA2 := Lib.hid hA2
  have HS2 := Lib.hid hS2
  have HG := Lib.hid hgrow
  have HQ8 := Lib.hid q8
  have k2 : w1.cell? ⟨T, 2, none⟩ = some (.slice sa n scap) := hX1.cell 2
  have y2 : w2.cell? ⟨T, 2, none⟩ = some (.slice sa n scap) := hA2.2.2.2.2.cell 2
  have yf := hA2.2.2.2.2.frozen 2
  clear hA2 hS2 hgrow q4 q5 q6 q7 q8 q9 q10 q11 hB hX1 hS1 hnx hpp cF
  go_wp2_with fail
  refine cA.mono ?_
  rintro e wx ⟨rfl, rfl⟩
  clear cA
  go_upto_region 6 with (at_builtin; refine wpList_append_run (by rfl) _ _ _ (by rfl) _ _ (by rfl) (by rfl) hrun ?_)
  obtain ⟨R2, M2, T2, S2, X2⟩ := HA2.out
  have hg3 := grownBy_setCell w2 T 2 (.slice (some ⟨g2, 0, none⟩) (n + 1) cap2)
  have n8 : No8 #[.pointer (some ⟨r, 0, none⟩), .slice due.a due.n due.cap, .slice sa n scap] := no8_talk _ _ _ (fun y => by simp) (fun y => by simp) (fun y => by simp)
  have X3 := X2.set 2 (.slice (some ⟨g2, 0, none⟩) (n + 1) cap2)
  have R3 := run_three R2 X2 n8 (by decide) hg3
  have M3 := mod_three M2 X2 n8 (by simp) (by decide) hg3
  have T3 := tab_three T2 X2 (by simp) hg3
  have S3 := stab_three S2 X2 (by simp) hg3
  have D3 : SaidR (w2.setCell ⟨T, 2, none⟩ (.slice (some ⟨g2, 0, none⟩) (n + 1) cap2)) base (.slice (some ⟨g2, 0, none⟩) (n + 1) cap2) (n + 1) (said ++ [(B : Int)]) := HS2.out.away fun g4 hg4 => by
    obtain ⟨cs, hb, _⟩ := HS2.out.all g4 hg4
    exact hg3.block g4 hb.lt (by simpa using box_ne8 hb X2 (by decide))
  generalize w2.setCell ⟨T, 2, none⟩ (.slice (some ⟨g2, 0, none⟩) (n + 1) cap2) = w3 at hg3 X3 R3 M3 T3 S3 D3 ⊢
  have X3 : Box w3 T 123 #[.pointer (some ⟨r, 0, none⟩), .slice due.a due.n due.cap, .slice (some ⟨g2, 0, none⟩) (n + 1) cap2] := X3
  have y1 : w3.cell? ⟨T, 1, none⟩ = some (.slice due.a due.n due.cap) := X3.cell 1
  have yf := X3.frozen 1
  have b4 : Below w3.heap.size w3 (w3.alloc (.cells #[.int .i64 B] 3)) := (Below.refl _ _).alloc (Nat.le_refl _) _
  have hs3 : w2.heap.size ≤ w3.heap.size := hg3.size
  have hs2 : w1.heap.size ≤ w2.heap.size := HG.out.size
  have hrl : r < w3.heap.size := R3.box.lt
  have hml : mb < w3.heap.size := let ⟨D, hO, _⟩ := R3.map; hO.lt
  have hTl : T < w3.heap.size := X3.lt
  have n84 : No8 #[.pointer (some ⟨r, 0, none⟩), .slice due.a due.n due.cap, .slice (some ⟨g2, 0, none⟩) (n + 1) cap2] := no8_talk _ _ _ (fun y => by simp) (fun y => by simp) (fun y => by simp)
  obtain ⟨w4, hw4⟩ : ∃ w4, w3.alloc (.cells #[.int .i64 B] 3) = w4 := ⟨_, rfl⟩
  have X4 := X3.bel b4
  have R4 := R3.bel b4
  have M4 := M3.bel b4
  have T4 := T3.below b4
  have S4 := S3.below b4
  have D4 := D3.away fun g4 hg4 => by
    obtain ⟨cs, hb, _⟩ := D3.all g4 hg4
    exact b4.block g4 hb.lt
  have L4 : Box (w3.alloc (.cells #[.int .i64 B] 3)) w3.heap.size 3 #[.int .i64 B] := box_new _ _ _
  have hs4 : w3.heap.size ≤ (w3.alloc (.cells #[.int .i64 B] 3)).heap.size := b4.size
  rw [hw4] at b4 X4 R4 M4 T4 S4 D4 L4 hs4
  have hg5 := grownBy_setCell w4 T 1 (.slice (some ⟨w3.heap.size, 0, none⟩) 1 1)
  have X5 : Box (w4.setCell ⟨T, 1, none⟩ (.slice (some ⟨w3.heap.size, 0, none⟩) 1 1)) T 123 #[.pointer (some ⟨r, 0, none⟩), .slice (some ⟨w3.heap.size, 0, none⟩) 1 1, .slice (some ⟨g2, 0, none⟩) (n + 1) cap2] := X4.set 1 _
  have R5 := run_three R4 X4 n84 (by decide) hg5
  have M5 := mod_three M4 X4 n84 (by simp) (by decide) hg5
  have T5 := tab_three T4 X4 (by simp) hg5
  have S5 := stab_three S4 X4 (by simp) hg5
  have D5 := D4.away (w' := w4.setCell ⟨T, 1, none⟩ (.slice (some ⟨w3.heap.size, 0, none⟩) 1 1)) fun g4 hg4 => by
    obtain ⟨cs, hb, _⟩ := D4.all g4 hg4
    exact hg5.block g4 hb.lt (by simpa using box_ne8 hb X4 (by decide))
  have L5 : Box (w4.setCell ⟨T, 1, none⟩ (.slice (some ⟨w3.heap.size, 0, none⟩) 1 1)) w3.heap.size 3 #[.int .i64 B] := L4.kept hg5 (by simpa using box_ne8 L4 X4 (by decide))
  have I5 : Rw.In .i64 (w4.setCell ⟨T, 1, none⟩ (.slice (some ⟨w3.heap.size, 0, none⟩) 1 1)) ⟨some ⟨w3.heap.size, 0, none⟩, 1, 1, [(B : Int)]⟩ := by
    refine ⟨⟨rfl, by show (1 : Nat) ≤ _; omega, fun x hx => ?_, fun _ => ⟨w3.heap.size, 0, rfl, fun i hi => ?_⟩⟩, Nat.le_refl _, by show (1 : Nat) ≤ _; omega, ⟨(fun e => by cases e), (fun x hx _ => by cases hx; rfl)⟩⟩
    · obtain rfl := List.mem_singleton.1 hx
      exact wf_n (by omega)
    · obtain rfl : i = 0 := by have : i < 1 := hi; omega
      exact L5.cell 0
  have ST : Stays w (w4.setCell ⟨T, 1, none⟩ (.slice (some ⟨w3.heap.size, 0, none⟩) 1 1)) T r mb base := fun B1 w0 hb h1 h2 h3 h4 => by
    have hB0 : B1 ≤ w.heap.size := Nat.le_trans h4 H.out.le
    have e1 : Below B1 w0 w1 := ⟨HQ8.out.os.trans hb.os, HQ8.out.tape.trans hb.tape, HQ8.out.output.trans hb.output, Nat.le_trans hb.size hle, fun k hk => (HQ8.out.block k (by show k < w.heap.size; omega) (by omega) (by omega)).trans (hb.block k hk)⟩
    have e2 : Below B1 w0 w2 := e1.grown HG.out (by omega) (fun k hk => Nat.le_trans h4 (H.out.saidR.own.lt k hk).1)
    have e3 : Below B1 w0 w3 := e2.grown hg3 (by omega) (fun k hk => by cases hk; exact h1)
    have e4 : Below B1 w0 w4 := e3.trans (b4.mono (by omega))
    exact e4.grown hg5 (by omega) (fun k hk => by cases hk; exact h1)
  have SA : AwayT w (w4.setCell ⟨T, 1, none⟩ (.slice (some ⟨w3.heap.size, 0, none⟩) 1 1)) T r mb base := ⟨fun k hk h1 h2 h3 => by
      have hB0 : base ≤ w.heap.size := H.out.le
      have e1 : w1.heap[k]? = w.heap[k]? := HQ8.out.block k (by show k < w.heap.size; omega) h2 h3
      have e2 : w2.heap[k]? = w1.heap[k]? := HG.out.block k (by omega) (fun e => by have := (H.out.saidR.own.lt k e.symm).1; omega)
      have e3 : w3.heap[k]? = w2.heap[k]? := hg3.block k (by omega) (fun e => h1 (Option.some.inj e))
      have e4 : w4.heap[k]? = w3.heap[k]? := b4.block k (by omega)
      have e5 := hg5.block k (by omega) (fun e => h1 (Option.some.inj e))
      exact e5.trans (e4.trans (e3.trans (e2.trans e1))),
    hg5.os.trans (b4.os.trans (hg3.os.trans (HG.out.os.trans HQ8.out.os))), hg5.tape.trans (b4.tape.trans (hg3.tape.trans (HG.out.tape.trans HQ8.out.tape))), hg5.output.trans (b4.output.trans (hg3.output.trans (HG.out.output.trans HQ8.out.output))), by have := hg5.size; omega⟩
  have HSA := Lib.hid SA
  have FIN : Hid (TalkSt (w4.setCell ⟨T, 1, none⟩ (.slice (some ⟨w3.heap.size, 0, none⟩) 1 1)) T r m mb s W ⟨[], st.p + due.n, (runO (W.nums s) st (due.v.map Int.toNat)).K⟩ N1 ⟨some ⟨w3.heap.size, 0, none⟩, 1, 1, [(B : Int)]⟩ (.slice (some ⟨g2, 0, none⟩) (n + 1) cap2) (n + 1) (said ++ [(B : Int)]) base) := Lib.hid
    ⟨X5, I5, fun b o hbo => by cases hbo; omega, D5, R5, M5, T5, S5, by have := H.out.le; have := hg5.size; omega, H.out.ptab, H.out.pstab⟩
  have HST := Lib.hid ST
  have y4 : w4.cell? ⟨T, 1, none⟩ = some (.slice due.a due.n due.cap) := X4.cell 1
  have yf4 := X4.frozen 1
  rw [hl.out] at q1
  clear R2 M2 T2 S2 X2 X3 R3 M3 T3 S3 D3 X4 R4 M4 T4 S4 D4 L4 X5 R5 M5 T5 S5 D5 L5 I5 ST SA b4 hg3 hg5 n8 n84 hrun
  go_wp2
  go_ret2
  exact ⟨B, _, _, N1, rfl, hBl, HBest.out, FIN.out, rfl, rfl, q1, HST.out, HSA.out⟩

end Go.Proofs.YtoeihigdndkjeaaGreatDoor

/-
  Generate, where so much may be generated.
-/
namespace Go.Proofs.YtoeihigdndkjeaaGreatDoor
open Go.RowKit Go.Shelf
set_option linter.unusedVariables false

noncomputable def st09 : St8 := ⟨[], 0, fun _ _ => ([], [])⟩
theorem runO_x (W : Wn8) (x y : List Int) (p : Nat) (K : KF8) (ts : List Nat) (h : ts ≠ []) : runO W ⟨x, p, K⟩ ts = runO W ⟨y, p, K⟩ ts := by
  cases ts with
  | nil => exact absurd rfl h
  | cons t ts => rfl
/-- tokens said one behind the other: each is the first of the greatest weight behind all ahead of it -/
def GenL (s : Sz) (W : Wn8) (ts said : List Int) : Prop :=
  ∀ i, i < said.length → ∃ B : Nat, said.getD i 0 = B ∧ B < s.v ∧ Best (outO W (runO W st09 ((ts ++ said.take i).map Int.toNat)).x) s.v B
theorem genL_nil (s : Sz) (W : Wn8) (ts : List Int) : GenL s W ts [] := fun i hi => absurd hi (by simp)
theorem genL_snoc {s : Sz} {W : Wn8} {ts said : List Int} {B : Nat} (h : GenL s W ts said) (hB : B < s.v) (hb : Best (outO W (runO W st09 ((ts ++ said).map Int.toNat)).x) s.v B) : GenL s W ts (said ++ [(B : Int)]) := by
  intro i hi
  rw [List.length_append] at hi
  by_cases e : i < said.length
  · obtain ⟨C, h1, h2, h3⟩ := h i e
    refine ⟨C, ?_, h2, ?_⟩
    · rw [List.getD_eq_getElem?_getD, List.getElem?_append_left e, ← List.getD_eq_getElem?_getD, h1]
    · rw [List.take_append_of_le_length (by omega)]; exact h3
  · obtain rfl : i = said.length := by simp at hi; omega
    refine ⟨B, ?_, hB, ?_⟩
    · rw [List.getD_eq_getElem?_getD, List.getElem?_append_right (Nat.le_refl _)]; simp
    · rw [List.take_append_of_le_length (Nat.le_refl _), List.take_length]; exact hb
theorem check9_ok {v p most : Int} {ts : List Int} (h : check9 v p ts most = 0) : ts.length ≠ 0 ∧ ts.any (odd9 v) = false ∧ 1 ≤ most ∧ (ts.length : Int) ≤ p ∧ most ≤ p - ts.length + 1 := by
  unfold check9 at h
  split at h
  · omega
  · split at h
    · omega
    · split at h
      · omega
      · split at h
        · omega
        · split at h
          · omega
          · rename_i h1 h2 h3 h4 h5
            exact ⟨h1, by simpa using h2, by omega, by omega, by omega⟩
theorem fault_none {s : Sz} {p : Nat} {ts : List Int} (h : ∀ t ∈ ts, 0 ≤ t ∧ t < s.v) (hp : p + ts.length ≤ s.p) : faultO s p ts = 0 := by
  unfold faultO
  rw [if_neg, if_neg (by omega)]
  rw [Bool.not_eq_true, List.any_eq_false]
  intro t ht
  rw [oddO_no.2 (h t ht)]
  simp

theorem fed_step (W : Wn8) (fed due : List Int) (h : due ≠ []) : runO W ⟨[], fed.length, (runO W st09 (fed.map Int.toNat)).K⟩ (due.map Int.toNat) = runO W st09 ((fed ++ due).map Int.toNat) := by
  rw [List.map_append, runO_app]
  have hp : (runO W st09 (fed.map Int.toNat)).p = fed.length := by rw [runO_p, List.length_map]; show 0 + fed.length = _; omega
  obtain ⟨x, hx⟩ : ∃ x, runO W st09 (fed.map Int.toNat) = ⟨x, fed.length, (runO W st09 (fed.map Int.toNat)).K⟩ := ⟨(runO W st09 (fed.map Int.toNat)).x, by rw [← hp]⟩
  rw [hx]
  exact runO_x W _ _ _ _ _ (by simpa using h)

set_option maxHeartbeats 8000000 in
set_option maxRecDepth 100000 in
theorem generate9 (m : Nat) (s : Sz) (ok : s.Ok) (W : Wt7) (w : World) (hm : ModAt w m s W) (h200 : s.p ≤ 200) (q : Rw) (hq : q.In .i64 w) (hn : q.n ≤ 1000) (most : Nat) (hc : check9 s.v s.p q.v most = 0) (hT : Tab w) (hS : STab w) (l1 : 1 < w.heap.size) (l2 : 0 < w.heap.size) :
    Calls Tryz.prog 26 #[.pointer (some ⟨m, 0, none⟩), .slice q.a q.n q.cap, .int .i64 most] w fun e w' =>
      (∃ g : Rw, e = .returned (.tuple #[.slice g.a g.n g.cap, .int .i64 0]) ∧ g.In .i64 w' ∧ GenL s (W.nums s) q.v g.v ∧ g.n = most ∧ ∀ x, g.a = some x → w.heap.size ≤ x.block) ∧ Below w.heap.size w w' := by
  obtain ⟨c1, c2, c3, c4, c5⟩ := check9_ok hc
  rw [hq.1.1] at c4 c5
  have p256 := ok.bd.2.2.2.2.2.2
  have hm1 : most ≤ 257 := by omega
  have hpl : q.n + most ≤ s.p + 1 := by omega
  have hodd : ∀ t ∈ q.v, 0 ≤ t ∧ t < s.v := fun t ht => by
    rw [List.any_eq_false] at c2
    have := c2 t ht
    unfold odd9 at this
    simp at this
    omega
  have hn0 : 0 < q.n := by rw [← hq.1.1]; omega
  have cF := fault9 m s ok W w hm q.a q.n q.cap q.v most (by omega) hq.1 hn
  rw [hc] at cF
  have HO := Lib.hid hodd
  have OK := Lib.hid ok
  have HM := Lib.hid hm
  have HQ := Lib.hid hq
  have HT := Lib.hid hT
  have HS := Lib.hid hS
  have HQL := Lib.hid hq.1.1
  clear hodd ok hm hq hT hS c1 c2 c3 c4 c5 hc
  go_enter Tryz.func26, Tryz.ntmps26
  go_wp2_with fail
  refine cF.mono ?_
  rintro e wa ⟨rfl, hba⟩
  have cT := talk9 m s W wa (HM.out.bel hba) q (HQ.out.below hba) (by omega) (fun _ _ => ([], []))
  have HBa := Lib.hid hba
  have HMa := Lib.hid (HM.out.bel hba)
  have HTa := Lib.hid (HT.out.below hba)
  have HSa := Lib.hid (HS.out.below hba)
  have hsa := hba.size
  clear cF hba
  go_wp2_with fail
  refine cT.mono ?_
  rintro e wb ⟨⟨T, r, mb, due, rfl, t1, t2, t3, t4, tR, tT, tv, tn, ta⟩, hbb⟩
  have hT0 : Hid (TalkSt wb T r m mb s W ⟨[], 0, fun _ _ => ([], [])⟩ 0 due (.slice none 0 0) 0 [] w.heap.size) := Lib.hid
    ⟨tT.box, tT.due, fun b o hb => ta _ hb, saidR_nil _ _, tR, HMa.out.bel hbb, HTa.out.below hbb, HSa.out.below hbb, Nat.le_trans hsa hbb.size, l1, l2⟩
  have HBb := Lib.hid (below_two HBa.out hbb)
  have HDV : Hid (due.v = q.v ∧ due.n = q.n) := Lib.hid ⟨tv, tn⟩
  clear cT tR tT tv tn ta hbb HMa HTa HSa HBa
  go_wp2_with fail
  go_loopw [21] (fun i wr => ∃ (k N : Nat) (due : Rw) (v : Value) (said fed : List Int) (K : KF8), k ≤ most ∧ i = .int .i64 k ∧ Hid (TalkSt wr T r m mb s W ⟨[], fed.length, K⟩ N due v k said w.heap.size) ∧ Hid (K = (runO (W.nums s) st09 (fed.map Int.toNat)).K) ∧ Hid (fed ++ due.v = q.v ++ said) ∧ Hid (said.length = k) ∧ Hid (0 < due.n) ∧ Hid (GenL s (W.nums s) q.v said) ∧ N ≤ 16 * fed.length ∧ Hid (∀ t ∈ said, 0 ≤ t ∧ t < s.v) ∧ Hid (Below w.heap.size w wr)) (fun i _ => most - (intOf i).toNat)
  case atStart => exact ⟨0, 0, due, _, [], [], _, by omega, rfl, hT0, Lib.hid rfl, Lib.hid (by rw [HDV.out.1]; simp), Lib.hid rfl, Lib.hid (by rw [HDV.out.2]; exact hn0), Lib.hid (genL_nil _ _ _), by simp, Lib.hid (by simp), HBb⟩
  case round =>
    clear hT0 HBb HDV
    obtain ⟨k, N, du, v, said, fed, K, hk, rfl, hTS, hK, hfd, hsl, hd0, hGL, hNf, hsb, hBl⟩ := hrel
    have hlen : fed.length + du.n = q.n + k := by
      have := congrArg List.length hfd.out
      rw [List.length_append, List.length_append, hTS.out.dueIn.1.1, hsl.out, HQL.out] at this
      exact this
    by_cases hlt : k < most
    · have hdb : ∀ t ∈ du.v, 0 ≤ t ∧ t < s.v := fun t ht => by
        have hmem : t ∈ q.v ++ said := by rw [← hfd.out]; exact List.mem_append.2 (.inr ht)
        exact (List.mem_append.1 hmem).elim (HO.out t) (hsb.out t)
      have hdne : du.v ≠ [] := fun e => by have h1 := hTS.out.dueIn.1.1; rw [e] at h1; have := hd0.out; simp at h1; omega
      have hf := fault_none (p := fed.length) hdb (by rw [hTS.out.dueIn.1.1]; omega)
      have cN := next9 T r m mb N k w.heap.size s OK.out W ⟨[], fed.length, K⟩ du v said wr hTS.out rfl h200 (by show fed.length ≤ s.p; omega) hd0.out (by omega) (by omega) (by omega) hf
      have hrun : Hid (runO (W.nums s) ⟨[], fed.length, K⟩ (du.v.map Int.toNat) = runO (W.nums s) st09 ((fed ++ du.v).map Int.toNat)) := Lib.hid (by rw [hK.out]; exact fed_step _ _ _ hdne)
      rw [hrun.out] at cN
      have hfl : Hid ((fed ++ du.v).length = fed.length + du.n) := Lib.hid (by rw [List.length_append, hTS.out.dueIn.1.1])
      clear hTS hdb hdne hf hK hrun
      go_wp2_with fail
      refine cN.mono ?_
      rintro e wc ⟨B, du2, v2, N2, rfl, hBv, hBest, hTS2, hd2, hdn2, hN2, hst, -⟩
      have hTS3 : Hid (TalkSt wc T r m mb s W ⟨[], (fed ++ du.v).length, (runO (W.nums s) st09 ((fed ++ du.v).map Int.toNat)).K⟩ N2 du2 v2 (k + 1) (said ++ [(B : Int)]) w.heap.size) := Lib.hid (by rw [hfl.out]; exact hTS2)
      have hGL2 : Hid (GenL s (W.nums s) q.v (said ++ [(B : Int)])) := Lib.hid (genL_snoc hGL.out hBv (by rw [← hfd.out]; exact hBest))
      have hfd2 : Hid ((fed ++ du.v) ++ du2.v = q.v ++ (said ++ [(B : Int)])) := Lib.hid (by rw [hfd.out, hd2, List.append_assoc])
      have hsl2 : Hid ((said ++ [(B : Int)]).length = k + 1) := Lib.hid (by rw [List.length_append, hsl.out]; rfl)
      have hd02 : Hid (0 < du2.n) := Lib.hid (by rw [hdn2]; omega)
      have hsb2 : Hid (∀ t ∈ said ++ [(B : Int)], 0 ≤ t ∧ t < s.v) := Lib.hid (fun t ht => by
        rcases List.mem_append.1 ht with h | h
        · exact hsb.out t h
        · obtain rfl := List.mem_singleton.1 h
          omega)
      have hN3 : N2 ≤ 16 * (fed ++ du.v).length := by rw [hfl.out]; omega
      have hBl2 : Hid (Below w.heap.size w wc) := Lib.hid (hst _ _ hBl.out (Nat.le_trans hsa t1) (Nat.le_trans hsa t2) (Nat.le_trans hsa t3) (Nat.le_refl _))
      clear cN hTS2 hd2 hdn2 hst hBest hGL hfd hsl hd0 hsb hBl hfl hN2
      go_wp2
      go_roundw
      case rel => exact ⟨k + 1, N2, du2, v2, said ++ [(B : Int)], fed ++ du.v, _, by omega, by go_num, hTS3, Lib.hid rfl, hfd2, hsl2, hd02, hGL2, hN3, hsb2, hBl2⟩
      case measure => simp [intOf]; omega
    · obtain rfl : k = most := by omega
      obtain ⟨g, hgv, hgi, hgvv, hgn, hgb⟩ := own_rw hTS.out.saidR.own (fun c hc => by have := hsb.out c hc; have := OK.out.bd.2.2.2.2.1.2; obtain ⟨z, hz⟩ : ∃ z : Nat, c = z := ⟨c.toNat, by omega⟩; rw [hz]; exact wf_n (by omega)) (by omega)
      have cS := said9 T r du g wr ⟨by rw [← hgv]; exact hTS.out.box, hTS.out.dueIn, hgi⟩ (by omega)
      have HG2 : Hid (GenL s (W.nums s) q.v g.v ∧ g.n = k) := Lib.hid ⟨by rw [hgvv]; exact hGL.out, hgn⟩
      clear hTS hK hfd hsl hd0 hGL hsb hgv hgi hgvv hgn hgb
      go_wp2_with fail
      refine cS.mono ?_
      rintro e wc ⟨⟨g3, rfl, u1, u2, u3, u4⟩, hbc⟩
      have HU := Lib.hid u1
      have HU2 := Lib.hid u2
      have HU3 := Lib.hid u3
      have HU4 := Lib.hid u4
      have HBc := Lib.hid (below_two hBl.out hbc)
      have hsl := hBl.out.size
      clear cS u1 u2 u3 u4 hbc
      go_wp2
      go_ret2
      exact ⟨⟨g3, rfl, HU.out, by rw [HU2.out]; exact HG2.out.1, by rw [HU3.out]; exact HG2.out.2, fun x hx => Nat.le_trans hsl (HU4.out x hx)⟩, HBc.out⟩

end Go.Proofs.YtoeihigdndkjeaaGreatDoor

/-
  Two lists of tokens: are they alike, is one how the other begins.
-/
namespace Go.Proofs.YtoeihigdndkjeaaGreatDoor
open Go.RowKit Go.Shelf
set_option linter.unusedVariables false

theorem take_next {xs ys : List Int} {k : Nat} (h1 : k < xs.length) (h2 : k < ys.length) (h : xs.take k = ys.take k) (he : xs.getD k 0 = ys.getD k 0) : xs.take (k + 1) = ys.take (k + 1) := by
  rw [List.getD_eq_getElem?_getD, List.getElem?_eq_getElem h1, List.getD_eq_getElem?_getD, List.getElem?_eq_getElem h2] at he
  rw [List.take_add_one (l := xs), List.take_add_one (l := ys), h, List.getElem?_eq_getElem h1, List.getElem?_eq_getElem h2]
  simp at he
  simp [he]

set_option maxHeartbeats 800000 in
set_option maxRecDepth 100000 in
theorem ints9 (a b : Option Addr) (n m cap cap' : Nat) (xs ys : List Int) (w : World) (hX : Elems .i64 w a n xs) (hY : Elems .i64 w b m ys) :
    Calls Tryz.prog 28 #[.slice a n cap, .slice b m cap'] w fun e w' => e = .returned (.bool (decide (xs = ys))) ∧ Below w.heap.size w w' := by
  have hn := hX.2.1
  have HX := Lib.hid hX
  have HY := Lib.hid hY
  by_cases hnm : n = m
  · subst hnm
    clear hX hY
    go_enter Tryz.func28, Tryz.ntmps28
    go_wp2_with fail
    go_loopw [5] (fun i wr => ∃ (k d : Nat), k ≤ n ∧ i = .int .i64 k ∧ Hid (xs.take k = ys.take k) ∧ wr = w.drewN d) (fun i _ => n - (intOf i).toNat)
    case atStart => exact ⟨0, 0, by omega, rfl, Lib.hid rfl, rfl⟩
    case round =>
      obtain ⟨k, d, hk, rfl, hT, rfl⟩ := hrel
      by_cases hlt : k < n
      · obtain ⟨p, o, v, rfl, hc, hv, wv⟩ := HX.out.at_ hlt
        obtain ⟨p', o', u, rfl, hc', hu, wu⟩ := HY.out.at_ hlt
        have l1 : k < xs.length := by rw [HX.out.1]; exact hlt
        have l2 : k < ys.length := by rw [HY.out.1]; exact hlt
        clear wv wu
        by_cases hvu : v = u
        · subst hvu
          have hst : Hid (xs.take (k + 1) = ys.take (k + 1)) := Lib.hid (take_next l1 l2 hT.out (by rw [hv.out, hu.out]))
          go_wp2
          go_quiet (fail)
          go_wp2
          go_roundw
          case rel => exact ⟨k + 1, _, by omega, by go_num, hst, rfl⟩
          case measure => simp [intOf]; omega
        · have hne : Hid (decide (xs = ys) = false) := Lib.hid (by
            apply decide_eq_false
            rintro rfl
            exact hvu (by rw [← hv.out, ← hu.out]))
          have hbne : (v == u) = false := by simpa using hvu
          go_wp2
          go_quiet (fail)
          go_wp2
          go_ret
          exact ⟨ret_bool hne.out.symm, below_drewN (below_drewN (Below.refl _ _) _) _⟩
      · obtain rfl : k = n := by omega
        have he : Hid (decide (xs = ys) = true) := Lib.hid (by
          apply decide_eq_true
          have := hT.out
          rwa [List.take_of_length_le (by rw [HX.out.1]; exact Nat.le_refl _), List.take_of_length_le (by rw [HY.out.1]; exact Nat.le_refl _)] at this)
        go_wp2
        go_ret
        exact ⟨ret_bool he.out.symm, below_drewN (Below.refl _ _) _⟩
  · have hne : Hid (decide (xs = ys) = false) := Lib.hid (by
      apply decide_eq_false
      rintro rfl
      exact hnm (by rw [← HX.out.1, ← HY.out.1]))
    have hb : ((n : Int) == (m : Int)) = false := by simp; omega
    clear hX hY
    go_enter Tryz.func28, Tryz.ntmps28
    go_wp2
    go_ret
    exact ⟨ret_bool hne.out.symm, Below.refl _ _⟩



end Go.Proofs.YtoeihigdndkjeaaGreatDoor

/-
  Rows that are said: one and only one of a length; cut short; behind a cut.
-/
namespace Go.Proofs.YtoeihigdndkjeaaGreatDoor
open Go.RowKit
set_option linter.unusedVariables false

theorem genL_at {s : Sz} {W : Wn8} {ts a b : List Int} (h : GenL s W ts a) (k : GenL s W ts b) {i : Nat} (hi : i < a.length) (hj : i < b.length) (he : a.take i = b.take i) : a.getD i 0 = b.getD i 0 := by
  obtain ⟨B, h1, _, h3⟩ := h i hi
  obtain ⟨C, k1, _, k3⟩ := k i hj
  rw [he] at h3
  rw [h1, k1]
  exact best_uniq h3 k3
theorem genL_same {s : Sz} {W : Wn8} {ts a b : List Int} (h : GenL s W ts a) (k : GenL s W ts b) : ∀ i, i ≤ a.length → i ≤ b.length → a.take i = b.take i := by
  intro i
  induction i with
  | zero => intro _ _; simp
  | succ i ih =>
    intro hi hj
    exact take_next (by omega) (by omega) (ih (by omega) (by omega)) (genL_at h k (by omega) (by omega) (ih (by omega) (by omega)))
/-- the shorter is how the longer begins -/
theorem genL_begins {s : Sz} {W : Wn8} {ts a b : List Int} (h : GenL s W ts a) (k : GenL s W ts b) (hl : a.length ≤ b.length) : a = b.take a.length := by
  have := genL_same h k a.length (Nat.le_refl _) hl
  rwa [List.take_length] at this
theorem genL_uniq {s : Sz} {W : Wn8} {ts a b : List Int} (h : GenL s W ts a) (k : GenL s W ts b) (hl : a.length = b.length) : a = b := by
  have := genL_begins h k (Nat.le_of_eq hl)
  rwa [hl, List.take_length] at this
/-- behind the prompt and what was said it goes on in the same way -/
theorem genL_behind {s : Sz} {W : Wn8} {ts b : List Int} (n : Nat) (h : GenL s W ts b) : GenL s W (ts ++ b.take n) (b.drop n) := by
  intro i hi
  rw [List.length_drop] at hi
  obtain ⟨B, h1, h2, h3⟩ := h (n + i) (by omega)
  refine ⟨B, ?_, h2, ?_⟩
  · rw [List.getD_eq_getElem?_getD, List.getElem?_drop, ← List.getD_eq_getElem?_getD, h1]
  · rw [List.append_assoc, ← List.take_add]; exact h3

end Go.Proofs.YtoeihigdndkjeaaGreatDoor

/-
  A head of noughts: every weight is 0, and the first is the greatest.
-/
namespace Go.Proofs.YtoeihigdndkjeaaGreatDoor
open Go.RowKit
set_option linter.unusedVariables false

theorem prods_zero {xs : List Int} (h : ∀ x ∈ xs, x = 0) : ∀ ys : List Int, ∀ z ∈ prods xs ys, z = 0 := by
  unfold prods
  induction xs with
  | nil => intro ys z hz; simp at hz
  | cons x xs ih =>
    intro ys z hz
    cases ys with
    | nil => simp at hz
    | cons y ys =>
      rw [List.zipWith_cons_cons, List.mem_cons] at hz
      rcases hz with rfl | hz
      · rw [h x (by simp), Int.zero_mul]
      · exact ih (fun x' hx' => h x' (by simp [hx'])) ys z hz
theorem sum_zero {zs : List Int} (h : ∀ z ∈ zs, z = 0) : zs.sum = 0 := by
  induction zs with
  | nil => rfl
  | cons z zs ih => rw [List.sum_cons, h z (by simp), ih (fun x hx => h x (by simp [hx]))]; rfl
theorem mv_zero {v : List Int} (h : ∀ x ∈ v, x = 0) (xs : List Int) (R C : Nat) : mv v xs R C = List.replicate R 0 := by
  unfold mv
  apply List.ext_getElem (by simp)
  intro i h1 h2
  have : ∀ x ∈ rowOf v C i, x = 0 := fun x hx => h x (List.mem_of_mem_drop (List.mem_of_mem_take hx))
  have e : wsum (prods (rowOf v C i) xs) = 0 := by
    unfold wsum
    rw [sum_zero (prods_zero this xs)]
    unfold wrap32
    omega
  simp only [List.getElem_map, List.getElem_replicate, List.getElem_range]
  exact e
theorem best_zero {n : Nat} {B : Nat} (h : Best (List.replicate n 0) n (B : Int)) : B = 0 := by
  rcases h with ⟨_, h⟩ | ⟨j, hb, hj, h1, h2⟩
  · omega
  · obtain rfl : B = j := by omega
    rcases Nat.eq_zero_or_pos B with h | h
    · exact h
    · have := h2 0 h
      simp [List.getD, hj, show 0 < n by omega] at this
/-- what a head of noughts says: noughts -/
theorem genL_zero {s : Sz} {W : Wn8} {ts said : List Int} (hz : ∀ x ∈ W.hd, x = 0) (hv : W.s.v = s.v) (h : GenL s W ts said) : said = List.replicate said.length 0 := by
  apply List.ext_getElem (by simp)
  intro i h1 h2
  obtain ⟨B, e, _, hb⟩ := h i h1
  unfold outO at hb
  rw [mv_zero hz, hv] at hb
  have := best_zero hb
  rw [List.getD_eq_getElem?_getD, List.getElem?_eq_getElem h1] at e
  simp only [Option.getD_some] at e
  rw [e, this, List.getElem_replicate]
  rfl

end Go.Proofs.YtoeihigdndkjeaaGreatDoor

/-
  The document's examples of stage 9: awake returns true.
-/
namespace Go.Proofs.YtoeihigdndkjeaaGreatDoor
open Go.RowKit Go.Shelf
set_option linter.unusedVariables false
attribute [local go_sem] Oper.semAt_some

theorem Tabs9.bel {w w' : World} (h : Tabs9 w) (hb : Below w.heap.size w w') : Tabs9 w' := ⟨h.1.below hb, h.2.1.below hb, Nat.lt_of_lt_of_le h.2.2.1 hb.size, Nat.lt_of_lt_of_le h.2.2.2 hb.size⟩
/-- the example's shape -/
def ex9 : Sz := ⟨1, 4, 2, 3, 5, 8⟩
theorem ex9_ok : ex9.Ok := ⟨by decide, by decide, by decide, by decide, by decide, by decide, by decide, by decide, by decide, by decide, by decide, by decide, by decide⟩
/-- 140 noughts -/
theorem zeros140 (w : World) (T : TypeId) : Elems .i8 (w.alloc (.cells (madeCells #[.int .i8 0] 140) T)) (some ⟨w.heap.size, 0, none⟩) 140 (List.replicate 140 0) :=
  (mine_made .i8 w T 140 rfl).elems (by simp) (by simp) (fun x hx => by rw [List.eq_of_mem_replicate hx]; rfl)

set_option maxHeartbeats 4000000 in
set_option maxRecDepth 100000 in
theorem awake9 (w : World) (hT : Tabs9 w) : Calls Tryz.prog 24 #[] w fun e w' => e = .returned (.bool true) ∧ Below w.heap.size w w' := by
  have cO : ∀ (W : World) (b : Nat), Elems .i8 W (some ⟨b, 0, none⟩) 140 (List.replicate 140 0) → Calls Tryz.prog 33 #[.agg #[.int .i64 1, .int .i64 4, .int .i64 2, .int .i64 3, .int .i64 5, .int .i64 8], .slice (some ⟨b, 0, none⟩) 140 140] W fun e w' => OfW ex9 (List.replicate 140 0) w' e ∧ Below W.heap.size W w' :=
    fun W b hx => of8 ex9 ex9_ok b 0 140 140 (List.replicate 140 0) W hx (by decide) (by omega) (by omega) (by omega)
  go_enter Tryz.func24, Tryz.ntmps24
  go_upto_region 2 with (fail)
  generalize hwa : World.alloc w _ = wa
  have X : Box wa w.heap.size 45 #[.int .i64 1, .int .i64 4, .int .i64 2, .int .i64 3, .int .i64 5, .int .i64 8] := by rw [← hwa]; exact box_new _ _ _
  have HB : Hid (Below w.heap.size w wa) := Lib.hid (by rw [← hwa]; exact (Below.refl _ _).alloc (Nat.le_refl _) _)
  have HX := Lib.hid X
  obtain ⟨z0, z1, z2, z3, z4, z5⟩ := X.cells6
  clear hwa X
  have hz : ∀ (V : World) (T : TypeId), Elems .i8 (V.alloc (.cells (madeCells #[.int .i8 0] 140) T)).drew (some ⟨V.heap.size, 0, none⟩) 140 (List.replicate 140 0) := fun V T => (zeros140 V T).below (Below.refl _ _).drew
  have hmk : ∀ W, (Instr.makeSlice 24 (.int .i64 140) (.int .i64 140)).run Tryz.prog W = .ok (.slice (some ⟨W.heap.size, 0, none⟩) 140 140) (W.alloc (.cells (madeCells #[.int .i8 0] 140) 64)) := fun W => run_make_row' (P := Tryz.prog) 24 64 (.int .i8 0) 1 Tryz.underlying24 info8 rfl .i64 .i64 140 (by omega) (by omega) W
  go_region_held3 (fun w' => w'.cell? ⟨w.heap.size, 0, none⟩ = some (.int .i64 1) ∧ w'.cell? ⟨w.heap.size, 1, none⟩ = some (.int .i64 4) ∧ w'.cell? ⟨w.heap.size, 2, none⟩ = some (.int .i64 2) ∧ w'.cell? ⟨w.heap.size, 3, none⟩ = some (.int .i64 3) ∧ w'.cell? ⟨w.heap.size, 4, none⟩ = some (.int .i64 5) ∧ w'.cell? ⟨w.heap.size, 5, none⟩ = some (.int .i64 8))
    (first | go_keep | (go_split_ands; refine ⟨?_, ?_, ?_, ?_, ?_, ?_⟩ <;> assumption))
    (first
      | (go_at_call 33; (with_reducible refine (cO _ _ (hz _ _)).mono ?_); rintro e w1 ⟨hW, hb1⟩; obtain ⟨W, rfl, hin, h6, hwt, hnu⟩ := hW
         have hB1 : Hid (Below wa.heap.size wa w1) := Lib.hid (below_two (((Below.refl _ _).alloc (Nat.le_refl _) _).drew) hb1)
         obtain ⟨y0, y1, y2, y3, y4, y5⟩ := (Box.bel HX.out hB1.out).cells6
         have cN := new8 ex9 ex9_ok W w1 hin h6 hwt
         have HNU := Lib.hid hnu
         clear hin h6 hwt hnu hb1)
      | (go_at_call 18; (with_reducible refine cN.mono ?_); rintro e w2 ⟨⟨m, V, rfl, m1, hmod, hnums⟩, hb2⟩
         have HB2 := Lib.hid (below_two hB1.out hb2)
         obtain ⟨x0, x1, x2, x3, x4, x5⟩ := (Box.bel HX.out HB2.out).cells6
         have HMOD := Lib.hid hmod
         have HNUM := Lib.hid hnums
         clear cN hmod hnums hb2))
  have HBW := Lib.hid (below_two HB.out HB2.out)
  have HT2 := Lib.hid (hT.bel HBW.out)
  have HZ : Hid (∀ x ∈ (V.nums ex9).hd, x = 0) := Lib.hid (by
    rw [HNUM.out, HNU.out]
    intro x hx
    unfold wnOf cutL at hx
    exact List.eq_of_mem_replicate (List.mem_of_mem_drop (List.mem_of_mem_take hx)))
  have B1 : ∀ (U : World) (o : Obj), Below U.heap.size U (U.alloc o) := fun U o => (Below.refl _ _).alloc (Nat.le_refl _) o
  have cG : ∀ T : TypeId, Calls Tryz.prog 26 #[.pointer (some ⟨m, 0, none⟩), .slice (some ⟨w2.heap.size, 0, none⟩) 1 1, .int .i64 3] (w2.alloc (.cells #[.int .i64 2] T)) fun e w' => (∃ g : Rw, e = .returned (.tuple #[.slice g.a g.n g.cap, .int .i64 0]) ∧ g.In .i64 w' ∧ GenL ex9 (V.nums ex9) [2] g.v ∧ g.n = 3 ∧ ∀ x, g.a = some x → (w2.alloc (.cells #[.int .i64 2] T)).heap.size ≤ x.block) ∧ Below (w2.alloc (.cells #[.int .i64 2] T)).heap.size (w2.alloc (.cells #[.int .i64 2] T)) w' :=
    fun T => generate9 m ex9 ex9_ok V _ (HMOD.out.bel (B1 _ _)) (by decide) ⟨some ⟨w2.heap.size, 0, none⟩, 1, 1, [2]⟩ (rw_in (elems_litK [2] rfl rfl (by decide) (by decide) rfl) (by decide)) (by show (1 : Nat) ≤ 1000; omega) 3 (by simp [check9, odd9, ex9]) (HT2.out.bel (B1 _ _)).1 (HT2.out.bel (B1 _ _)).2.1 (HT2.out.bel (B1 _ _)).2.2.1 (HT2.out.bel (B1 _ _)).2.2.2
  have HCC := Lib.hid (fun (most : Int) (a : Option Addr) (n cap : Nat) (ts : List Int) (U : World) (hm : -9223372036854775808 ≤ most ∧ most ≤ 9223372036854775807) (hE : Elems .i64 U a n ts) (hn : n ≤ 1000) => check_code 1 4 2 3 5 8 most a n cap ts U (by omega) (by omega) hm hE hn)
  clear cO hz hmk z0 z1 z2 z3 z4 z5 y0 y1 y2 y3 y4 y5 x0 x1 x2 x3 x4 x5 hT
  go_wp2_with fail
  refine (cG _).mono ?_
  rintro e w3 ⟨⟨g, rfl, hgi, hgl, hgn, -⟩, hb3⟩
  have HB3 := Lib.hid (below_two (B1 _ _) hb3)
  have hgv : g.v = [0, 0, 0] := by
    have h1 := genL_zero HZ.out rfl hgl
    rw [h1, hgi.1.1, hgn]
    rfl
  have HGI := Lib.hid hgi
  have HGV := Lib.hid hgv
  have HX3 := Lib.hid (Box.bel HX.out (below_two HB2.out HB3.out))
  have cI : ∀ T : TypeId, Calls Tryz.prog 28 #[.slice g.a g.n g.cap, .slice (some ⟨w3.heap.size, 0, none⟩) 3 3] (w3.alloc (.cells #[.int .i64 0, .int .i64 0, .int .i64 0] T)) fun e w' => e = .returned (.bool true) ∧ Below (w3.alloc (.cells #[.int .i64 0, .int .i64 0, .int .i64 0] T)).heap.size (w3.alloc (.cells #[.int .i64 0, .int .i64 0, .int .i64 0] T)) w' := fun T => by
    have h := ints9 g.a (some ⟨w3.heap.size, 0, none⟩) g.n 3 g.cap 3 g.v [0, 0, 0] (w3.alloc (.cells #[.int .i64 0, .int .i64 0, .int .i64 0] T)) (HGI.out.1.below (B1 _ _)) (elems_litK [0, 0, 0] rfl rfl (by decide) (by decide) rfl)
    rw [HGV.out] at h
    simpa using h
  clear hgi hgl hgn hb3 hgv cG
  go_wp2_with fail
  refine (cI _).mono ?_
  rintro e w4 ⟨rfl, hb4⟩
  have HB4 := Lib.hid (below_two (B1 _ _) hb4)
  have HX4 := Lib.hid (Box.bel HX3.out HB4.out)
  obtain ⟨z0, z1, z2, z3, z4, z5⟩ := HX4.out.cells6
  have c1 : Calls Tryz.prog 53 #[.agg #[.int .i64 1, .int .i64 4, .int .i64 2, .int .i64 3, .int .i64 5, .int .i64 8], .slice none 0 0, .int .i64 1] w4 fun e w' => e = .returned (.int .i64 90) ∧ Below w4.heap.size w4 w' := HCC.out 1 none 0 0 [] w4 (by omega) (Elems.nil_ _ _ _) (by omega)
  clear hb4 cI
  go_wp2_with fail
  refine c1.mono ?_
  rintro e w5 ⟨rfl, hb5⟩
  have HX5 := Lib.hid (Box.bel HX4.out hb5)
  have HB5 := Lib.hid hb5
  clear z0 z1 z2 z3 z4 z5 c1 hb5
  obtain ⟨z0, z1, z2, z3, z4, z5⟩ := HX5.out.cells6
  have c2 : ∀ T : TypeId, Calls Tryz.prog 53 #[.agg #[.int .i64 1, .int .i64 4, .int .i64 2, .int .i64 3, .int .i64 5, .int .i64 8], .slice (some ⟨w5.heap.size, 0, none⟩) 2 2, .int .i64 7] (w5.alloc (.cells #[.int .i64 1, .int .i64 1] T)) fun e w' => e = .returned (.int .i64 0) ∧ Below (w5.alloc (.cells #[.int .i64 1, .int .i64 1] T)).heap.size (w5.alloc (.cells #[.int .i64 1, .int .i64 1] T)) w' :=
    fun T => HCC.out 7 _ 2 2 [1, 1] _ (by omega) (elems_litK [1, 1] rfl rfl (by decide) (by decide) rfl) (by omega)
  go_wp2_with fail
  refine (c2 _).mono ?_
  rintro e w6 ⟨rfl, hb6⟩
  have HB6 := Lib.hid (below_two (B1 _ _) hb6)
  have HX6 := Lib.hid (Box.bel HX5.out HB6.out)
  clear z0 z1 z2 z3 z4 z5 c2 hb6
  obtain ⟨z0, z1, z2, z3, z4, z5⟩ := HX6.out.cells6
  have c3 : ∀ T : TypeId, Calls Tryz.prog 53 #[.agg #[.int .i64 1, .int .i64 4, .int .i64 2, .int .i64 3, .int .i64 5, .int .i64 8], .slice (some ⟨w6.heap.size, 0, none⟩) 2 2, .int .i64 8] (w6.alloc (.cells #[.int .i64 1, .int .i64 1] T)) fun e w' => e = .returned (.int .i64 80) ∧ Below (w6.alloc (.cells #[.int .i64 1, .int .i64 1] T)).heap.size (w6.alloc (.cells #[.int .i64 1, .int .i64 1] T)) w' :=
    fun T => HCC.out 8 _ 2 2 [1, 1] _ (by omega) (elems_litK [1, 1] rfl rfl (by decide) (by decide) rfl) (by omega)
  go_wp2_with fail
  refine (c3 _).mono ?_
  rintro e w7 ⟨rfl, hb7⟩
  have HB7 := Lib.hid (below_two HBW.out (below_two HB3.out (below_two HB4.out (below_two HB5.out (below_two HB6.out (below_two (B1 _ _) hb7))))))
  clear z0 z1 z2 z3 z4 z5 c3 hb7
  go_wp2
  go_ret
  exact ⟨rfl, HB7.out⟩

end Go.Proofs.YtoeihigdndkjeaaGreatDoor

/-
  Generate where there is a fault, or no model.
-/
namespace Go.Proofs.YtoeihigdndkjeaaGreatDoor
open Go.RowKit Go.Shelf
set_option linter.unusedVariables false

set_option maxHeartbeats 1000000 in
theorem generate_fault (m : Nat) (s : Sz) (ok : s.Ok) (W : Wt7) (w : World) (hm : ModAt w m s W) (a : Option Addr) (n cap : Nat) (ts : List Int) (most : Int) (hmo : -9223372036854775808 ≤ most ∧ most ≤ 9223372036854775807) (hE : Elems .i64 w a n ts) (hn : n ≤ 1000) (hc : ¬ check9 s.v s.p ts most = 0) :
    Calls Tryz.prog 26 #[.pointer (some ⟨m, 0, none⟩), .slice a n cap, .int .i64 most] w fun e w' => e = .returned (.tuple #[.slice none 0 0, .int .i64 (check9 s.v s.p ts most)]) ∧ Below w.heap.size w w' := by
  have cF := fault9 m s ok W w hm a n cap ts most hmo hE hn
  generalize check9 s.v s.p ts most = c at cF hc ⊢
  clear hm hE
  go_enter Tryz.func26, Tryz.ntmps26
  go_wp2_with fail
  refine cF.mono ?_
  rintro e wa ⟨rfl, hb⟩
  go_wp2
  go_ret2
  exact ⟨rfl, hb⟩
set_option maxHeartbeats 1000000 in
theorem fault_nil (a : Option Addr) (n cap : Nat) (most : Int) (w : World) :
    Calls Tryz.prog 54 #[.pointer none, .slice a n cap, .int .i64 most] w fun e w' => e = .returned (.int .i64 1) ∧ Below w.heap.size w w' := by
  go_enter Tryz.func54, Tryz.ntmps54
  go_wp2
  go_ret
  exact ⟨rfl, Below.refl _ _⟩
set_option maxHeartbeats 1000000 in
theorem generate_nil (a : Option Addr) (n cap : Nat) (most : Int) (w : World) :
    Calls Tryz.prog 26 #[.pointer none, .slice a n cap, .int .i64 most] w fun e w' => e = .returned (.tuple #[.slice none 0 0, .int .i64 1]) ∧ Below w.heap.size w w' := by
  have cF := fault_nil a n cap most w
  go_enter Tryz.func26, Tryz.ntmps26
  go_wp2_with fail
  refine cF.mono ?_
  rintro e wa ⟨rfl, hb⟩
  go_wp2
  go_ret2
  exact ⟨rfl, hb⟩

end Go.Proofs.YtoeihigdndkjeaaGreatDoor
