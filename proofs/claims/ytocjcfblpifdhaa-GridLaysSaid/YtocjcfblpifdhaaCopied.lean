/-
  Contract of copied: the same grids, in new memory.
-/
import Derived.Test.YtocjcfblpifdhaaLawKit
import Derived.Maps.AppendAt
import Derived.Laws.OwnMore
import Derived.Deep.RegionHeld3
namespace Go.Proofs.Ytocjcfblpifdhaa
open Go.RowKit
set_option linter.unusedVariables false

theorem info_grid : (Try.prog.info? 24).map (fun i => (i.zero, i.size, i.bytes)) = some (some (.agg #[.int .i64 0, .int .i64 0, .slice none 0 0]), 3, 40) := by kernel_rfl

/-- append([]int32{}, xs...): its run -/
theorem run_copy_v (W : World) (a : Option Addr) (n cap : Nat) (xs : List Int) (h : Elems .i32 W a n xs) (hSl : Sl a cap) (hcap : n ≤ cap) (hn : n ≤ 400) :
    ∃ ga gcap w', Sem.run Try.prog (Builtin.append_ #[22, 22] 22 #[.slice (some ⟨W.heap.size, 0, none⟩) 0 0, .slice a n cap]) (W.alloc (.cells #[] 21)).drew = .ok (.slice (some ⟨ga, 0, none⟩) n gcap) w' ∧
      Elems .i32 w' (some ⟨ga, 0, none⟩) n xs ∧ n ≤ gcap ∧ gcap ≤ 9223372036854775807 ∧ Below W.heap.size W w' ∧ W.heap.size ≤ ga ∧ ga < w'.heap.size := by
  obtain ⟨i0, hi, hz0, hz1, hz2⟩ : ∃ i, Try.prog.info? 21 = some i ∧ i.zero = some (.int .i32 0) ∧ i.size = 1 ∧ i.bytes = 4 := by
    have h := info_int32
    cases hh : Try.prog.info? 21 with
    | none => rw [hh] at h; cases h
    | some i =>
      rw [hh] at h
      simp only [Option.map_some, Option.some.injEq, Prod.mk.injEq] at h
      exact ⟨i, rfl, h.1, h.2.1, h.2.2⟩
  have hown0 : (W.alloc (.cells #[] 21)).ownsRow W.heap.size 21 1 (.slice (some ⟨W.heap.size, 0, none⟩) 0 0) 0 [] :=
    World.ownsRow_lit (e := 21) (size := 1) W #[] 0 (Nat.le_refl _) (by unfold maxLen; omega) rfl
  have hown : (W.alloc (.cells #[] 21)).drew.ownsRow W.heap.size 21 1 (.slice (some ⟨W.heap.size, 0, none⟩) 0 0) 0 [] := hown0
  have hB : Below W.heap.size W (W.alloc (.cells #[] 21)).drew := ((Below.refl _ _).alloc (Nat.le_refl _) _).drew
  cases a with
  | none =>
    obtain rfl := hSl.1 rfl
    obtain rfl : n = 0 := by omega
    have hx := h.1
    refine ⟨W.heap.size, 0, _, run_append_owned_none _ W.heap.size 22 22 21 i0 1 Try.underlying22 hi _ 0 [] hown, ?_, Nat.le_refl _, by omega, hB, Nat.le_refl _, by simp [World.drew]⟩
    exact Elems.empty _ hx rfl
  | some ad =>
    have hnews : ∀ j u, (xs.map (Value.int .i32))[j]? = some u → (W.alloc (.cells #[] 21)).drew.cell? (ad.add j) = some u := by
      intro j u hu
      have hl := h.1
      have hj : j < xs.length := by have := (List.getElem?_eq_some_iff.1 hu).1; simpa using this
      obtain ⟨b, off, he, _⟩ := h.2.2.2 (by omega)
      cases he
      exact ((h.below hB).news) j u hu
    obtain ⟨v', w', hr, h2, h3, hiff, h4⟩ := run_append_own_at (P := Try.prog) (W.alloc (.cells #[] 21)).drew W.heap.size 22 22 21 i0 _ 1 4 Try.underlying22 hi hz0 hz1 hz2 rfl (by omega) _ 0 [] hown
      ad n cap (xs.map (.int .i32)) (by rw [List.length_map, h.1, Nat.mul_one]) hnews (ints_one xs) (by unfold maxLen; omega) (by omega) (by simp [World.drew])
    rw [List.nil_append, Nat.zero_add] at h2
    have hb2 : Below W.heap.size W w' := hB.grown h3 (by simp [World.drew]) (fun k hk => by simp [Value.ownBlock] at hk; omega)
    obtain ⟨a2, cap2, hv, hE⟩ := own_form h2 (by omega) h.2.2.1
    rcases h2.2 with ⟨hnil, _⟩ | ⟨g, cp, cur, hv2, hbs, hg, hnc, hcm, _⟩
    · exfalso
      have := hiff.1 hnil
      cases this.1
    · subst hv2
      simp only [Value.slice.injEq, true_and] at hv
      unfold maxLen at hcm
      refine ⟨g, cp, w', hr, ?_, hnc, hcm, hb2, hbs, (Array.getElem?_eq_some_iff.1 hg).1⟩
      rw [hv.1]; exact hE

/-- a grid's three cells -/
def flat (g : Gr) : List Value := [.int .i64 g.r, .int .i64 g.c, .slice g.a g.n g.cap]
theorem flat_len (gs : List Gr) : (gs.flatMap flat).length = gs.length * 3 := by
  induction gs with
  | nil => rfl
  | cons g gs ih => rw [List.flatMap_cons, List.length_append, ih, List.length_cons]; simp [flat]; omega
theorem flat_at (gs : List Gr) (i : Nat) (hi : i < gs.length) : (gs.flatMap flat)[i * 3]? = some (.int .i64 (gs.getD i default).r) ∧ (gs.flatMap flat)[i * 3 + 1]? = some (.int .i64 (gs.getD i default).c) ∧ (gs.flatMap flat)[i * 3 + 2]? = some (.slice (gs.getD i default).a (gs.getD i default).n (gs.getD i default).cap) := by
  induction gs generalizing i with
  | nil => simp at hi
  | cons g gs ih =>
    rw [List.flatMap_cons]
    cases i with
    | zero => simp [flat]
    | succ i =>
      have := ih i (by simpa using hi)
      have e : ∀ k, (flat g ++ gs.flatMap flat)[(i + 1) * 3 + k]? = (gs.flatMap flat)[i * 3 + k]? := fun k => by
        rw [List.getElem?_append_right (by simp [flat]; omega)]
        congr 1
        simp [flat]; omega
      have e0 := e 0
      rw [Nat.add_zero, Nat.add_zero] at e0
      rw [e0, e 1, e 2]
      simpa using this

/-- one grid more, behind a slice of grids of the call's own: the append as a run -/
theorem run_append_gr (w : World) (base : Nat) (v : Value) (m : Nat) (gs : List Gr) (g : Gr) (hown : w.ownsRow base 24 3 v m (gs.flatMap flat)) (hm : m ≤ 1000) (hbase : base ≤ w.heap.size) :
    ∃ v' w', Sem.run Try.prog (Builtin.append_ #[36, 36] 36 #[v, .slice (some ⟨w.heap.size, 0, none⟩) 1 1]) (w.alloc (.cells #[.int .i64 g.r, .int .i64 g.c, .slice g.a g.n g.cap] 24)) = .ok v' w' ∧
      w'.ownsRow base 24 3 v' (m + 1) ((gs ++ [g]).flatMap flat) ∧ w.grownBy w' v.ownBlock ∧ (v'.ownBlock = v.ownBlock ∨ v'.ownBlock = some (w.heap.size + 1)) ∧ w.heap.size < w'.heap.size := by
  obtain ⟨i0, hi, hz0, hz1, hz2⟩ : ∃ i, Try.prog.info? 24 = some i ∧ i.zero = some (.agg #[.int .i64 0, .int .i64 0, .slice none 0 0]) ∧ i.size = 3 ∧ i.bytes = 40 := by
    have h := info_grid
    cases hh : Try.prog.info? 24 with
    | none => rw [hh] at h; cases h
    | some i =>
      rw [hh] at h
      simp only [Option.map_some, Option.some.injEq, Prod.mk.injEq] at h
      exact ⟨i, rfl, h.1, h.2.1, h.2.2⟩
  obtain ⟨v', w', hr, h2, h3, _, h4⟩ := run_append_own_at (P := Try.prog) (w.alloc (.cells #[.int .i64 g.r, .int .i64 g.c, .slice g.a g.n g.cap] 24)) base 36 36 24 i0 _ 3 40 Try.underlying36 hi hz0 hz1 hz2 rfl (by omega) v m _ (hown.alloc _)
    ⟨w.heap.size, 0, none⟩ 1 1 (flat g) rfl (World.news_of_block (cs := #[.int .i64 g.r, .int .i64 g.c, .slice g.a g.n g.cap]) (t := 24) (fr := (0, 0)) (heap_alloc_new w _)) (by intro u hu; simp only [flat, List.mem_cons, List.not_mem_nil, or_false] at hu; rcases hu with rfl | rfl | rfl <;> rfl) (by unfold maxLen; omega) (by omega) (by simp; omega)
  refine ⟨v', w', hr, by rw [List.flatMap_append]; simpa using h2, (World.grownBy_alloc w _ _).trans h3, by simpa using h4, ?_⟩
  have := h3.size
  simp at this
  omega

/-- the first k grids stand in gs' as they stand in gs -/
def Alike (gs gs' : List Gr) (k : Nat) : Prop := gs'.length = k ∧ ∀ j, j < k → (gs'.getD j default).r = (gs.getD j default).r ∧ (gs'.getD j default).c = (gs.getD j default).c ∧ (gs'.getD j default).n = (gs.getD j default).n ∧ (gs'.getD j default).v = (gs.getD j default).v

/-- what copied's loop keeps -/
structure CopInv (w : World) (gs : List Gr) (k : Nat) (v : Value) (gs' : List Gr) (wr : World) : Prop where
  own : wr.ownsRow w.heap.size 24 3 v k (gs'.flatMap flat)
  inn : ∀ g ∈ gs', g.In wr ∧ ∃ b, g.a = some ⟨b, 0, none⟩ ∧ some b ≠ v.ownBlock ∧ b < wr.heap.size
  alike : Alike gs gs' k
  bel : Below w.heap.size w wr

theorem CopInv.grids {w : World} {gs : List Gr} {k : Nat} {v : Value} {gs' : List Gr} {wr : World} (h : CopInv w gs k v gs' wr) (hk : k ≤ 1000) : ∃ a cap, v = .slice a k cap ∧ Grids wr a k gs' := by
  have hl := h.alike.1
  rcases h.own.2 with ⟨rfl, rfl⟩ | ⟨g, cap, cur, rfl, hb, hg, hnc, hcm, hcs, ht⟩
  · exact ⟨none, 0, rfl, hl, by omega, fun g hg => (h.inn g hg).1, fun hn => absurd hn (by omega)⟩
  · refine ⟨some ⟨g, 0, none⟩, cap, rfl, hl, by omega, fun g hg => (h.inn g hg).1, fun hn => ⟨g, 0, rfl, fun i hi => ?_⟩⟩
    obtain ⟨e0, e1, e2⟩ := flat_at gs' i (by omega)
    refine ⟨?_, ?_, ?_⟩
    · rw [Nat.zero_add, h.own.cellAt _ (by omega)]; exact e0
    · rw [Nat.zero_add, h.own.cellAt _ (by omega)]; exact e1
    · rw [Nat.zero_add, h.own.cellAt _ (by omega)]; exact e2

/-- one grid more -/
theorem CopInv.next {w : World} {gs : List Gr} {k : Nat} {v : Value} {gs' : List Gr} {wr : World} (h : CopInv w gs k v gs' wr) (hk : k < 1000) (g : Gr) (hg : gs.getD k default = g) (hin : g.In wr) (hn : g.n ≤ 400) :
    ∃ ga gcap w1 v2 w2, Sem.run Try.prog (Builtin.append_ #[22, 22] 22 #[.slice (some ⟨wr.heap.size, 0, none⟩) 0 0, .slice g.a g.n g.cap]) (wr.alloc (.cells #[] 21)).drew = .ok (.slice (some ⟨ga, 0, none⟩) g.n gcap) w1 ∧
      Sem.run Try.prog (Builtin.append_ #[36, 36] 36 #[v, .slice (some ⟨w1.heap.size, 0, none⟩) 1 1]) (w1.alloc (.cells #[.int .i64 g.r, .int .i64 g.c, .slice (some ⟨ga, 0, none⟩) g.n gcap] 24)) = .ok v2 w2 ∧
      Below wr.heap.size wr w1 ∧ (∃ gs2, CopInv w gs (k + 1) v2 gs2 w2) ∧ (∃ row, w1.grownBy w2 row ∧ row = v.ownBlock) := by
  obtain ⟨hE, hcap, hcapm, hSl, r0, r1, q0, q1⟩ := hin
  have hlw := h.bel.size
  obtain ⟨ga, gcap, w1, hr1, hE1, c1, c2, hb1, hga, hgl⟩ := run_copy_v wr g.a g.n g.cap g.v hE hSl hcap hn
  have hown1 := own_below h.own hb1
  have hs1 := hb1.size
  obtain ⟨v2, w2, hr2, hown2, hg2, hob, hlt⟩ := run_append_gr w1 w.heap.size v k gs' ⟨g.r, g.c, some ⟨ga, 0, none⟩, g.n, gcap, g.v⟩ hown1 (by omega) (by omega)
  refine ⟨ga, gcap, w1, v2, w2, hr1, hr2, hb1, ⟨gs' ++ [⟨g.r, g.c, some ⟨ga, 0, none⟩, g.n, gcap, g.v⟩], hown2, ?_, ?_, ?_⟩, ⟨_, hg2, rfl⟩⟩
  · intro x hx
    have hne1 : some ga ≠ v.ownBlock := fun e => by
      have := (h.own.lt ga e.symm).2
      omega
    rcases List.mem_append.1 hx with hx | hx
    · obtain ⟨hxin, b, hxa, hxb, hxl⟩ := h.inn x hx
      have hxin1 := hxin.below hb1
      refine ⟨⟨?_, hxin1.2⟩, b, hxa, ?_, by have := hg2.size; omega⟩
      · have := hxin1.1
        rw [hxa] at this ⊢
        exact this.grown hg2 hxb
      · rcases hob with e | e
        · rw [e]; exact hxb
        · rw [e]; intro e2; have := Option.some.inj e2; omega
    · simp only [List.mem_singleton] at hx
      subst hx
      refine ⟨⟨hE1.grown hg2 hne1, c1, c2, ⟨fun e => (by cases e), fun x e _ => (by cases e; rfl)⟩, r0, r1, q0, q1⟩, ga, rfl, ?_, by have := hg2.size; omega⟩
      rcases hob with e | e
      · rw [e]; exact hne1
      · rw [e]; intro e2; have := Option.some.inj e2; omega
  · have hl := h.alike.1
    refine ⟨by rw [List.length_append, hl]; rfl, fun j hj => ?_⟩
    by_cases e : j < k
    · have hd : (gs' ++ [(⟨g.r, g.c, some ⟨ga, 0, none⟩, g.n, gcap, g.v⟩ : Gr)]).getD j default = gs'.getD j default := by
        rw [List.getD_eq_getElem?_getD, List.getElem?_append_left (by omega), ← List.getD_eq_getElem?_getD]
      rw [hd]; exact h.alike.2 j e
    · obtain rfl : j = k := by omega
      have hd : (gs' ++ [(⟨g.r, g.c, some ⟨ga, 0, none⟩, g.n, gcap, g.v⟩ : Gr)]).getD j default = ⟨g.r, g.c, some ⟨ga, 0, none⟩, g.n, gcap, g.v⟩ := by
        rw [List.getD_eq_getElem?_getD, List.getElem?_append_right (by omega), hl]; simp
      rw [hd, hg]
      exact ⟨rfl, rfl, rfl, rfl⟩
  · exact (below_two h.bel hb1).grown hg2 (by omega) (fun b hb => (h.own.lt b hb).1)

set_option maxHeartbeats 2000000 in
theorem copied_any (a : Option Addr) (n cap : Nat) (gs : List Gr) (w : World) (h : Grids w a n gs) (h12 : n ≤ 12) (hsm : ∀ g ∈ gs, g.n ≤ 400) :
    Calls Try.prog 19 #[.slice a n cap] w fun e w' => (∃ a' cap' gs', e = .returned (.slice a' n cap') ∧ Grids w' a' n gs' ∧ Alike gs gs' n) ∧ Below w.heap.size w w' := by
  have HH := Lib.hid h
  have hlen := Lib.hid h.1
  have HS := Lib.hid hsm
  clear h hsm
  go_enter Try.func19, Try.ntmps19
  go_wp2_with fail
  go_loopw [3, 4] (fun v i wr => ∃ (k : Nat) (gs' : List Gr), k ≤ n ∧ i = .int .i64 k ∧ Hid (CopInv w gs k v gs' wr)) (fun _ i _ => n - (intOf i).toNat)
  case atStart => exact ⟨0, [], by omega, rfl, Lib.hid ⟨⟨rfl, .inl ⟨rfl, rfl⟩⟩, by simp, ⟨rfl, fun j hj => absurd hj (by omega)⟩, Below.refl _ _⟩⟩
  case round =>
    obtain ⟨k, gs', hk, rfl, hinv⟩ := hrel
    by_cases hlt : k < n
    · obtain ⟨b, off, g, rfl, hbl, c0, c1, c2, hgk, hin⟩ := (HH.out.below hinv.out.bel).at_ hlt
      have hkl : k < gs.length := by rw [hlen.out]; exact hlt
      have hgn := HS.out g (getD_mem_gr hkl hgk.out)
      obtain ⟨ga, gcap, w1, v2, w2, hrun1, hrun2, hb1, hnext, hgr⟩ := hinv.out.next (by omega) g hgk.out hin hgn
      have i0 : (0 : Int) ≤ (k : Int) := by omega
      have i1 : (k : Int) < (n : Int) := by omega
      have d0 := cell_keep c0 hb1
      have d1 := cell_keep c1 hb1
      have d2 := cell_keep c2 hb1
      have hbw : b < w.heap.size := by
        obtain ⟨b9, off9, _, he, hb9, _⟩ := HH.out.at_ hlt
        cases he; exact hb9
      have hob : some b ≠ u3.ownBlock := fun e => by
        have := (hinv.out.own.lt b e.symm).1
        omega
      obtain ⟨row, hgr, hrow⟩ := hgr
      have hne : some b ≠ row := by rw [hrow]; exact hob
      have f0 := hgr.cell d0 hne
      have f1 := hgr.cell d1 hne
      have f2 := hgr.cell d2 hne
      have HN := Lib.hid hnext
      clear hnext hin hgk hgn hb1 hgr hrow hob hinv
      go_wp2_with fail
      go_region_held3 (fun w' => w'.cell? ⟨b, off + k * 3, none⟩ = some (.int .i64 g.r) ∧ w'.cell? ⟨b, off + k * 3 + 1, none⟩ = some (.int .i64 g.c) ∧ w'.cell? ⟨b, off + k * 3 + 2, none⟩ = some (.slice g.a g.n g.cap))
        (first | go_keep | (go_split_ands; refine ⟨?_, ?_, ?_⟩ <;> assumption))
        (first
          | (refine step_append_run (by rfl) _ _ _ (by rfl) _ _ (by rfl) (by rfl) hrun1 ?_)
          | (refine step_append_run (by rfl) _ _ _ (by rfl) _ _ (by rfl) (by rfl) hrun2 ?_))
      obtain ⟨gs2, hn2⟩ := HN.out
      have HN2 := Lib.hid hn2
      clear hn2 hrun1 hrun2
      go_wp2
      go_roundw
      case rel => exact ⟨k + 1, gs2, by omega, by go_num, HN2⟩
      case measure => simp [intOf]; omega
    · obtain rfl : k = n := by omega
      obtain ⟨a', cap', rfl, hg⟩ := hinv.out.grids (by omega)
      have hB := hinv.out.bel
      have hA := hinv.out.alike
      have HG := Lib.hid hg
      have HA := Lib.hid hA
      clear hinv hg hA
      go_wp2
      go_ret
      exact ⟨⟨a', cap', gs', rfl, HG.out, HA.out⟩, hB⟩

end Go.Proofs.Ytocjcfblpifdhaa
