/-
  The code's runs: its two closures, which lay rows behind a captured list.
-/
import Derived.Test.YtgbbfmpofmeadaaWt7
import Derived.Test.YtgbbfmpofmeadaaSame1
import Derived.Maps.AppendAt
import Derived.Laws.OwnMore
namespace Go.Proofs.Ytgbbfmpofmeadaa
open Go.RowKit
set_option linter.unusedVariables false

/-- a run's two cells -/
def rnc (r : Bool × Rw) : List Value := [.slice r.2.a r.2.n r.2.cap, .bool r.1]
theorem rnc_len (rs : List (Bool × Rw)) : (rs.flatMap rnc).length = rs.length * 2 := by
  induction rs with
  | nil => rfl
  | cons r rs ih => rw [List.flatMap_cons, List.length_append, ih]; simp [rnc]; omega
theorem rnc_at (rs : List (Bool × Rw)) (k : Nat) (hk : k < rs.length) : (rs.flatMap rnc)[k * 2]? = some (.slice (rs.getD k default).2.a (rs.getD k default).2.n (rs.getD k default).2.cap) ∧ (rs.flatMap rnc)[k * 2 + 1]? = some (.bool (rs.getD k default).1) := by
  induction rs generalizing k with
  | nil => simp at hk
  | cons r rs ih =>
    cases k with
    | zero => simp [rnc]
    | succ k =>
      obtain ⟨h1, h2⟩ := ih k (by simpa using hk)
      have e1 : (k + 1) * 2 = k * 2 + 2 := by omega
      rw [List.flatMap_cons, e1]
      simp only [rnc, List.cons_append, List.nil_append, List.getElem?_cons_succ, List.getD_cons_succ]
      exact ⟨h1, h2⟩

theorem info_run : ∃ i, Try.prog.info? 63 = some i ∧ i.zero = some (.agg #[.slice none 0 0, .bool false]) ∧ i.size = 2 ∧ i.bytes = 32 := by
  have h : (Try.prog.info? 63).map (fun i => (i.zero, i.size, i.bytes)) = some (some (.agg #[.slice none 0 0, .bool false]), 2, 32) := by kernel_rfl
  cases hh : Try.prog.info? 63 with
  | none => rw [hh] at h; cases h
  | some i => rw [hh] at h; simp only [Option.map_some, Option.some.injEq, Prod.mk.injEq] at h; exact ⟨i, rfl, h.1, h.2.1, h.2.2⟩

/-- the list that the closures share lies in block S: its value, its rows -/
def AllIs (w : World) (S base : Nat) (rs : List (Bool × Rw)) : Prop := ∃ v, Box w S 60 #[v] ∧ w.ownsRow base 63 2 v rs.length (rs.flatMap rnc) ∧ S < base ∧ base ≤ w.heap.size
/-- blocks of other things stay -/
def Apart7 (S : Nat) (w w' : World) : Prop := ∀ c T cs, T ≠ 63 → c ≠ S → Box w c T cs → Box w' c T cs
theorem Apart7.trans {S : Nat} {a b c : World} (h : Apart7 S a b) (k : Apart7 S b c) : Apart7 S a c := fun x T cs h1 h2 h3 => k x T cs h1 h2 (h x T cs h1 h2 h3)
theorem apart_below {S : Nat} {w w' : World} (h : Below w.heap.size w w') : Apart7 S w w' := fun c T cs _ _ hb => hb.bel h
theorem AllIs.below {w w' : World} {S base : Nat} {rs : List (Bool × Rw)} (h : AllIs w S base rs) (hb : Below w.heap.size w w') : AllIs w' S base rs := by
  obtain ⟨v, h1, h2, h3, h4⟩ := h
  refine ⟨v, h1.bel hb, ⟨h2.1, ?_⟩, h3, Nat.le_trans h4 hb.size⟩
  rcases h2.2 with h0 | ⟨g, cap, cur, hv, hbs, hg, r⟩
  · exact .inl h0
  · exact .inr ⟨g, cap, cur, hv, hbs, (hb.block g (Array.getElem?_eq_some_iff.1 hg).1).trans hg, r⟩

/-- one row more: the append as a run, and what is so behind the store -/
theorem AllIs.next {w : World} {S base : Nat} {rs : List (Bool × Rw)} (h : AllIs w S base rs) (g : Bool) (q : Rw) (hn : rs.length ≤ 1000) :
    ∃ v v' w', w.cell? ⟨S, 0, none⟩ = some v ∧ Sem.run Try.prog (Builtin.append_ #[60, 60] 60 #[v, .slice (some ⟨w.heap.size, 0, none⟩) 1 1]) (w.alloc (.cells #[.slice q.a q.n q.cap, .bool g] 63)) = .ok v' w' ∧
      w'.cell? ⟨S, 0, none⟩ = some v ∧ w'.frozen? ⟨S, 0, none⟩ = false ∧ (∃ ga gn gc, v' = .slice (some ⟨ga, 0, none⟩) gn gc) ∧
      AllIs (w'.setCell ⟨S, 0, none⟩ v') S base (rs ++ [(g, q)]) ∧ Apart7 S w (w'.setCell ⟨S, 0, none⟩ v') ∧ Below S w (w'.setCell ⟨S, 0, none⟩ v') ∧ w.heap.size ≤ w'.heap.size := by
  obtain ⟨v, h1, h2, h3, h4⟩ := h
  obtain ⟨i0, hi, hz0, hz1, hz2⟩ := info_run
  have hnews := World.news_of_block (cs := #[.slice q.a q.n q.cap, .bool g]) (t := 63) (fr := (0, 0)) (heap_alloc_new w (.cells #[.slice q.a q.n q.cap, .bool g] 63))
  obtain ⟨v', w', hr, ho, hg, _⟩ := run_append_own_at (P := Try.prog) (w.alloc (.cells #[.slice q.a q.n q.cap, .bool g] 63)) base 60 60 63 i0 _ 2 32 Try.underlying60 hi hz0 hz1 hz2 rfl (by omega) v rs.length _ (h2.alloc _)
    ⟨w.heap.size, 0, none⟩ 1 1 [.slice q.a q.n q.cap, .bool g] rfl hnews (by
      intro u hu
      simp only [List.mem_cons, List.not_mem_nil, or_false] at hu
      rcases hu with rfl | rfl <;> rfl) (by unfold maxLen; omega) (by omega) (by simp; omega)
  have hG : w.grownBy w' v.ownBlock := (World.grownBy_alloc w _ _).trans hg
  have hSo : some S ≠ v.ownBlock := fun e => by have := (h2.lt S e.symm).1; omega
  have hB := h1.kept hG hSo
  have hG2 := grownBy_setCell w' S 0 v'
  have hlen : (rs ++ [(g, q)]).length = rs.length + 1 := by simp
  refine ⟨v, v', w', h1.cell 0, hr, hB.cell 0, hB.frozen 0, ?_, ⟨v', ?_, ?_, h3, ?_⟩, ?_, ?_, hG.size⟩
  · rcases ho.2 with ⟨_, h0⟩ | ⟨ga, cap, _, hv, _⟩
    · omega
    · exact ⟨ga, _, cap, hv⟩
  · exact hB.set 0 v'
  · rw [hlen, List.flatMap_append]
    refine own_grown ho hG2 h3
  · exact Nat.le_trans h4 (Nat.le_trans hG.size hG2.size)
  · intro c T cs hT hc hb
    refine (hb.kept hG ?_).kept hG2 (by simpa using hc)
    intro e
    rcases h2.2 with ⟨hv, _⟩ | ⟨ga, cap, cur, hv, _, hga, _⟩
    · subst hv; cases e
    · subst hv
      simp only [Value.ownBlock, Option.some.injEq] at e
      subst e
      have := hb.symm.trans hga
      simp at this
      exact hT this.2
  · exact ((Below.refl S w).grown hG (by have := h1.lt; omega) (fun k hk => by have := (h2.lt k hk).1; omega)).setCell (p := ⟨S, 0, none⟩) (Nat.le_refl _) v'

set_option maxHeartbeats 800000 in
theorem gains_any (w : World) (S base : Nat) (rs : List (Bool × Rw)) (h : AllIs w S base rs) (q : Rw) (hn : rs.length ≤ 1000) :
    Calls Try.prog 26 #[.slice q.a q.n q.cap, .pointer (some ⟨S, 0, none⟩)] w fun e w' => e = .returned (.tuple #[]) ∧ AllIs w' S base (rs ++ [(true, q)]) ∧ Apart7 S w w' ∧ Below S w w' ∧ w.heap.size ≤ w'.heap.size := by
  obtain ⟨v, v', w', c0, hrun, c1, f1, ⟨ga, gn, gc, rfl⟩, hA, hP, hB, hs⟩ := h.next true q hn
  have HA := Lib.hid hA
  have HP := Lib.hid hP
  have HB := Lib.hid hB
  clear hA hP hB h
  go_enter Try.func26, Try.ntmps26
  go_wp2_with (at_builtin; refine wpList_append_at (by rfl) _ _ _ (by rfl) _ _ (by rfl) (by rfl) hrun ?_)
  exact bodyPost_end (v := .tuple #[]) (results_none rfl _ _ _) rfl ⟨rfl, HA.out, HP.out, HB.out, by simpa using hs⟩

/-- how matrices lie as runs -/
def mruns (gs : List Gr) : List (Bool × Rw) := gs.map (fun g => (false, g.row))
theorem mruns_step (gs : List Gr) (k : Nat) (hk : k < gs.length) : mruns (gs.take (k + 1)) = mruns (gs.take k) ++ [(false, (gs.getD k default).row)] := by
  unfold mruns
  rw [List.take_add_one, List.map_append]
  simp [List.getD, List.getElem?_eq_getElem hk]

set_option maxHeartbeats 1600000 in
theorem matrices_any (w : World) (S base : Nat) (rs : List (Bool × Rw)) (h : AllIs w S base rs) (ab n cap : Nat) (gs : List Gr) (T : TypeId) (cs : Array Value) (hT : T ≠ 63) (hx : Box w ab T cs) (hne : ab ≠ S) (hlen : gs.length = n) (hn4 : n ≤ 4) (hcs : ∀ k, k < n → cs[k * 3]? = some (.int .i64 (gs.getD k default).r) ∧ cs[k * 3 + 1]? = some (.int .i64 (gs.getD k default).c) ∧ cs[k * 3 + 2]? = some (.slice (gs.getD k default).a (gs.getD k default).n (gs.getD k default).cap)) (hn : rs.length ≤ 900) :
    Calls Try.prog 27 #[.slice (some ⟨ab, 0, none⟩) n cap, .pointer (some ⟨S, 0, none⟩)] w fun e w' => e = .returned (.tuple #[]) ∧ AllIs w' S base (rs ++ mruns gs) ∧ Apart7 S w w' ∧ Below S w w' ∧ w.heap.size ≤ w'.heap.size := by
  have HL := Lib.hid hlen
  have HC := Lib.hid hcs
  have HX := Lib.hid hx
  have H := Lib.hid h
  clear hlen hcs hx h
  go_enter Try.func27, Try.ntmps27
  go_wp2_with fail
  go_loopw [7] (fun i wr => ∃ k : Nat, k ≤ n ∧ i = .int .i64 k ∧ Hid (AllIs wr S base (rs ++ mruns (gs.take k))) ∧ Hid (Apart7 S w wr) ∧ Hid (Below S w wr) ∧ w.heap.size ≤ wr.heap.size) (fun i _ => n - (intOf i).toNat)
  case atStart => exact ⟨0, by omega, rfl, Lib.hid (by simpa [mruns] using H.out), Lib.hid (fun _ _ _ _ _ hb => hb), Lib.hid (Below.refl _ _), Nat.le_refl _⟩
  case round =>
    obtain ⟨k, hk, rfl, hA, hP, hB, hs⟩ := hrel
    by_cases hlt : k < n
    · have hXr := hP.out ab T cs hT hne HX.out
      obtain ⟨e0, e1, e2⟩ := HC.out k hlt
      have c0 := (hXr.cell (k * 3)).trans e0
      have c1 := (hXr.cell (k * 3 + 1)).trans e1
      have c2 := (hXr.cell (k * 3 + 2)).trans e2
      have hst := mruns_step gs k (by rw [HL.out]; exact hlt)
      generalize gs.getD k default = g at *
      obtain ⟨r, c, ga, gn, gcap, gv⟩ := g
      simp only at c0 c1 c2
      have hb1 : Below wr.heap.size wr (wr.alloc (.cells #[.int .i64 r, .int .i64 c, .slice ga gn gcap] 29)) := (Below.refl _ _).alloc (Nat.le_refl _) _
      have hlr : (rs ++ mruns (gs.take k)).length ≤ 1000 := by rw [List.length_append]; simp [mruns]; omega
      obtain ⟨v, v', w', d0, hrun, d1, f1, ⟨xa, xn, xc, rfl⟩, hA2, hP2, hB2, hs2⟩ := (hA.out.below hb1).next false ⟨ga, gn, gcap, gv⟩ hlr
      have HA2 : Hid (AllIs (w'.setCell ⟨S, 0, none⟩ (.slice (some ⟨xa, 0, none⟩) xn xc)) S base (rs ++ mruns (gs.take (k + 1)))) := Lib.hid (by rw [hst, ← List.append_assoc]; exact hA2)
      have HP2 : Hid (Apart7 S w (w'.setCell ⟨S, 0, none⟩ (.slice (some ⟨xa, 0, none⟩) xn xc))) := Lib.hid ((hP.out.trans (apart_below hb1)).trans hP2)
      have HB2 : Hid (Below S w (w'.setCell ⟨S, 0, none⟩ (.slice (some ⟨xa, 0, none⟩) xn xc))) := Lib.hid ((hB.out.trans (hb1.mono (by obtain ⟨_, hh, _⟩ := hA.out; exact Nat.le_of_lt hh.lt))).trans hB2)
      have hs3 : w.heap.size ≤ w'.heap.size := by simp at hs2; omega
      simp only [World.size_alloc] at hrun
      clear hst hA2 hP2 hB2 hXr hb1 hlr e0 e1 e2
      go_wp2_with (at_builtin; refine wpList_append_at (by rfl) _ _ _ (by rfl) _ _ (by rfl) (by rfl) hrun ?_)
      clear hrun
      go_roundw
      case rel => exact ⟨k + 1, by omega, by go_num, HA2, HP2, HB2, by simpa using hs3⟩
      case measure => simp [intOf]; omega
    · obtain rfl : k = n := by omega
      have HF : Hid (AllIs wr S base (rs ++ mruns gs)) := Lib.hid (by have h1 := hA.out; rwa [List.take_of_length_le (by rw [HL.out]; omega)] at h1)
      go_wp2
      exact bodyPost_end (v := .tuple #[]) (results_none rfl _ _ _) rfl ⟨rfl, HF.out, hP.out, hB.out, hs⟩

end Go.Proofs.Ytgbbfmpofmeadaa
