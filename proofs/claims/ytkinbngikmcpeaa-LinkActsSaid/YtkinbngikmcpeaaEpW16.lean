/-
  LinkEpochs' loops: what stands in memory round by round.
-/
import Derived.Test.YtkinbngikmcpeaaEp16
import Derived.Test.YtkinbngikmcpeaaLoadPart
namespace Go.Proofs.Ytkinbngikmcpeaa
open Go.RowKit Go.Maps
set_option linter.unusedVariables false

theorem tick_ep (W Sp : Nat) (st : Lk16) : ∀ s ∈ (tickE W Sp st).1, s.e = st.ep := by
  intro s hs
  unfold tickE at hs
  simp only at hs
  split at hs
  · split at hs
    · simp at hs; rw [hs]
    · simp at hs
  · unfold segsL at hs
    obtain ⟨p, _, rfl⟩ := List.mem_map.1 hs
    rfl
theorem listAt_other {ok ok2 : Value → Prop} {w w' : World} {base n size : Nat} {e : TypeId} {v : Value} {xs : List Value} {row : Option Nat} (h : ListAt ok w base e size v n xs) (hg : w.grownBy w' row) (hr : ∀ b, row = some b → ∃ T, AllC ok2 w T b ∧ T ≠ e) : ListAt ok w' base e size v n xs :=
  h.kept hg (fun g hv x => by
    obtain ⟨T, hA, hT⟩ := hr g x
    obtain ⟨cs, hb, _⟩ := h.all g hv
    exact hA.box_ne hb (fun y => hT y.symm) rfl)
theorem SegsAt.other {ok2 : Value → Prop} {w w' : World} {base : Nat} {v : Value} {xs : List Se16} {row : Option Nat} (h : SegsAt w base v xs) (hg : w.grownBy w' row) (hr : ∀ b, row = some b → ∃ T, AllC ok2 w T b ∧ T ≠ 39) (hk : ∀ q : Rw, q.In .u8 w → q.In .u8 w') : SegsAt w' base v xs :=
  ⟨listAt_other h.row hg hr, fun x hx => ⟨hk _ (h.rows x hx).1, (h.rows x hx).2⟩⟩
/-- a segment's four cells, to be loaded at once -/
theorem SegsAt.load {w : World} {base : Nat} {v : Value} {xs : List Se16} (h : SegsAt w base v xs) {j : Nat} (hj : j < xs.length) : ∃ g c x, v = .slice (some ⟨g, 0, none⟩) xs.length c ∧ xs[j] = x ∧ x.q.In .u8 w ∧ x.q.n ≤ 65536 ∧ (∀ i, i < 4 → w.cell? ⟨g, j * 4 + i, none⟩ = (#[.int .i64 x.e, .int .i64 x.s, .int .i64 x.k, .slice x.q.a x.q.n x.q.cap] : Array Value)[i]?) := by
  obtain ⟨g, c, hv, _, _, _, _, hc⟩ := h.cells (by omega)
  obtain ⟨z0, z1, z2, z3, zq, zn⟩ := hc j hj
  refine ⟨g, c, _, hv, rfl, zq, zn, fun i hi => ?_⟩
  match i, hi with
  | 0, _ => exact z0
  | 1, _ => exact z1
  | 2, _ => exact z2
  | 3, _ => exact z3
/-- the main loop -/
def EpI (w : World) (la lb : Nat) (n : Int) (bs : List (List Int)) (g : Nat) (v : Value) (wr : World) : Prop :=
  ∃ sa sb qs, Two w wr la lb 8 2 100 sa sb ∧ EpA n bs g sa ∧ EpB n g false sb ∧ ListR .u8 37 wr w.heap.size v g qs ∧ qs.map Rw.v = bs.take g ∧ g ≤ bs.length
/-- what is sent is heard, j through -/
def EpJ (w : World) (la lb : Nat) (n : Int) (bs : List (List Int)) (g : Nat) (sa : Lk16) (tv : Value) (xs : List Se16) (j : Nat) (v : Value) (wr : World) : Prop :=
  ∃ sb qs, Two w wr lb la 8 2 100 sb (tickE 8 2 sa).2 ∧ EpB n (g + j) (decide (0 < j)) sb ∧ ListR .u8 37 wr w.heap.size v (g + j) qs ∧ qs.map Rw.v = bs.take (g + j) ∧ SegsAt wr w.heap.size tv xs
theorem EpI.tick {w wr : World} {la lb g : Nat} {n : Int} {bs : List (List Int)} {v : Value} (h : EpI w la lb n bs g v wr) (hl : bs.length ≤ 30) :
    Calls Try.prog 14 #[.pointer (some ⟨la, 0, none⟩)] wr fun e w' => ∃ tv xs sa, e = .returned tv ∧ xs.map sgOf = segsL n g 0 (sends 8 2 (newL (bs.drop g))) ∧ EpA n bs g sa ∧ EpJ w la lb n bs g sa tv xs 0 v w' := by
  obtain ⟨sa, sb, qs, hT, hA, hB, hL, hq, hg⟩ := h
  refine (hT.tick (by rw [hA.ak, hA.out]; simp [newL]; omega)).mono ?_
  rintro e w' ⟨tv, xs, rfl, hS, hx, hT2, hK⟩
  exact ⟨tv, xs, sa, rfl, by rw [hx, hA.tick.1], hA, sb, qs, hT2.swap, hB, hL.keeps hK (by decide) (by decide), hq, hS.base hT.below.size⟩
theorem segs_len {n : Int} {bs : List (List Int)} {g : Nat} {xs : List Se16} (hx : xs.map sgOf = segsL n g 0 (sends 8 2 (newL (bs.drop g)))) : xs.length = min 8 (bs.drop g).length := by
  have := congrArg List.length hx
  simpa [segsL, sends_newL_len] using this
theorem segs_one {n : Int} {bs : List (List Int)} {g : Nat} {xs : List Se16} (hx : xs.map sgOf = segsL n g 0 (sends 8 2 (newL (bs.drop g)))) {j : Nat} (hj : j < xs.length) : sgOf xs[j] = ⟨n, ((g + j + 1 : Nat) : Int), 0, bs.getD (g + j) []⟩ := by
  have hl := segs_len hx
  have h1 := congrArg (fun l => l[j]?) hx
  simp only [segsL, List.getElem?_map, sends_newL_at 8 2 (bs.drop g) (show j < min 8 (bs.drop g).length by omega), List.getElem?_eq_getElem hj, Option.map_some, Option.some.injEq] at h1
  rw [h1]
  simp [List.getD_eq_getElem?_getD]
  omega
theorem EpJ.hear {w wr : World} {la lb g j : Nat} {n : Int} {bs : List (List Int)} {sa : Lk16} {tv v : Value} {xs : List Se16} (h : EpJ w la lb n bs g sa tv xs j v wr) (hl : bs.length ≤ 30) (hx : xs.map sgOf = segsL n g 0 (sends 8 2 (newL (bs.drop g)))) (hj : j < xs.length) (x : Se16) (hxx : xs[j] = x) :
    Calls Try.prog 16 #[.pointer (some ⟨lb, 0, none⟩), .agg #[.int .i64 x.e, .int .i64 x.s, .int .i64 x.k, .slice x.q.a x.q.n x.q.cap]] wr fun e w' => ∃ v1, e = .returned (.tuple #[v1, .int .i64 0]) ∧ ∃ cap g2 w'', Sem.run Try.prog (Builtin.append_ #[36, 36] 36 #[v, v1]) w' = .ok (.slice (some ⟨g2, 0, none⟩) (g + (j + 1)) cap) w'' ∧ EpJ w la lb n bs g sa tv xs (j + 1) (.slice (some ⟨g2, 0, none⟩) (g + (j + 1)) cap) w'' := by
  obtain ⟨sb, qs, hT, hB, hL, hq, hS⟩ := h
  have hlen := segs_len hx
  have h1 := segs_one hx hj
  rw [hxx] at h1
  have hm : x ∈ xs := by rw [← hxx]; exact List.getElem_mem hj
  rw [List.length_drop] at hlen
  obtain ⟨b1, b2⟩ := hB.hear (bs.getD (g + j) [])
  refine (hT.hear x (hS.rows x hm).1 (hS.rows x hm).2 (by rw [hB.ak, hB.out]; simp) (by rw [hB.got]; omega)).mono ?_
  rintro e w' ⟨v1, n1, rs, rfl, hR, hn1, hrs, hT2, hK⟩
  rw [h1] at hrs hT2
  rw [h1, b1]
  rw [b1] at hrs
  have hr1 : rs.length = 1 := by simpa using congrArg List.length hrs
  have hn : n1 = 1 := by have := hR.len; omega
  subst hn
  have hbw := hT2.below
  obtain ⟨g2, cap, w'', hrun, hL2, hk2, hg2⟩ := (hL.keeps hK (by decide) (by decide)).apps (P := Try.prog) Try.underlying36 info_rows16 hR (by omega) ⟨Nat.le_refl _, by omega⟩ hbw.size
  have hall := (hL.keeps hK (by decide) (by decide)).all
  have hown := (hL.keeps hK (by decide) (by decide)).own
  refine ⟨v1, rfl, cap, g2, w'', hrun, _, qs ++ rs, hT2.other hg2 (fun b e => ⟨(hown.lt b e).1, _, hall b e, by decide, by decide⟩), by rw [show decide (0 < j + 1) = true by simp]; exact b2, hL2, ?_, (hS.keeps hK).other hg2 (fun b e => ⟨_, hall b e, by decide⟩) hk2⟩
  rw [List.map_append, hq, hrs, show g + (j + 1) = g + j + 1 by omega, List.take_add_one]
  congr 1
  rw [List.getD_eq_getElem?_getD, List.getElem?_eq_getElem (show g + j < bs.length by omega)]
  rfl
/-- behind all of it -/
theorem EpJ.tickB {w wr : World} {la lb g : Nat} {n : Int} {bs : List (List Int)} {sa : Lk16} {tv v : Value} {xs : List Se16} (h : EpJ w la lb n bs g sa tv xs xs.length v wr) (hl : bs.length ≤ 30) (hA : EpA n bs g sa) (h0 : g < bs.length) (hx : xs.map sgOf = segsL n g 0 (sends 8 2 (newL (bs.drop g)))) :
    Calls Try.prog 14 #[.pointer (some ⟨lb, 0, none⟩)] wr fun e w' => ∃ (g1 c1 : Nat) (x : Se16), e = .returned (.slice (some ⟨g1, 0, none⟩) 1 c1) ∧ 1 ≤ c1 ∧ (∀ i, i < 4 → w'.cell? ⟨g1, i, none⟩ = (#[.int .i64 x.e, .int .i64 x.s, .int .i64 x.k, .slice x.q.a x.q.n x.q.cap] : Array Value)[i]?) ∧
      Below w.heap.size w w' ∧ Calls Try.prog 16 #[.pointer (some ⟨la, 0, none⟩), .agg #[.int .i64 x.e, .int .i64 x.s, .int .i64 x.k, .slice x.q.a x.q.n x.q.cap]] w' fun e2 w2 => ∃ a2 n2 c2, e2 = .returned (.tuple #[.slice a2 n2 c2, .int .i64 0]) ∧ EpI w la lb n bs (g + xs.length) v w2 := by
  obtain ⟨sb, qs, hT, hB, hL, hq, hS⟩ := h
  have hlen := segs_len hx
  have hlen2 := hlen
  rw [List.length_drop] at hlen2
  rw [show decide (0 < xs.length) = true by simp; omega] at hB
  obtain ⟨b1, b2⟩ := hB.tick
  refine (hT.tick (by rw [hB.ak, hB.out]; simp)).mono ?_
  rintro e w' ⟨t1, ys, rfl, hS1, hy, hT2, hK⟩
  rw [b1] at hy
  have hyl : ys.length = 1 := by simpa using congrArg List.length hy
  obtain ⟨g1, c1, x, hv1, hx0, hxi, hxn, hc⟩ := hS1.load (j := 0) (by omega)
  obtain ⟨_, c1', hv2, hcc, _⟩ := hS1.cells (by omega)
  rw [hyl] at hv1 hcc
  have hsx : sgOf x = ⟨n, 0, ((g + xs.length : Nat) : Int), []⟩ := by
    have := congrArg (fun l => l[0]?) hy
    simp only [List.getElem?_map, List.getElem?_eq_getElem (show 0 < ys.length by omega), hx0] at this
    simpa using this
  obtain ⟨a1, a2⟩ := hA.ack h0
  rw [← hlen] at a1 a2
  obtain ⟨t1', t2', t3'⟩ := hA.tick
  have hto : (tickE 8 2 sa).2.out.length = (bs.drop g).length := by simp [tickE, tickL_len, hA.out, newL]
  have hH := hT2.swap.hear x hxi hxn (by rw [t3', hto, List.length_drop]; omega) (by show sa.got ≤ _; rw [hA.got]; omega)
  rw [hsx, a1] at hH
  refine ⟨g1, c1, x, by rw [hv1], ?_, fun i hi => by have := hc i hi; rwa [Nat.zero_mul, Nat.zero_add] at this, hT2.below, hH.mono ?_⟩
  · rw [hv2] at hv1
    simp only [Value.slice.injEq] at hv1
    omega
  · rintro e2 w2 ⟨v2, n2, rs2, rfl, hR2, _, _, hT3, hK3⟩
    obtain ⟨a3, c3, rfl, _⟩ := hR2.shape
    exact ⟨a3, n2, c3, rfl, _, _, qs, hT3, a2, b2, (hL.keeps hK (by decide) (by decide)).keeps hK3 (by decide) (by decide), hq, by omega⟩

theorem segs_small {w : World} {base : Nat} {v : Value} {xs : List Se16} (h : SegsAt w base v xs) : xs.length ≤ 9223372036854775807 := by
  rcases h.row.own.2 with ⟨h1, h2⟩ | ⟨g, cap, cur, h1, _, _, h3, h4, _⟩
  · omega
  · unfold maxLen at h4; omega
theorem hear_ep {W : Nat} {st : Lk16} {x : Sg16} (h : x.e ≠ st.ep) : hearE W st x = (([], 160), st) := by unfold hearE; rw [if_pos h]
/-- an elder segment is heard -/
theorem old_hear {w wr : World} {la lb E : Nat} {tv : Value} {xs : List Se16} (hE : 1 ≤ E) (h : Two w wr la lb 8 2 100 (new16 (E : Int)) (new16 (E : Int))) (hS : SegsAt wr w.heap.size tv xs) (x : Se16) (hx : x ∈ xs) (h0 : x.e = 0) :
    Calls Try.prog 16 #[.pointer (some ⟨lb, 0, none⟩), .agg #[.int .i64 x.e, .int .i64 x.s, .int .i64 x.k, .slice x.q.a x.q.n x.q.cap]] wr fun e w' => ∃ a c, e = .returned (.tuple #[.slice a 0 c, .int .i64 160]) ∧ Two w w' la lb 8 2 100 (new16 (E : Int)) (new16 (E : Int)) ∧ SegsAt w' w.heap.size tv xs := by
  refine (h.swap.hear x (hS.rows x hx).1 (hS.rows x hx).2 (by simp [new16]) (by simp [new16])).mono ?_
  rintro e w' ⟨v, n, qs, rfl, hR, hn, hq, hT, hK⟩
  have e1 : hearE 8 (new16 (E : Int)) (sgOf x) = (([], 160), new16 (E : Int)) := hear_ep (by show x.e ≠ (E : Int); rw [h0]; omega)
  rw [e1] at hq hT ⊢
  have hn0 : n = 0 := by have := congrArg List.length hq; simp at this; have := hR.len; subst this; simp_all
  subst hn0
  obtain ⟨a, c, rfl, _⟩ := hR.shape
  exact ⟨a, c, rfl, hT.swap, hS.keeps hK⟩
theorem EpI.left {w wr : World} {la lb g : Nat} {n : Int} {bs : List (List Int)} {v : Value} (h : EpI w la lb n bs g v wr) : Calls Try.prog 21 #[.pointer (some ⟨la, 0, none⟩)] wr fun e w' => e = .returned (.int .i64 ((bs.length - g : Nat) : Int)) ∧ w' = wr := by
  obtain ⟨sa, sb, qs, hT, hA, hB, hL, hq, hg⟩ := h
  have := hT.left
  rw [hA.out] at this
  simpa [newL] using this
theorem EpI.got {w wr : World} {la lb g : Nat} {n : Int} {bs : List (List Int)} {v : Value} (h : EpI w la lb n bs g v wr) : Calls Try.prog 22 #[.pointer (some ⟨lb, 0, none⟩)] wr fun e w' => e = .returned (.int .i64 (g : Int)) ∧ w' = wr := by
  obtain ⟨sa, sb, qs, hT, hA, hB, hL, hq, hg⟩ := h
  have := hT.swap.got
  rw [hB.got] at this
  exact this
theorem EpI.epoch {w wr : World} {la lb g : Nat} {n : Int} {bs : List (List Int)} {v : Value} (h : EpI w la lb n bs g v wr) : Calls Try.prog 23 #[.pointer (some ⟨la, 0, none⟩)] wr fun e w' => e = .returned (.int .i64 n) ∧ w' = wr := by
  obtain ⟨sa, sb, qs, hT, hA, hB, hL, hq, hg⟩ := h
  have := hT.epoch
  rw [hA.ep] at this
  exact this
theorem EpI.bel {w wr w' : World} {la lb g : Nat} {n : Int} {bs : List (List Int)} {v : Value} (h : EpI w la lb n bs g v wr) (hb : Below wr.heap.size wr w') : EpI w la lb n bs g v w' := by
  obtain ⟨sa, sb, qs, hT, hA, hB, hL, hq, hg⟩ := h
  exact ⟨sa, sb, qs, hT.bel hb, hA, hB, hL.bel hb, hq, hg⟩
theorem EpI.start {w wr : World} {la lb : Nat} {n : Int} {bs : List (List Int)} {sa : Lk16} (hT : Two w wr la lb 8 2 100 sa (new16 n)) (hA : EpA n bs 0 sa) : EpI w la lb n bs 0 (.slice none 0 0) wr :=
  ⟨sa, _, [], hT, hA, epB_new n, listR_nil _ _ _ _, by simp, Nat.zero_le _⟩

end Go.Proofs.Ytkinbngikmcpeaa
