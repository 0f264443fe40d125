/-
  A link of the code and one of the document, side by side: what each call leaves of both.
-/
import Derived.Test.YtkinbngikmcpeaaDTick16
import Derived.Test.YtkinbngikmcpeaaDHear16
import Derived.Test.YtkinbngikmcpeaaSmall16
import Derived.Test.YtkinbngikmcpeaaHear16
import Derived.Test.YtkinbngikmcpeaaBodies16
namespace Go.Proofs.Ytkinbngikmcpeaa
open Go.RowKit Go.Maps
set_option linter.unusedVariables false

/-- the code's link at sa, the document's at sb -/
def Half (w : World) (lb db W Sp R : Nat) (sa sb : Lk16) (wr : World) : Prop :=
  ∃ f, LinkAt wr f W Sp R sa ∧ f.lb = lb ∧ (∀ b, f.has b → w.heap.size ≤ b) ∧ DLk wr db (db + 1) W Sp R sb ∧ Below w.heap.size w wr ∧ w.heap.size ≤ db
section
variable {w wr w' : World} {lb db W Sp R : Nat} {sa sb sa' sb' : Lk16}
theorem DLk.keeps {base : Nat} (h : DLk wr db base W Sp R sb) (hk : Keeps wr w') : DLk w' db base W Sp R sb := let ⟨vo, ve, xs, ys, h⟩ := h; ⟨vo, ve, xs, ys, h.keeps hk⟩
theorem Half.below (h : Half w lb db W Sp R sa sb wr) : Below w.heap.size w wr := let ⟨_, _, _, _, _, h, _⟩ := h; h
theorem Half.dbSize (h : Half w lb db W Sp R sa sb wr) : w.heap.size ≤ db := let ⟨_, _, _, _, _, _, h⟩ := h; h
theorem Half.good (h : Half w lb db W Sp R sa sb wr) : Good16 W Sp R sa := let ⟨_, h, _⟩ := h; h.good
theorem Half.doc (h : Half w lb db W Sp R sa sb wr) : DLk wr db (db + 1) W Sp R sb := let ⟨_, _, _, _, h, _⟩ := h; h
theorem Half.bel (h : Half w lb db W Sp R sa sb wr) (hb : Below wr.heap.size wr w') : Half w lb db W Sp R sa sb w' :=
  let ⟨f, h1, h2, h3, h4, h5, h6⟩ := h
  ⟨f, h1.bel hb, h2, h3, h4.keeps (keeps_below hb), below_two h5 hb, h6⟩
theorem half_code {f : Foot} (h2 : f.lb = lb) (h3 : ∀ b, f.has b → w.heap.size ≤ b) (h4 : DLk wr db (db + 1) W Sp R sb) (h5 : Below w.heap.size w wr) (h6 : w.heap.size ≤ db) (hE : Ends wr w' f W Sp R sa') : Half w lb db W Sp R sa' sb w' ∧ Keeps wr w' := by
  obtain ⟨f', a1, a2, a3⟩ := hE
  exact ⟨⟨f', a1, a2.1.trans h2, fun b hb => (a2.2 b hb).elim (h3 b) (fun h => Nat.le_trans h5.size h), h4.keeps a3.keeps, h5.trans (a3.below h5.size h3), h6⟩, a3.keeps⟩
theorem half_doc {f : Foot} (h1 : LinkAt wr f W Sp R sa) (h2 : f.lb = lb) (h3 : ∀ b, f.has b → w.heap.size ≤ b) (h5 : Below w.heap.size w wr) (h6 : w.heap.size ≤ db) (hE : DEnds wr w' db (db + 1) W Sp R sb') : Half w lb db W Sp R sa sb' w' ∧ MovesD wr w' db :=
  ⟨⟨f, h1.movesD hE.2, h2, h3, hE.1, h5.trans (hE.2.below.mono h6), h6⟩, hE.2⟩
theorem Half.send (h : Half w lb db W Sp R sa sb wr) (a : Option Addr) (n cap : Nat) (qs : List Rw) (hQ : Rws .u8 wr a n qs) (hn6 : n ≤ 1000000) (hna : ∀ b off, a = some ⟨b, off, none⟩ → 0 < n → b < w.heap.size) :
    Calls Try.prog 11 #[.pointer (some ⟨lb, 0, none⟩), .slice a n cap] wr fun e w' => e = .returned (.int .i64 (sendE R sa (qs.map Rw.v)).1) ∧ Half w lb db W Sp R (sendE R sa (qs.map Rw.v)).2 sb w' ∧ Keeps wr w' := by
  obtain ⟨f, h1, h2, h3, h4, h5, h6⟩ := h
  rw [← h2]
  refine (send16 h1 a n cap qs hQ hn6 (fun b off ha hn hf => by have := hna b off ha hn; have := h3 b hf; omega)).mono fun e w' ⟨he, hE⟩ => ⟨he, ?_⟩
  rw [h2]
  exact half_code h2 h3 h4 h5 h6 hE
theorem Half.dsend (h : Half w lb db W Sp R sa sb wr) (a : Option Addr) (n cap : Nat) (qs : List Rw) (hQ : Rws .u8 wr a n qs) (hn6 : n ≤ 1000000) (hna : ∀ b off, a = some ⟨b, off, none⟩ → 0 < n → b < w.heap.size) (hbd : sb.acked + sb.out.length + n ≤ 1000000000) :
    Calls Try.prog 12 #[.pointer (some ⟨db, 0, none⟩), .slice a n cap] wr fun e w' => e = .returned (.int .i64 (sendE R sb (qs.map Rw.v)).1) ∧ Half w lb db W Sp R sa (sendE R sb (qs.map Rw.v)).2 w' ∧ MovesD wr w' db := by
  obtain ⟨f, h1, h2, h3, h4, h5, h6⟩ := h
  exact (dsend16 h4 a n cap qs hQ hn6 (fun b off ha hn => Nat.lt_of_lt_of_le (hna b off ha hn) h6) hbd).mono fun e w' ⟨he, hE⟩ => ⟨he, half_doc h1 h2 h3 h5 h6 hE⟩
theorem Half.tick (h : Half w lb db W Sp R sa sb wr) (hbd : sa.acked + sa.out.length ≤ 1000000000) :
    Calls Try.prog 14 #[.pointer (some ⟨lb, 0, none⟩)] wr fun e w' => ∃ v xs, e = .returned v ∧ SegsAt w' wr.heap.size v xs ∧ xs.map sgOf = (tickE W Sp sa).1 ∧ Half w lb db W Sp R (tickE W Sp sa).2 sb w' ∧ Keeps wr w' := by
  obtain ⟨f, h1, h2, h3, h4, h5, h6⟩ := h
  rw [← h2]
  refine (tick16 h1 hbd).mono fun e w' ⟨v, xs, he, hS, hx, hL, hM⟩ => ⟨v, xs, he, hS, hx, ?_⟩
  rw [h2]
  exact half_code h2 h3 h4 h5 h6 ⟨f, hL, FootTo.refl _ _, hM⟩
theorem Half.dtick (h : Half w lb db W Sp R sa sb wr) (hbd : sb.acked + sb.out.length ≤ 1000000000) :
    Calls Try.prog 15 #[.pointer (some ⟨db, 0, none⟩)] wr fun e w' => ∃ v xs, e = .returned v ∧ SegsAt w' wr.heap.size v xs ∧ xs.map sgOf = (tickE W Sp sb).1 ∧ Half w lb db W Sp R sa (tickE W Sp sb).2 w' ∧ MovesD wr w' db := by
  obtain ⟨f, h1, h2, h3, h4, h5, h6⟩ := h
  exact (dtick16 h4 hbd).mono fun e w' ⟨v, xs, he, hS, hx, hL, hM⟩ => ⟨v, xs, he, hS, hx, half_doc h1 h2 h3 h5 h6 ⟨hL, hM⟩⟩
theorem Half.hear (h : Half w lb db W Sp R sa sb wr) (e s k : Int) (q : Rw) (hq : q.In .u8 wr) (hqn : q.n ≤ 65536) (hbd : sa.acked + sa.out.length ≤ 1000000000) (hgot : sa.got ≤ 1000000000) :
    Calls Try.prog 16 #[.pointer (some ⟨lb, 0, none⟩), .agg #[.int .i64 e, .int .i64 s, .int .i64 k, .slice q.a q.n q.cap]] wr fun en w' => ∃ v n qs, en = .returned (.tuple #[v, .int .i64 (hearE W sa ⟨e, s, k, q.v⟩).1.2]) ∧ ListR .u8 37 w' wr.heap.size v n qs ∧ qs.map Rw.v = (hearE W sa ⟨e, s, k, q.v⟩).1.1 ∧ Half w lb db W Sp R (hearE W sa ⟨e, s, k, q.v⟩).2 sb w' ∧ Keeps wr w' := by
  obtain ⟨f, h1, h2, h3, h4, h5, h6⟩ := h
  rw [← h2]
  refine (hear16 h1 e s k q hq hqn hbd hgot).mono fun en w' ⟨v, n, qs, he, hL, _, hv, hE⟩ => ⟨v, n, qs, he, hL, hv, ?_⟩
  rw [h2]
  exact half_code h2 h3 h4 h5 h6 hE
theorem Half.dhear (h : Half w lb db W Sp R sa sb wr) (e s k : Int) (q : Rw) (hq : q.In .u8 wr) (hqn : q.n ≤ 65536) (hbd : sb.acked + sb.out.length ≤ 1000000000) (hgot : sb.got ≤ 1000000000) :
    Calls Try.prog 17 #[.pointer (some ⟨db, 0, none⟩), .agg #[.int .i64 e, .int .i64 s, .int .i64 k, .slice q.a q.n q.cap]] wr fun en w' => ∃ v n qs, en = .returned (.tuple #[v, .int .i64 (hearE W sb ⟨e, s, k, q.v⟩).1.2]) ∧ ListR .u8 37 w' wr.heap.size v n qs ∧ qs.map Rw.v = (hearE W sb ⟨e, s, k, q.v⟩).1.1 ∧ Half w lb db W Sp R sa (hearE W sb ⟨e, s, k, q.v⟩).2 w' ∧ MovesD wr w' db := by
  obtain ⟨f, h1, h2, h3, h4, h5, h6⟩ := h
  exact (dhear16 h4 e s k q hq hqn hbd hgot).mono fun en w' ⟨v, n, qs, he, hL, _, hv, hE⟩ => ⟨v, n, qs, he, hL, hv, half_doc h1 h2 h3 h5 h6 hE⟩
theorem Half.reset (h : Half w lb db W Sp R sa sb wr) (ep : Int) :
    Calls Try.prog 19 #[.pointer (some ⟨lb, 0, none⟩), .int .i64 ep] wr fun e w' => e = .returned (.int .i64 (resetE sa ep).1) ∧ Half w lb db W Sp R (resetE sa ep).2 sb w' ∧ Keeps wr w' := by
  obtain ⟨f, h1, h2, h3, h4, h5, h6⟩ := h
  rw [← h2]
  refine (reset16 h1 ep).mono fun e w' ⟨he, hE⟩ => ⟨he, ?_⟩
  rw [h2]
  exact half_code h2 h3 h4 h5 h6 hE
theorem Half.dreset (h : Half w lb db W Sp R sa sb wr) (ep : Int) :
    Calls Try.prog 20 #[.pointer (some ⟨db, 0, none⟩), .int .i64 ep] wr fun e w' => e = .returned (.int .i64 (resetE sb ep).1) ∧ Half w lb db W Sp R sa (resetE sb ep).2 w' ∧ MovesD wr w' db := by
  obtain ⟨f, h1, h2, h3, h4, h5, h6⟩ := h
  exact (dreset16 h4 ep).mono fun e w' ⟨he, hE⟩ => ⟨he, half_doc h1 h2 h3 h5 h6 hE⟩
theorem Half.left (h : Half w lb db W Sp R sa sb wr) : Calls Try.prog 21 #[.pointer (some ⟨lb, 0, none⟩)] wr fun e w' => e = .returned (.int .i64 sa.out.length) ∧ w' = wr := by
  obtain ⟨f, h1, rfl, _⟩ := h
  exact left16 h1
theorem Half.got (h : Half w lb db W Sp R sa sb wr) : Calls Try.prog 22 #[.pointer (some ⟨lb, 0, none⟩)] wr fun e w' => e = .returned (.int .i64 sa.got) ∧ w' = wr := by
  obtain ⟨f, h1, rfl, _⟩ := h
  exact got16 h1
theorem Half.epoch (h : Half w lb db W Sp R sa sb wr) : Calls Try.prog 23 #[.pointer (some ⟨lb, 0, none⟩)] wr fun e w' => e = .returned (.int .i64 sa.ep) ∧ w' = wr := by
  obtain ⟨f, h1, rfl, _⟩ := h
  exact epoch16 h1
theorem rws_lt {a : Option Addr} {n : Nat} {qs : List Rw} (h : Rws .u8 w a n qs) : ∀ b off, a = some ⟨b, off, none⟩ → 0 < n → b < w.heap.size := by
  intro b off ha hn
  obtain ⟨b', off', ha', hc⟩ := h.2.2.2 hn
  rw [ha] at ha'
  simp only [Option.some.injEq, Addr.mk.injEq] at ha'
  have := hc 0 hn
  have hb := ha'.1
  subst hb
  exact Nat.lt_of_not_le fun hle => by
    have e : w.heap[b]? = none := by simp; omega
    simp [World.cell?, e] at this
theorem rws_bel {a : Option Addr} {n : Nat} {qs : List Rw} (h : Rws .u8 w a n qs) (hb : Below w.heap.size w w') : Rws .u8 w' a n qs := by
  refine ⟨h.1, h.2.1, fun q hq => (h.2.2.1 q hq).below hb, fun hn => ?_⟩
  obtain ⟨b, off, ha, hc⟩ := h.2.2.2 hn
  refine ⟨b, off, ha, fun i hi => ?_⟩
  rw [World.cell?_of_block (w := w) (a := ⟨b, off + i, none⟩) (hb.block b (rws_lt h b off ha hn))]
  exact hc i hi
end
/-- how far a link has gone in i acts -/
def Bd16 (i : Nat) (st : Lk16) : Prop := st.acked + st.out.length ≤ 100 * i ∧ st.got ≤ 100 * i
theorem Bd16.big {i : Nat} {st : Lk16} (h : Bd16 i st) (hi : i ≤ 200) : st.acked + st.out.length ≤ 20000 ∧ st.got ≤ 20000 := by unfold Bd16 at h; omega
theorem Bd16.on {i : Nat} {st : Lk16} (h : Bd16 i st) : Bd16 (i + 1) st := by unfold Bd16 at h ⊢; omega
theorem Bd16.send {i R : Nat} {st : Lk16} {bs : List (List Int)} (h : Bd16 i st) (hb : bs.length ≤ 100) : Bd16 (i + 1) (sendE R st bs).2 := by
  unfold sendE
  split
  · exact h.on
  · split
    · exact h.on
    · unfold Bd16 at h ⊢
      simp only [List.length_append, List.length_map]
      omega
theorem Bd16.tick {i W Sp : Nat} {st : Lk16} (h : Bd16 i st) : Bd16 (i + 1) (tickE W Sp st).2 := by
  have := h.on
  unfold Bd16 at this ⊢
  simp only [tickE, tickL_len]
  exact this
theorem Bd16.ack {i : Nat} {st : Lk16} {k : Int} (h : Bd16 i st) (hk : k ≤ st.acked + st.out.length) : Bd16 i (ackE st k) := by
  unfold Bd16 at h ⊢
  simp only [ackE, List.length_drop]
  omega
theorem Bd16.hear {i W Sp R : Nat} {st : Lk16} (hg : Good16 W Sp R st) (h : Bd16 i st) (x : Sg16) : Bd16 (i + 1) (hearE W st x).2 := by
  unfold hearE
  split
  · exact h.on
  · split
    · exact h.on
    · rename_i hb
      simp only [badE, decide_eq_true_eq] at hb
      have hA := h.ack (k := x.k) (by have := hg.sent; omega)
      split
      · exact hA.on
      · have h1 := takeE_le (keepE W st.got st.early x.s x.b).length st.got (keepE W st.got st.early x.s x.b)
        have h2 := (hg.early.keep x.s x.b).len
        have h3 := hg.pm.1
        unfold Bd16 at hA ⊢
        refine ⟨by have := hA.1; simp only at this ⊢; omega, ?_⟩
        have : (ackE st x.k).got = st.got := rfl
        rw [this] at hA
        simp only [earlyE]
        omega
theorem Bd16.reset {i : Nat} {st : Lk16} {ep : Int} (h : Bd16 i st) : Bd16 (i + 1) (resetE st ep).2 := by
  unfold resetE
  split
  · exact h.on
  · unfold Bd16
    simp [new16]
/-- the document's link at the beginning -/
theorem dlk_new {w : World} {W Sp R : Nat} (h : (1 ≤ W ∧ W ≤ 64) ∧ (1 ≤ Sp ∧ Sp ≤ 1000) ∧ (1 ≤ R ∧ R ≤ 4096)) {db : Nat} (hb : Box w db 35 #[.int .i64 W, .int .i64 Sp, .int .i64 R, .int .i64 0, .int .i64 0, .int .i64 0, .int .i64 0, .int .i64 0, .slice none 0 0, .slice none 0 0, .bool false]) : DLk w db (db + 1) W Sp R (new16 0) :=
  ⟨.slice none 0 0, .slice none 0 0, [], [], hb, listAt_nil _ _ _ _ _, rfl, listAt_nil _ _ _ _ _, rfl, by simp, by simp, good_new h ⟨by omega, by omega⟩, by omega, hb.lt⟩

/-- the law's loop, i acts through -/
def ActsI (w : World) (lb db W Sp R i : Nat) (wr : World) : Prop := ∃ st, Half w lb db W Sp R st st wr ∧ Bd16 i st ∧ Box wr w.heap.size 23 #[.int .i64 W, .int .i64 Sp, .int .i64 R]
theorem ActsI.half {w wr : World} {lb db W Sp R i : Nat} (h : ActsI w lb db W Sp R i wr) : ∃ st, Half w lb db W Sp R st st wr := let ⟨st, h, _⟩ := h; ⟨st, h⟩
theorem ActsI.below {w wr : World} {lb db W Sp R i : Nat} (h : ActsI w lb db W Sp R i wr) : Below w.heap.size w wr := let ⟨_, h, _⟩ := h; h.below
theorem tickE_len {W Sp R : Nat} {st : Lk16} (h : Good16 W Sp R st) : (tickE W Sp st).1.length ≤ 5000 := by
  have h1 := sends_len W Sp st.out
  have h2 := h.room
  have h3 := h.pm.2.2.2
  unfold tickE
  simp only
  split
  · split <;> simp
  · simp only [segsL, List.length_map]; omega

end Go.Proofs.Ytkinbngikmcpeaa
