/-
  Two links, apart: what a call on one leaves of the other, of rows and of lists.
-/
import Derived.Test.YtkinbngikmcpeaaBodies16
import Derived.Test.YtkinbngikmcpeaaAppM
namespace Go.Proofs.Ytkinbngikmcpeaa
open Go.RowKit Go.Maps
set_option linter.unusedVariables false

/-- rows of bytes stand, and blocks that are none of a link's -/
structure Keeps (w w' : World) : Prop where
  size : w.heap.size ≤ w'.heap.size
  rows : ∀ q : Rw, q.In .u8 w → q.In .u8 w'
  box : ∀ g T cs, Box w g T cs → T ≠ 77 → T ≠ 82 → Box w' g T cs
theorem Moves.keeps {w w' : World} {f : Foot} (h : Moves w w' f) : Keeps w w' := ⟨h.size, h.rows, h.box⟩
theorem keeps_below {w w' : World} (hb : Below w.heap.size w w') : Keeps w w' := ⟨hb.size, fun q h => h.below hb, fun g T cs h _ _ => h.bel hb⟩
theorem Keeps.trans {w w1 w2 : World} (h : Keeps w w1) (k : Keeps w1 w2) : Keeps w w2 := ⟨Nat.le_trans h.size k.size, fun q x => k.rows q (h.rows q x), fun g T cs x a b => k.box g T cs (h.box g T cs x a b) a b⟩
theorem listAt_keeps {ok : Value → Prop} {w w' : World} {base n size : Nat} {e : TypeId} {v : Value} {xs : List Value} (h : ListAt ok w base e size v n xs) (hk : Keeps w w') (h1 : e ≠ 77) (h2 : e ≠ 82) : ListAt ok w' base e size v n xs :=
  h.blk (fun g x => by obtain ⟨cs, hb, _⟩ := h.all g x; exact (hk.box g _ cs hb h1 h2).trans hb.symm)
theorem SegsAt.keeps {w w' : World} {base : Nat} {v : Value} {xs : List Se16} (h : SegsAt w base v xs) (hk : Keeps w w') : SegsAt w' base v xs := ⟨listAt_keeps h.row hk (by decide) (by decide), fun x hx => ⟨hk.rows _ (h.rows x hx).1, (h.rows x hx).2⟩⟩
theorem ListR.keeps {T : TypeId} {w w' : World} {base n : Nat} {v : Value} {qs : List Rw} (h : ListR .u8 T w base v n qs) (hk : Keeps w w') (h1 : T ≠ 77) (h2 : T ≠ 82) : ListR .u8 T w' base v n qs := by
  have hb : ∀ g, v.ownBlock = some g → w'.heap[g]? = w.heap[g]? := fun g e => by
    obtain ⟨cs, hb, _⟩ := h.all g e
    exact (hk.box g _ cs hb h1 h2).trans hb.symm
  refine ⟨⟨h.own.1, ?_⟩, fun g e => (h.all g e).blk (hb g e), fun q hq => hk.rows q (h.rows q hq)⟩
  rcases h.own.2 with hn | ⟨g, cap, cur, rfl, hb1, hg, rest⟩
  · exact .inl hn
  · exact .inr ⟨g, cap, cur, rfl, hb1, (hb g rfl).trans hg, rest⟩
/-- two links -/
def Two (w0 wr : World) (la lb W Sp R : Nat) (sa sb : Lk16) : Prop :=
  ∃ fa fb, LinkAt wr fa W Sp R sa ∧ LinkAt wr fb W Sp R sb ∧ (∀ b, fa.has b → ¬ fb.has b) ∧ fa.lb = la ∧ fb.lb = lb ∧ fa.from_ w0.heap.size ∧ fb.from_ w0.heap.size ∧ Below w0.heap.size w0 wr
section
variable {w0 wr w' : World} {la lb W Sp R : Nat} {sa sb : Lk16}
theorem Two.below (h : Two w0 wr la lb W Sp R sa sb) : Below w0.heap.size w0 wr := let ⟨_, _, _, _, _, _, _, _, _, h⟩ := h; h
theorem Two.goodA (h : Two w0 wr la lb W Sp R sa sb) : Good16 W Sp R sa := let ⟨_, _, h, _⟩ := h; h.good
theorem Two.goodB (h : Two w0 wr la lb W Sp R sa sb) : Good16 W Sp R sb := let ⟨_, _, _, h, _⟩ := h; h.good
theorem Two.swap (h : Two w0 wr la lb W Sp R sa sb) : Two w0 wr lb la W Sp R sb sa := let ⟨fa, fb, h1, h2, h3, h4, h5, h6, h7, h8⟩ := h; ⟨fb, fa, h2, h1, fun b hb ha => h3 b ha hb, h5, h4, h7, h6, h8⟩
theorem Two.bel (h : Two w0 wr la lb W Sp R sa sb) (hb : Below wr.heap.size wr w') : Two w0 w' la lb W Sp R sa sb := let ⟨fa, fb, h1, h2, h3, h4, h5, h6, h7, h8⟩ := h; ⟨fa, fb, h1.bel hb, h2.bel hb, h3, h4, h5, h6, h7, below_two h8 hb⟩
/-- where a block of other things turns that is newer than w0 -/
theorem Two.other (h : Two w0 wr la lb W Sp R sa sb) {row : Option Nat} (hg : wr.grownBy w' row) (hr : ∀ b, row = some b → w0.heap.size ≤ b ∧ ∃ T, AllC NoU wr T b ∧ T ≠ 77 ∧ T ≠ 82) : Two w0 w' la lb W Sp R sa sb :=
  let ⟨fa, fb, h1, h2, h3, h4, h5, h6, h7, h8⟩ := h
  ⟨fa, fb, h1.other hg (fun b e => (hr b e).2), h2.other hg (fun b e => (hr b e).2), h3, h4, h5, h6, h7, h8.grown hg h8.size (fun k e => (hr k e).1)⟩
theorem Two.left (h : Two w0 wr la lb W Sp R sa sb) : Calls Try.prog 21 #[.pointer (some ⟨la, 0, none⟩)] wr fun e w' => e = .returned (.int .i64 sa.out.length) ∧ w' = wr := by
  obtain ⟨fa, fb, h1, h2, h3, rfl, h5, h6, h7, h8⟩ := h
  exact left16 h1
theorem Two.got (h : Two w0 wr la lb W Sp R sa sb) : Calls Try.prog 22 #[.pointer (some ⟨la, 0, none⟩)] wr fun e w' => e = .returned (.int .i64 sa.got) ∧ w' = wr := by
  obtain ⟨fa, fb, h1, h2, h3, rfl, h5, h6, h7, h8⟩ := h
  exact got16 h1
theorem Two.epoch (h : Two w0 wr la lb W Sp R sa sb) : Calls Try.prog 23 #[.pointer (some ⟨la, 0, none⟩)] wr fun e w' => e = .returned (.int .i64 sa.ep) ∧ w' = wr := by
  obtain ⟨fa, fb, h1, h2, h3, rfl, h5, h6, h7, h8⟩ := h
  exact epoch16 h1
theorem two_step {fa fb : Foot} {sa' : Lk16} (h1 : LinkAt wr fa W Sp R sa) (h2 : LinkAt wr fb W Sp R sb) (h3 : ∀ b, fa.has b → ¬ fb.has b) (h6 : fa.from_ w0.heap.size) (h7 : fb.from_ w0.heap.size) (h8 : Below w0.heap.size w0 wr) (hE : Ends wr w' fa W Sp R sa') : Two w0 w' fa.lb fb.lb W Sp R sa' sb ∧ Keeps wr w' := by
  obtain ⟨f', hL, hF, hM⟩ := hE
  exact ⟨⟨f', fb, hL, h2.moved hM (fun b hb ha => h3 b ha hb), fun b hb hb2 => (hF.2 b hb).elim (fun x => h3 b x hb2) (fun x => by have := h2.lt b hb2; omega), hF.1, rfl, h6.to_ hF h8.size, h7, h8.trans (hM.below h8.size h6)⟩, hM.keeps⟩
theorem Two.send (h : Two w0 wr la lb W Sp R sa sb) (a : Option Addr) (n cap : Nat) (qs : List Rw) (hQ : Rws .u8 wr a n qs) (hn6 : n ≤ 1000000) (hna : ∀ b off, a = some ⟨b, off, none⟩ → 0 < n → (b < w0.heap.size ∨ ∃ T cs, Box wr b T cs ∧ T ≠ 77 ∧ T ≠ 82)) :
    Calls Try.prog 11 #[.pointer (some ⟨la, 0, none⟩), .slice a n cap] wr fun e w' => e = .returned (.int .i64 (sendE R sa (qs.map Rw.v)).1) ∧ Two w0 w' la lb W Sp R (sendE R sa (qs.map Rw.v)).2 sb ∧ Keeps wr w' := by
  obtain ⟨fa, fb, h1, h2, h3, rfl, rfl, h6, h7, h8⟩ := h
  refine (send16 h1 a n cap qs hQ hn6 (fun b off e hn hh => ?_)).mono ?_
  · rcases hna b off e hn with h9 | ⟨T, cs, hX, t1, t2⟩
    · have := h6 b hh; omega
    · rcases (h1.ok b hh).2 T cs hX with e | e
      · exact t1 e
      · exact t2 e
  · rintro e w' ⟨rfl, hE⟩
    exact ⟨rfl, two_step h1 h2 h3 h6 h7 h8 hE⟩
theorem Two.reset (h : Two w0 wr la lb W Sp R sa sb) (ep : Int) :
    Calls Try.prog 19 #[.pointer (some ⟨la, 0, none⟩), .int .i64 ep] wr fun e w' => e = .returned (.int .i64 (resetE sa ep).1) ∧ Two w0 w' la lb W Sp R (resetE sa ep).2 sb ∧ Keeps wr w' := by
  obtain ⟨fa, fb, h1, h2, h3, rfl, rfl, h6, h7, h8⟩ := h
  refine (reset16 h1 ep).mono ?_
  rintro e w' ⟨rfl, hE⟩
  exact ⟨rfl, two_step h1 h2 h3 h6 h7 h8 hE⟩
theorem Two.tick (h : Two w0 wr la lb W Sp R sa sb) (hbd : sa.acked + sa.out.length ≤ 1000000000) :
    Calls Try.prog 14 #[.pointer (some ⟨la, 0, none⟩)] wr fun e w' => ∃ v xs, e = .returned v ∧ SegsAt w' wr.heap.size v xs ∧ xs.map sgOf = (tickE W Sp sa).1 ∧ Two w0 w' la lb W Sp R (tickE W Sp sa).2 sb ∧ Keeps wr w' := by
  obtain ⟨fa, fb, h1, h2, h3, rfl, rfl, h6, h7, h8⟩ := h
  refine (tick16 h1 hbd).mono ?_
  rintro e w' ⟨v, xs, rfl, hS, hx, hL, hM⟩
  exact ⟨v, xs, rfl, hS, hx, two_step h1 h2 h3 h6 h7 h8 ⟨fa, hL, FootTo.refl _ _, hM⟩⟩
theorem Two.hear (h : Two w0 wr la lb W Sp R sa sb) (x : Se16) (hq : x.q.In .u8 wr) (hqn : x.q.n ≤ 65536) (hbd : sa.acked + sa.out.length ≤ 1000000000) (hgot : sa.got ≤ 1000000000) :
    Calls Try.prog 16 #[.pointer (some ⟨la, 0, none⟩), .agg #[.int .i64 x.e, .int .i64 x.s, .int .i64 x.k, .slice x.q.a x.q.n x.q.cap]] wr fun en w' => ∃ v n qs, en = .returned (.tuple #[v, .int .i64 (hearE W sa (sgOf x)).1.2]) ∧ ListR .u8 37 w' wr.heap.size v n qs ∧ n ≤ 64 ∧ qs.map Rw.v = (hearE W sa (sgOf x)).1.1 ∧ Two w0 w' la lb W Sp R (hearE W sa (sgOf x)).2 sb ∧ Keeps wr w' := by
  obtain ⟨fa, fb, h1, h2, h3, rfl, rfl, h6, h7, h8⟩ := h
  refine (hear16 h1 x.e x.s x.k x.q hq hqn hbd hgot).mono ?_
  rintro e w' ⟨v, n, qs, rfl, hL, hn, hqs, hE⟩
  exact ⟨v, n, qs, rfl, hL, hn, hqs, two_step h1 h2 h3 h6 h7 h8 hE⟩
end
theorem two_new {w w1 w2 : World} {W Sp R : Nat} {fa fb : Foot} (h1 : LinkAt w1 fa W Sp R (new16 0)) (hf1 : ∀ b, fa.has b → w.heap.size ≤ b) (hb1 : Below w.heap.size w w1) (h2 : LinkAt w2 fb W Sp R (new16 0)) (hf2 : ∀ b, fb.has b → w1.heap.size ≤ b) (hb2 : Below w1.heap.size w1 w2) : Two w w2 fa.lb fb.lb W Sp R (new16 0) (new16 0) :=
  ⟨fa, fb, h1.bel hb2, h2, fun b ha hb => by have := h1.lt b ha; have := hf2 b hb; omega, rfl, rfl, hf1, fun b hb => Nat.le_trans hb1.size (hf2 b hb), below_two hb1 hb2⟩

end Go.Proofs.Ytkinbngikmcpeaa
