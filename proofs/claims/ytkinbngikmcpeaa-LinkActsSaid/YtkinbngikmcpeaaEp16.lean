/-
  Plain mathematics of LinkEpochs: what one side sends at once, the other one hears at once, in order.
-/
import Derived.Test.YtkinbngikmcpeaaTwo16
import Derived.Test.YtkinbngikmcpeaaWin16
namespace Go.Proofs.Ytkinbngikmcpeaa
open Go.RowKit Go.Maps
set_option linter.unusedVariables false

/-- bodies that were never sent -/
def newL (bs : List (List Int)) : List Wt16 := bs.map fun b => ⟨-1, b⟩
theorem sends_newL (W Sp : Nat) (bs : List (List Int)) : sends W Sp (newL bs) = ((bs.take W).zipIdx).map fun p => (p.2, p.1) := by
  rw [← sends_window W Sp (newL bs)]
  unfold sends newL
  rw [← List.map_take]
  suffices H : ∀ (L : List (List Int)) (k : Nat), k + L.length ≤ W → ((L.map fun b => (⟨-1, b⟩ : Wt16)).zipIdx k).filterMap (fun p => if goes16 W Sp p.2 p.1 = true then some (p.2, p.1.b) else none) = (L.zipIdx k).map fun p => (p.2, p.1) from
    H _ 0 (by rw [List.length_take]; omega)
  intro L
  induction L with
  | nil => intro k _; rfl
  | cons b L ih =>
    intro k hk
    rw [List.length_cons] at hk
    have hg : goes16 W Sp k ⟨-1, b⟩ = true := by unfold goes16; rw [decide_eq_true_eq]; exact ⟨by omega, .inl (by simp)⟩
    simp only [List.map_cons, List.zipIdx_cons, List.filterMap_cons, hg, if_true]
    rw [ih (k + 1) (by omega)]
theorem sends_newL_len (W Sp : Nat) (bs : List (List Int)) : (sends W Sp (newL bs)).length = min W bs.length := by rw [sends_newL]; simp
theorem sends_newL_at (W Sp : Nat) (bs : List (List Int)) {j : Nat} (hj : j < min W bs.length) : (sends W Sp (newL bs))[j]? = some (j, bs.getD j []) := by
  rw [sends_newL]
  have h1 : j < bs.length := by omega
  simp [List.getElem?_map, List.getElem?_zipIdx, List.getElem?_take_of_lt (show j < W by omega), List.getElem?_eq_getElem h1, List.getD_eq_getElem?_getD]
theorem sentL_newL (W Sp : Nat) (bs : List (List Int)) (g : Nat) : sentL g g (sends W Sp (newL bs)) = g + min W bs.length := by
  suffices H : ∀ k, k ≤ min W bs.length → sentL g g ((sends W Sp (newL bs)).take k) = g + k by
    have := H _ (Nat.le_refl _)
    rwa [List.take_of_length_le (by rw [sends_newL_len]; exact Nat.le_refl _)] at this
  intro k
  induction k with
  | zero => intro _; rfl
  | succ k ih =>
    intro hk
    have hl : k < (sends W Sp (newL bs)).length := by rw [sends_newL_len]; omega
    have he : (sends W Sp (newL bs))[k] = (k, bs.getD k []) := by
      have := sends_newL_at W Sp bs (j := k) (by omega)
      rw [List.getElem?_eq_getElem hl] at this
      exact Option.some.inj this
    rw [sentL_take _ _ _ hl, ih (by omega), he]
    simp only; omega
/-- the sender, of whose bodies the other side has g -/
structure EpA (n : Int) (bs : List (List Int)) (g : Nat) (st : Lk16) : Prop where
  ep : st.ep = n
  got : st.got = 0
  ear : st.early = []
  owe : st.owes = false
  ak : st.acked = g
  snt : st.sent = g
  out : st.out = newL (bs.drop g)
/-- the hearer -/
structure EpB (n : Int) (g : Nat) (o : Bool) (st : Lk16) : Prop where
  ep : st.ep = n
  got : st.got = g
  ear : st.early = []
  owe : st.owes = o
  ak : st.acked = 0
  snt : st.sent = 0
  out : st.out = []
theorem epB_new (n : Int) : EpB n 0 false (new16 n) := ⟨rfl, rfl, rfl, rfl, rfl, rfl, rfl⟩
theorem epA_new (n : Int) (bs : List (List Int)) (hb : ∀ b ∈ bs, b.length ≤ 65536) (hl : bs.length ≤ 100) : sendE 100 (new16 n) bs = (0, { new16 n with out := newL bs }) ∧ EpA n bs 0 { new16 n with out := newL bs } := by
  refine ⟨?_, rfl, rfl, rfl, rfl, rfl, rfl, by simp⟩
  unfold sendE
  rw [if_neg (by rw [List.any_eq_true]; rintro ⟨b, h1, h2⟩; have := hb b h1; simp at h2; omega), if_neg (by simp [new16]; omega)]
  rfl
/-- a segment's number and body -/
theorem EpA.tick {n : Int} {bs : List (List Int)} {g : Nat} {st : Lk16} (h : EpA n bs g st) :
    (tickE 8 2 st).1 = segsL n g 0 (sends 8 2 (newL (bs.drop g))) ∧ (tickE 8 2 st).2.sent = g + min 8 (bs.drop g).length ∧ (tickE 8 2 st).2.acked = g := by
  refine ⟨?_, ?_, h.ak⟩
  · unfold tickE
    rw [h.out, h.ep, h.got, h.ak, h.owe]
    split
    · rename_i h0
      rw [List.length_eq_zero_iff.1 h0]
      rfl
    · rfl
  · unfold tickE
    simp only [h.out, h.ak, h.snt]
    exact sentL_newL 8 2 _ g
/-- the hearer hears the next one -/
theorem EpB.hear {n : Int} {g : Nat} {o : Bool} {st : Lk16} (h : EpB n g o st) (b : List Int) : hearE 8 st ⟨n, ((g + 1 : Nat) : Int), 0, b⟩ = (([b], 0), (hearE 8 st ⟨n, ((g + 1 : Nat) : Int), 0, b⟩).2) ∧ EpB n (g + 1) true (hearE 8 st ⟨n, ((g + 1 : Nat) : Int), 0, b⟩).2 := by
  have hbad : badE st ⟨n, ((g + 1 : Nat) : Int), 0, b⟩ = false := by
    unfold badE
    rw [decide_eq_false_iff_not]
    simp only
    omega
  have hk : keepE 8 st.got st.early ((g + 1 : Nat) : Int) b = [(g + 1, b)] := by
    unfold keepE
    rw [h.got, h.ear, if_pos ⟨by omega, by omega, rfl⟩, Int.toNat_natCast]
    rfl
  have he : earlyE 8 st ⟨n, ((g + 1 : Nat) : Int), 0, b⟩ = (g + 1, [], [b]) := by
    unfold earlyE
    simp only
    rw [hk, h.got]
    simp [takeE, findQ, dropQ]
  have hh : hearE 8 st ⟨n, ((g + 1 : Nat) : Int), 0, b⟩ = (([b], 0), { ackE st 0 with owes := true, got := g + 1, early := [] }) := by
    unfold hearE
    rw [if_neg (by simp [h.ep]), hbad, if_neg (by simp), if_neg (by simp; omega), he]
  refine ⟨by rw [hh], ?_⟩
  rw [hh]
  exact ⟨h.ep, rfl, rfl, rfl, by simp [ackE, h.ak], h.snt, by simp [ackE, h.out]⟩
theorem EpB.tick {n : Int} {g : Nat} {st : Lk16} (h : EpB n g true st) : tickE 8 2 st = ([⟨n, 0, g, []⟩], (tickE 8 2 st).2) ∧ EpB n g false (tickE 8 2 st).2 := by
  refine ⟨?_, h.ep, h.got, h.ear, rfl, h.ak, ?_, ?_⟩
  · unfold tickE
    simp [h.out, h.owe, h.ep, h.got, sends]
  · simp [tickE, h.out, h.snt, h.ak, sends, sentL]
  · simp [tickE, tickL, h.out]
theorem EpA.ack {n : Int} {bs : List (List Int)} {g : Nat} {st : Lk16} (h : EpA n bs g st) (h0 : g < bs.length) :
    hearE 8 (tickE 8 2 st).2 ⟨n, 0, ((g + min 8 (bs.drop g).length : Nat) : Int), []⟩ = (([], 0), (hearE 8 (tickE 8 2 st).2 ⟨n, 0, ((g + min 8 (bs.drop g).length : Nat) : Int), []⟩).2) ∧
      EpA n bs (g + min 8 (bs.drop g).length) (hearE 8 (tickE 8 2 st).2 ⟨n, 0, ((g + min 8 (bs.drop g).length : Nat) : Int), []⟩).2 := by
  obtain ⟨_, t2, t3⟩ := h.tick
  obtain ⟨m, hm⟩ : ∃ m, min 8 (bs.drop g).length = m := ⟨_, rfl⟩
  rw [hm] at t2 ⊢
  have hbad : badE (tickE 8 2 st).2 ⟨n, 0, ((g + m : Nat) : Int), []⟩ = false := by
    unfold badE
    rw [decide_eq_false_iff_not, t2]
    simp; omega
  have hep : (tickE 8 2 st).2.ep = n := h.ep
  have hh : hearE 8 (tickE 8 2 st).2 ⟨n, 0, ((g + m : Nat) : Int), []⟩ = (([], 0), ackE (tickE 8 2 st).2 ((g + m : Nat) : Int)) := by
    unfold hearE
    rw [if_neg (by simp [hep]), hbad, if_neg (by simp), if_pos rfl]
  refine ⟨by rw [hh], ?_⟩
  rw [hh]
  refine ⟨h.ep, h.got, h.ear, rfl, by simp only [ackE, t3, Int.toNat_natCast]; omega, t2, ?_⟩
  simp only [ackE, t3, Int.toNat_natCast, show g + m - g = m by omega]
  apply List.ext_getElem
  · simp [tickE, tickL_len, h.out, newL]; omega
  · intro i h1 h2
    rw [List.getElem_drop]
    have hl : (newL (bs.drop g)).length = (bs.drop g).length := by simp [newL]
    have h3 : m + i < (newL (bs.drop g)).length := by
      rw [List.length_drop] at h1
      simp only [tickE, tickL_len, h.out] at h1
      omega
    have e1 : (tickE 8 2 st).2.out = tickL 8 2 (newL (bs.drop g)) := by unfold tickE; simp only [h.out]
    simp only [e1]
    rw [tickL_at 8 2 _ h3]
    have e2 : (newL (bs.drop g))[m + i] = ⟨-1, (bs.drop g)[m + i]'(by rw [← hl]; exact h3)⟩ := by simp [newL]
    have hg : goes16 8 2 (m + i) ⟨-1, (bs.drop g)[m + i]'(by rw [← hl]; exact h3)⟩ = false := by unfold goes16; rw [decide_eq_false_iff_not]; omega
    rw [e2]
    unfold step16
    rw [if_neg (by rw [hg]; simp), if_pos (by simp)]
    simp [newL, Nat.add_assoc]

end Go.Proofs.Ytkinbngikmcpeaa
