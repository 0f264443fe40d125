/-
  What GridLays leans on: Stack, Beside, Add of the code and of the document, whatever they answer.
-/
import Derived.Test.YtocjcfblpifdhaaRefBeside
import Derived.Test.YtocjcfblpifdhaaRefAdd
import Derived.Test.YtocjcfblpifdhaaLawKit4
namespace Go.Proofs.Ytocjcfblpifdhaa
open Go.RowKit
set_option linter.unusedVariables false

set_option maxHeartbeats 2000000 in
theorem copied_any2 (a : Option Addr) (n cap : Nat) (gs : List Gr) (w : World) (h : Grids w a n gs) (h12 : n ≤ 12) (hsm : ∀ g ∈ gs, g.n ≤ 400) :
    Calls Try.prog 19 #[.slice a n cap] w fun e w' => (∃ a' cap' gs', e = .returned (.slice a' n cap') ∧ Grids w' a' n gs' ∧ Alike gs gs' n ∧ (a' = none → cap' = 0) ∧ n ≤ cap') ∧ Below w.heap.size w w' := by
  have HH := Lib.hid h
  have hlen := Lib.hid h.1
  have HS := Lib.hid hsm
  clear h hsm
  go_enter Try.func19, Try.ntmps19
  go_wp2_with fail
  go_loopw [3, 4] (fun v i wr => ∃ (k : Nat) (gs' : List Gr), k ≤ n ∧ i = .int .i64 k ∧ Hid (CopInv w gs k v gs' wr)) (fun _ i _ => n - (intOf i).toNat)
  case atStart => exact ⟨0, [], by omega, rfl, Lib.hid ⟨⟨rfl, .inl ⟨rfl, rfl⟩⟩, by simp, ⟨rfl, fun j hj => absurd hj (by omega)⟩, Below.refl _ _⟩⟩
  case round =>
    obtain ⟨k, gs', hk, rfl, hinv⟩ := hrel
    by_cases hlt : k < n
    · obtain ⟨b, off, g, rfl, hbl, c0, c1, c2, hgk, hin⟩ := (HH.out.below hinv.out.bel).at_ hlt
      have hkl : k < gs.length := by rw [hlen.out]; exact hlt
      have hgn := HS.out g (getD_mem_gr hkl hgk.out)
      obtain ⟨ga, gcap, w1, v2, w2, hrun1, hrun2, hb1, hnext, hgr⟩ := hinv.out.next (by omega) g hgk.out hin hgn
      have i0 : (0 : Int) ≤ (k : Int) := by omega
      have i1 : (k : Int) < (n : Int) := by omega
      have d0 := cell_keep c0 hb1
      have d1 := cell_keep c1 hb1
      have d2 := cell_keep c2 hb1
      have hbw : b < w.heap.size := by
        obtain ⟨b9, off9, _, he, hb9, _⟩ := HH.out.at_ hlt
        cases he; exact hb9
      have hob : some b ≠ u3.ownBlock := fun e => by
        have := (hinv.out.own.lt b e.symm).1
        omega
      obtain ⟨row, hgr, hrow⟩ := hgr
      have hne : some b ≠ row := by rw [hrow]; exact hob
      have f0 := hgr.cell d0 hne
      have f1 := hgr.cell d1 hne
      have f2 := hgr.cell d2 hne
      have HN := Lib.hid hnext
      clear hnext hin hgk hgn hb1 hgr hrow hob hinv
      go_wp2_with fail
      go_region_held3 (fun w' => w'.cell? ⟨b, off + k * 3, none⟩ = some (.int .i64 g.r) ∧ w'.cell? ⟨b, off + k * 3 + 1, none⟩ = some (.int .i64 g.c) ∧ w'.cell? ⟨b, off + k * 3 + 2, none⟩ = some (.slice g.a g.n g.cap))
        (first | go_keep | (go_split_ands; refine ⟨?_, ?_, ?_⟩ <;> assumption))
        (first
          | (refine step_append_run (by rfl) _ _ _ (by rfl) _ _ (by rfl) (by rfl) hrun1 ?_)
          | (refine step_append_run (by rfl) _ _ _ (by rfl) _ _ (by rfl) (by rfl) hrun2 ?_))
      obtain ⟨gs2, hn2⟩ := HN.out
      have HN2 := Lib.hid hn2
      clear hn2 hrun1 hrun2
      go_wp2
      go_roundw
      case rel => exact ⟨k + 1, gs2, by omega, by go_num, HN2⟩
      case measure => simp [intOf]; omega
    · obtain rfl : k = n := by omega
      obtain ⟨a', cap', rfl, hcp1, _, hcp2, hg⟩ := own_grids hinv.out.own hinv.out.alike.1 (by omega) (fun g hg => (hinv.out.inn g hg).1)
      have hcp3 : a' = none → cap' = 0 := by
        rcases hinv.out.own.2 with ⟨he, _⟩ | ⟨g, cp, cur, he, _⟩
        · simp only [Value.slice.injEq] at he; exact fun _ => he.2.2
        · simp only [Value.slice.injEq] at he; exact fun hn => by rw [hn] at he; cases he.1
      have hB := hinv.out.bel
      have hA := hinv.out.alike
      have HG := Lib.hid hg
      have HA := Lib.hid hA
      clear hinv hg hA
      go_wp2
      go_ret
      exact ⟨⟨a', cap', gs', rfl, HG.out, HA.out, hcp3, hcp1⟩, hB⟩


def zeroGr : Gr := ⟨0, 0, none, 0, 0, []⟩
/-- what the code answers: a grid and no error, or none and ErrShape -/
def CodeGr (w : World) (ok : Bool) (R C : Int) (xs : List Int) (e : Ending) : Prop :=
  ∃ (k : Gr) (x : Int), e = .returned (.tuple #[.agg #[.int .i64 k.r, .int .i64 k.c, .slice k.a k.n k.cap], .int .i64 x]) ∧ k.In w ∧ ((ok = false ∧ x = 30 ∧ k = zeroGr) ∨ (ok = true ∧ x = 0 ∧ k.r = R ∧ k.c = C ∧ k.n = xs.length ∧ k.v = xs))
/-- what the document's function answers: a grid and true, or none and false -/
def DocGr (w : World) (ok : Bool) (R C : Int) (xs : List Int) (e : Ending) : Prop :=
  ∃ k : Gr, e = .returned (.tuple #[.agg #[.int .i64 k.r, .int .i64 k.c, .slice k.a k.n k.cap], .bool ok]) ∧ k.In w ∧ ((ok = false ∧ k = zeroGr) ∨ (ok = true ∧ k.r = R ∧ k.c = C ∧ k.n = xs.length ∧ k.v = xs))
/-- the two agree -/
def Agree (g : Gr) (x : Int) (k : Gr) (ok : Bool) : Prop := (ok = false ∧ x = 30 ∧ g = zeroGr ∧ k = zeroGr) ∨ (ok = true ∧ x = 0 ∧ g.r = k.r ∧ g.c = k.c ∧ g.n = k.n ∧ g.v = k.v)
theorem agree_of {g k : Gr} {x : Int} {ok : Bool} {R C : Int} {xs : List Int} (h1 : (ok = false ∧ x = 30 ∧ g = zeroGr) ∨ (ok = true ∧ x = 0 ∧ g.r = R ∧ g.c = C ∧ g.n = xs.length ∧ g.v = xs)) (h2 : (ok = false ∧ k = zeroGr) ∨ (ok = true ∧ k.r = R ∧ k.c = C ∧ k.n = xs.length ∧ k.v = xs)) : Agree g x k ok := by
  rcases h1 with ⟨a1, a2, a3⟩ | ⟨a1, a2, a3, a4, a5, a6⟩
  · rcases h2 with ⟨b1, b2⟩ | ⟨b1, _⟩
    · exact .inl ⟨a1, a2, a3, b2⟩
    · rw [a1] at b1; cases b1
  · rcases h2 with ⟨b1, _⟩ | ⟨b1, b2, b3, b4, b5⟩
    · rw [a1] at b1; cases b1
    · exact .inr ⟨a1, a2, a3.trans b2.symm, a4.trans b3.symm, a5.trans b4.symm, a6.trans b5.symm⟩
theorem held_agree (g k : Gr) (x : Int) (ok : Bool) (w : World) (h : g.In w) (h2 : k.In w) (ha : Agree g x k ok) :
    Calls Try.prog 25 #[.agg #[.int .i64 g.r, .int .i64 g.c, .slice g.a g.n g.cap], .int .i64 x, .agg #[.int .i64 k.r, .int .i64 k.c, .slice k.a k.n k.cap], .bool ok] w fun e w' => e = .returned (.bool true) ∧ Below w.heap.size w w' := by
  rcases ha with ⟨rfl, rfl, rfl, rfl⟩ | ⟨rfl, rfl, e1, e2, e3, e4⟩
  · exact held_no 0 0 none 0 0 w
  · have a1 := h.1
    rw [e1, e2, e3]
    rw [e3, e4] at a1
    exact held_yes k.r k.c g.a k.a k.n g.cap k.cap k.v w a1 h2.1

theorem code_no {w : World} {R C : Int} {xs : List Int} {e : Ending} (h : NoGrid 30 e) : CodeGr w false R C xs e := by
  unfold NoGrid at h; subst h
  exact ⟨zeroGr, 30, rfl, zero_in w, .inl ⟨rfl, rfl, rfl⟩⟩
theorem code_yes {w : World} {R C : Nat} {xs : List Int} {e : Ending} (h : NewGrid w R C xs e) (hR : R ≤ 4096) (hC : C ≤ 4096) : CodeGr w true R C xs e := by
  obtain ⟨k, rfl, h1, h2, h3, h4, hk⟩ := h.gr hR hC
  exact ⟨k, 0, rfl, hk, .inr ⟨rfl, rfl, h1, h2, by rw [← h4, hk.1.1], h4⟩⟩
theorem doc_no {w : World} {R C : Int} {xs : List Int} {e : Ending} (h : NoneOf e) : DocGr w false R C xs e := by
  unfold NoneOf at h; subst h
  exact ⟨zeroGr, rfl, zero_in w, .inl ⟨rfl, rfl⟩⟩
theorem doc_yes {w : World} {R C : Int} {xs : List Int} {e : Ending} (h : RefOk w R C xs e) : DocGr w true R C xs e := by
  obtain ⟨k, rfl, h1, h2, h3, h4, hk⟩ := h
  exact ⟨k, rfl, hk, .inr ⟨rfl, h1, h2, h3, h4⟩⟩

/-! ### Stack -/
theorem code_stack (a : Option Addr) (n cap : Nat) (gs : List Gr) (w : World) (h : Grids w a n gs) (h12 : n ≤ 12) :
    Calls Try.prog 28 #[.slice a n cap] w fun e w' => CodeGr w' (stackB gs) (sumOf (fun g => g.r) gs) (side0 (fun g => g.c) gs) (gs.flatMap Gr.v) e ∧ Below w.heap.size w w' := by
  cases hs : stackB gs with
  | false => exact (stack_no a n cap gs w h h12 hs).mono fun e w' ⟨he, hb⟩ => ⟨code_no he, hb⟩
  | true =>
    obtain ⟨h1, h2, _⟩ := stackB_yes hs
    unfold stackB at hs
    simp only [Bool.and_eq_true] at hs
    obtain ⟨R, C, e1, e2, hR, hC, hle⟩ := newB_yes hs.2.2
    rw [e1, e2]
    exact (stack_yes a n cap gs w h h12 R C h1 h2 e1 e2 hR hC hle).mono fun e w' ⟨he, hb⟩ => ⟨code_yes he hR hC, hb⟩
theorem doc_stack (a : Option Addr) (n cap : Nat) (gs : List Gr) (w : World) (h : Grids w a n gs) (hsm : ∀ g ∈ gs, g.n ≤ 400) :
    Calls Try.prog 31 #[.slice a n cap] w fun e w' => DocGr w' (stackB gs) (sumOf (fun g => g.r) gs) (side0 (fun g => g.c) gs) (gs.flatMap Gr.v) e ∧ Below w.heap.size w w' :=
  (ref_stack a n cap gs w h hsm).mono fun e w' ⟨hc, hb⟩ => ⟨by
    rcases hc with ⟨h1, h2⟩ | ⟨h1, h2⟩
    · rw [h1]; exact doc_no h2
    · rw [h1]; exact doc_yes h2, hb⟩

/-! ### Add -/
theorem all_and {p q : Gr → Bool} (gs : List Gr) : (gs.all fun g => p g && q g) = (gs.all p && gs.all q) := by
  induction gs with
  | nil => rfl
  | cons g gs ih => simp only [List.all_cons, ih]; cases p g <;> cases q g <;> simp
theorem likeB_eq (gs : List Gr) : likeB (gs.getD 0 default) gs = (commonB (fun g => g.r) gs && (commonB (fun g => g.c) gs && fitAll gs)) := by
  unfold likeB commonB fitAll
  rw [all_and, all_and]
  cases (gs.all fun g => fitB g.r g.c g.n) <;> simp
theorem side0_first (p : Gr → Int) (hp : p default = 0) (gs : List Gr) : side0 p gs = p (gs.getD 0 default) := by
  cases gs with
  | nil => exact hp.symm
  | cons g gs => simp [side0]
theorem code_add (a : Option Addr) (n cap : Nat) (gs : List Gr) (w : World) (h : Grids w a n gs) :
    Calls Try.prog 30 #[.slice a n cap] w fun e w' => CodeGr w' (likeB (gs.getD 0 default) gs) (gs.getD 0 default).r (gs.getD 0 default).c (vsums gs (gs.getD 0 default).n) e ∧ Below w.heap.size w w' := by
  cases hs : likeB (gs.getD 0 default) gs with
  | false => exact (add_no a n cap gs w h (by rw [← likeB_eq]; exact hs)).mono fun e w' ⟨he, hb⟩ => ⟨code_no he, hb⟩
  | true =>
    have hs2 := hs
    rw [likeB_eq] at hs2
    simp only [Bool.and_eq_true] at hs2
    obtain ⟨h1, h2, h3⟩ := hs2
    have e1 := side0_first (fun g => g.r) rfl gs
    have e2 := side0_first (fun g => g.c) rfl gs
    obtain ⟨R, C, f1, f2, hR, hC, f3, hle⟩ : ∃ R C : Nat, (gs.getD 0 default).r = R ∧ (gs.getD 0 default).c = C ∧ R ≤ 4096 ∧ C ≤ 4096 ∧ (gs.getD 0 default).n = R * C ∧ R * C ≤ 1048576 := by
      cases gs with
      | nil => exact ⟨0, 0, rfl, rfl, by omega, by omega, rfl, by omega⟩
      | cons g gs => exact fitB_yes (fit_mem h3 g (by simp))
    refine (add_yes a n cap gs w h R C h1 h2 h3 (e1.trans f1) (e2.trans f2) hR hC hle).mono fun e w' ⟨he, hb⟩ => ⟨?_, hb⟩
    have ev : (tab R C fun i j => wrap32 (sumV gs (i * C + j))) = vsums gs (R * C) := by
      refine tab_self _ R C (vsums_length _ _) _ fun i j hi hj => ?_
      have hlt := row_lt hi hj
      unfold vsums
      rw [List.getD_eq_getElem?_getD, List.getElem?_map, List.getElem?_range hlt]
      rfl
    rw [ev] at he
    rw [f1, f2, f3]
    exact code_yes he hR hC
theorem doc_add (a : Option Addr) (n cap : Nat) (gs : List Gr) (w : World) (h : Grids w a n gs) (h12 : n ≤ 12) (hsm : ∀ g ∈ gs, g.n ≤ 400) :
    Calls Try.prog 33 #[.slice a n cap] w fun e w' => DocGr w' (likeB (gs.getD 0 default) gs) (gs.getD 0 default).r (gs.getD 0 default).c (vsums gs (gs.getD 0 default).n) e ∧ Below w.heap.size w w' :=
  (ref_add a n cap gs w h h12 hsm).mono fun e w' ⟨hc, hb⟩ => ⟨by
    rcases hc with ⟨h1, h2⟩ | ⟨h1, h2⟩
    · rw [h1]; exact doc_no h2
    · rw [h1]; exact doc_yes h2, hb⟩

/-! ### Beside -/
def besB (gs : List Gr) : Bool := fitAll gs && stackB (gs.map turnG)
def besX (gs : List Gr) : List Int := tab (side0 (fun g => g.r) gs).toNat (sumOf (fun g => g.c) gs).toNat fun i j => ((gs.map turnG).flatMap Gr.v).getD (j * (side0 (fun g => g.r) gs).toNat + i) 0
theorem fit_turn (g : Gr) : fitB (turnG g).r (turnG g).c (turnG g).n = fitB g.r g.c g.n := by
  unfold fitB rightB turnG
  simp only []
  rw [Int.mul_comm g.c g.r]
  cases sideB g.r <;> cases sideB g.c <;> simp
theorem fitAll_turn (gs : List Gr) : fitAll (gs.map turnG) = fitAll gs := by
  unfold fitAll; rw [List.all_map]; congr 1; funext g; exact fit_turn g
theorem sum_turn (gs : List Gr) : sumOf (fun g => g.r) (gs.map turnG) = sumOf (fun g => g.c) gs := by unfold sumOf; rw [List.map_map]; rfl
theorem side_turn (gs : List Gr) : side0 (fun g => g.c) (gs.map turnG) = side0 (fun g => g.r) gs := by unfold side0; rw [List.map_map]; rfl
theorem common_turn (gs : List Gr) : commonB (fun g => g.c) (gs.map turnG) = commonB (fun g => g.r) gs := by
  cases gs with
  | nil => rfl
  | cons g gs => unfold commonB; rw [List.all_map]; rfl
theorem newB_comm (r c : Int) : newB r c = newB c r := by
  unfold newB; rw [Int.mul_comm r c]; cases sideB r <;> cases sideB c <;> simp
theorem besB_eq (gs : List Gr) : besB gs = (commonB (fun g => g.r) gs && (fitAll gs && newB (side0 (fun g => g.r) gs) (sumOf (fun g => g.c) gs))) := by
  unfold besB stackB
  rw [fitAll_turn, sum_turn, side_turn, common_turn, newB_comm (sumOf _ _)]
  cases fitAll gs <;> simp
/-- a cell of a row of all together: in the turned grids, one below the other -/
theorem cat_turn (R : Nat) (gs : List Gr) (h : ∀ g ∈ gs, ∃ C : Nat, g.r = R ∧ g.c = C ∧ g.v.length = R * C) (i j : Nat) (hi : i < R) (hj : (j : Int) < sumOf (fun g => g.c) gs) :
    (catRow gs i).getD j 0 = ((gs.map turnG).flatMap Gr.v).getD (j * R + i) 0 := by
  induction gs generalizing j with
  | nil => simp [sumOf] at hj; omega
  | cons g gs ih =>
    obtain ⟨C, e1, e2, e3⟩ := h g (by simp)
    have ec : catRow (g :: gs) i = rowOf g.v C i ++ catRow gs i := by
      have : catRow (g :: gs) i = rowOf g.v g.c.toNat i ++ catRow gs i := rfl
      rw [this, e2]; rfl
    have hrl : (rowOf g.v C i).length = C := by unfold rowOf; have := row_le (C := C) hi; simp; omega
    have ev : (turnG g).v = tab C R fun p q => g.v.getD (q * C + p) 0 := by unfold turnG; rw [e1, e2]; rfl
    have et : ((g :: gs).map turnG).flatMap Gr.v = (tab C R fun p q => g.v.getD (q * C + p) 0) ++ (gs.map turnG).flatMap Gr.v := by
      rw [List.map_cons, List.flatMap_cons, ev]
    have es : sumOf (fun g => g.c) (g :: gs) = C + sumOf (fun g => g.c) gs := by unfold sumOf; rw [List.map_cons, List.sum_cons, e2]
    rw [ec, et]
    by_cases hjc : j < C
    · have hlt := row_lt (R := C) (C := R) hjc hi
      rw [List.getD_eq_getElem?_getD, List.getElem?_append_left (by omega), ← List.getD_eq_getElem?_getD, rowOf_at _ _ _ _ hjc]
      rw [List.getD_eq_getElem?_getD (l := _ ++ _), List.getElem?_append_left (by rw [tab_length]; exact hlt), ← List.getD_eq_getElem?_getD, tab_at C R _ j i hjc hi]
    · obtain ⟨m, rfl⟩ : ∃ m, j = C + m := ⟨j - C, by omega⟩
      rw [List.getD_eq_getElem?_getD, List.getElem?_append_right (by omega), hrl, ← List.getD_eq_getElem?_getD, show C + m - C = m by omega]
      rw [List.getD_eq_getElem?_getD (l := _ ++ _), List.getElem?_append_right (by rw [tab_length, Nat.add_mul]; omega), tab_length, ← List.getD_eq_getElem?_getD, show (C + m) * R + i - C * R = m * R + i by rw [Nat.add_mul]; omega]
      exact ih (fun x hx => h x (by simp [hx])) m (by rw [es] at hj; push_cast at hj; omega)
theorem code_beside (a : Option Addr) (n cap : Nat) (gs : List Gr) (w : World) (h : Grids w a n gs) (h12 : n ≤ 12) (ha : a = none → cap = 0) (hcap : n ≤ cap) :
    Calls Try.prog 29 #[.slice a n cap] w fun e w' => CodeGr w' (besB gs) (side0 (fun g => g.r) gs) (sumOf (fun g => g.c) gs) (besX gs) e ∧ Below w.heap.size w w' := by
  cases hs : besB gs with
  | false => exact (beside_no a n cap gs w h h12 ha hcap (by rw [← besB_eq]; exact hs)).mono fun e w' ⟨he, hb⟩ => ⟨code_no he, hb⟩
  | true =>
    rw [besB_eq] at hs
    simp only [Bool.and_eq_true] at hs
    obtain ⟨h1, h2, h3⟩ := hs
    obtain ⟨R, C, e1, e2, hR, hC, hle⟩ := newB_yes h3
    refine (beside_yes a n cap gs w h h12 ha hcap R C h1 h2 e1 e2 hR hC hle).mono fun e w' ⟨he, hb⟩ => ⟨?_, hb⟩
    have ex : (tab R C fun i j => (catRow (wide gs) i).getD j 0) = besX gs := by
      unfold besX
      rw [e1, e2]
      refine tab_congr _ _ _ _ fun i j hi hj => ?_
      rw [catRow_wide]
      refine cat_turn R gs (fun g hg => ?_) i j hi (by rw [e2]; omega)
      obtain ⟨R', C', x1, x2, _, _, x3, _⟩ := fitB_yes (fit_mem h2 g hg)
      have hr : g.r = side0 (fun g => g.r) gs := common_mem h1 g hg
      obtain rfl : R' = R := by omega
      exact ⟨C', x1, x2, by rw [(h.2.2.1 g hg).1.1, x3]⟩
    rw [ex] at he
    rw [e1, e2]
    exact code_yes he hR hC
theorem doc_beside (a : Option Addr) (n cap : Nat) (gs : List Gr) (w : World) (h : Grids w a n gs) (h12 : n ≤ 12) (hsm : ∀ g ∈ gs, g.n ≤ 400) :
    Calls Try.prog 32 #[.slice a n cap] w fun e w' => DocGr w' (besB gs) (side0 (fun g => g.r) gs) (sumOf (fun g => g.c) gs) (besX gs) e ∧ Below w.heap.size w w' :=
  (ref_beside a n cap gs w h h12 hsm).mono fun e w' ⟨hc, hb⟩ => ⟨by
    rcases hc with ⟨h1, h2⟩ | ⟨h1, R, C, e1, e2, hR, hC, h2⟩
    · have : besB gs = false := h1
      rw [this]; exact doc_no h2
    · have : besB gs = true := h1
      rw [side_turn] at e1
      rw [sum_turn] at e2
      unfold besX
      rw [this, e1, e2]; exact doc_yes h2, hb⟩

/-! ### what is said of a grid, without where it lies -/
theorem first_strip (gs : List Gr) : (gs.map strip).getD 0 default = strip (gs.getD 0 default) := by
  cases gs with
  | nil => rfl
  | cons g gs => rfl
theorem turn_strip (gs : List Gr) : (gs.map strip).map turnG = gs.map turnG := by rw [List.map_map]; rfl
theorem besB_strip (gs : List Gr) : besB (gs.map strip) = besB gs := by unfold besB; rw [fitAll_strip, turn_strip]
theorem besX_strip (gs : List Gr) : besX (gs.map strip) = besX gs := by unfold besX; rw [turn_strip, side0_strip _ (fun _ => rfl), sumOf_strip _ (fun _ => rfl)]
theorem likeB_strip (gs : List Gr) : likeB ((gs.map strip).getD 0 default) (gs.map strip) = likeB (gs.getD 0 default) gs := by
  rw [likeB_eq, likeB_eq, commonB_strip _ (fun _ => rfl), commonB_strip _ (fun _ => rfl), fitAll_strip]
theorem sumV_strip (gs : List Gr) (i : Nat) : sumV (gs.map strip) i = sumV gs i := by unfold sumV; rw [List.map_map]; rfl
theorem vsums_strip (gs : List Gr) (m : Nat) : vsums (gs.map strip) m = vsums gs m := by unfold vsums; congr 1; funext j; rw [sumV_strip]
theorem alike_strip {gs gs' : List Gr} {n : Nat} (hl : gs.length = n) (h : Alike gs gs' n) : gs'.map strip = gs.map strip := by
  refine List.ext_getElem? fun j => ?_
  rw [List.getElem?_map, List.getElem?_map]
  by_cases hj : j < n
  · obtain ⟨e1, e2, e3, e4⟩ := h.2 j hj
    have hj1 : j < gs.length := by omega
    have hj2 : j < gs'.length := by rw [h.1]; exact hj
    rw [List.getD_eq_getElem?_getD, List.getD_eq_getElem?_getD, List.getElem?_eq_getElem hj1, List.getElem?_eq_getElem hj2] at e1 e2 e3 e4
    simp only [Option.getD_some] at e1 e2 e3 e4
    rw [List.getElem?_eq_getElem hj1, List.getElem?_eq_getElem hj2]
    simp only [Option.map_some, strip, e1, e2, e3, e4]
  · rw [List.getElem?_eq_none (by rw [h.1]; omega), List.getElem?_eq_none (by omega)]
/-- whatever is known of a list by what 'strip' leaves is the same of a list alike -/
theorem same_strip {X : Type} (f : List Gr → X) (hf : ∀ gs, f (gs.map strip) = f gs) {gs gs' : List Gr} (h : gs'.map strip = gs.map strip) : f gs' = f gs := by
  rw [← hf gs', h, hf]
theorem smallB_yes {gs : List Gr} (h : smallB gs = true) : gs.length ≤ 12 ∧ ∀ g ∈ gs, g.n ≤ 400 := by
  unfold smallB at h
  simp only [Bool.and_eq_true, decide_eq_true_eq] at h
  exact ⟨h.1, fun g hg => of_decide_eq_true (List.all_eq_true.1 h.2 g hg)⟩

end Go.Proofs.Ytocjcfblpifdhaa
