/-
  Proved: for any cut and numbers SliceNumbers returns true (a worker's number and where a worker is are the document's, and each is the other's way back) and nothing that was in memory turns. No condition.
-/
import Derived.Test.YtledjabhbakdeaaRows
import Derived.WalkKit
import Derived.ProofKit
import Derived.OpenShut
import Derived.ShutString
import Derived.ChangeOld
import Derived.Below
import Derived.Test.YtledjabhbakdeaaCutRow
import Derived.Test.YtledjabhbakdeaaAwake10
import Derived.Deep.RegionHeld3
import Derived.BigQuiet
import Derived.IntWalk
namespace Go.Proofs.Ytledjabhbakdeaa.sliceNumbers
open Go.ChangeShapes Go.WideShapes Go.ChangeAt Go.RowKit
open Go.ChangeMaps (open_string shut_string)
set_option linter.unusedVariables false

theorem own : ownKnob Try.prog.godebug = none := by kernel_rfl
theorem laidOut : laidOutB Try.prog = true := by kernel_rfl

set_option maxHeartbeats 6400000 in
set_option maxRecDepth 100000 in
theorem walk (s0 q0 : Int) (a1 : Int) (a2 : Int) (w : World) (h0 : (Lit.int .i64 s0).wf = true ∧ (Lit.int .i64 q0).wf = true) (h1 : (Lit.int .i64 a1).wf = true) (h2 : (Lit.int .i64 a2).wf = true) :
    Calls Try.prog 4 #[.agg #[.int .i64 s0, .int .i64 q0], .int .i64 a1, .int .i64 a2] w fun e w' => e = .returned (.bool true) ∧ Below w.heap.size w w' := by
  obtain ⟨v1, v2⟩ := h0
  have bs := wf64 v1
  have bp := wf64 v2
  have bi := wf64 h1
  have bj := wf64 h2
  clear v1 v2 h1 h2
  by_cases hf : FitI s0 q0
  · have ft := fun W => fits_yes10 s0 q0 W hf
    obtain ⟨⟨f0, f1⟩, f2, f3⟩ := hf
    obtain ⟨st, rfl⟩ : ∃ x : Nat, s0 = x := ⟨s0.toNat, by omega⟩
    obtain ⟨pt, rfl⟩ : ∃ x : Nat, q0 = x := ⟨q0.toNat, by omega⟩
    obtain ⟨y, hy⟩ : ∃ y, y = st * pt := ⟨_, rfl⟩
    have e1 : (st : Int) * (pt : Int) = (y : Int) := by rw [hy]; push_cast; rfl
    have y1 : y ≤ 64 * 64 := by rw [hy]; exact Nat.mul_le_mul (by omega) (by omega)
    have ys : st ≤ y := by rw [hy]; exact Nat.le_mul_of_pos_right st (by omega)
    by_cases i0 : a1 < 0
    · have t1 : True := trivial
      have wk := fun W => worker_bad st pt a1 a2 W bs bp (by rintro ⟨x, y, z⟩; omega)
      have wh := fun W => where_bad st pt a1 W bs bp (.inr (.inl i0))
      unfold cutv at wk ft wh
      go_enter Try.func4, Try.ntmps4
      go_wp2_with fail
      refine (awake10 _).mono ?_
      rintro e wa ⟨rfl, hb⟩
      have XC := (box_new w _ _).bel hb
      have B := below_two ((Below.refl w.heap.size w).alloc (Nat.le_refl _) _) hb
      obtain ⟨cz0, cz1⟩ := two_cells XC
      clear hb
      go_wp2_with fail
      refine (wk _).mono ?_
      rintro e wb ⟨rfl, hb⟩
      clear cz0 cz1
      replace XC := XC.bel hb
      replace B := below_two B hb
      clear hb
      obtain ⟨cz0, cz1⟩ := two_cells XC
      go_wp2_with fail
      refine (ft _).mono ?_
      rintro e wc ⟨rfl, hb⟩
      clear cz0 cz1
      replace XC := XC.bel hb
      replace B := below_two B hb
      clear hb
      obtain ⟨cz0, cz1⟩ := two_cells XC
      go_wp2_with fail
      refine (wh _).mono ?_
      rintro e wd ⟨rfl, hb⟩
      clear cz0 cz1
      replace XC := XC.bel hb
      replace B := below_two B hb
      clear hb
      obtain ⟨cz0, cz1⟩ := two_cells (XC.alloc (.cells #[Value.int .i64 0, .int .i64 0] 29))
      go_wp2_with fail
      refine (ft _).mono ?_
      rintro e we ⟨rfl, hb⟩
      clear cz0 cz1
      replace XC := (XC.alloc _).bel hb
      have XA := (box_new wd _ _).bel hb
      replace B := below_two (B.alloc B.size _) hb
      obtain ⟨cz0, cz1⟩ := two_cells XC
      obtain ⟨az0, az1⟩ := two_cells XA
      clear hb
      have hq := eql_two
      have hn := neq_two
      have YC := Lib.hid XC
      have B2 := Lib.hid B
      clear XC XA B wk ft wh
      go_upto_region 9 with (fail)
      go_quiet (fail)
      go_wp2
      go_ret
      exact ⟨rfl, bel_drewN B2.out _⟩
    · obtain ⟨j, rfl⟩ : ∃ x : Nat, a1 = x := ⟨a1.toNat, by omega⟩
      clear i0
      by_cases o0 : j < y
      · by_cases n0 : a2 < 0
        · have t2 : True := trivial
          have wh := fun W => where_yes st pt j W (by omega) (by omega) (by rw [← hy]; exact o0)
          have dm := Nat.div_add_mod j pt
          have ml := Nat.mod_lt j (show 0 < pt by omega)
          have e3 : (j : Int) / (pt : Int) = ((j / pt : Nat) : Int) := by push_cast; rfl
          have e4 : (j : Int) % (pt : Int) = ((j % pt : Nat) : Int) := by push_cast; rfl
          have u1 : j / pt ≤ j := Nat.div_le_self j pt
          have u2 : j % pt ≤ j := Nat.mod_le j pt
          clear dm ml
          generalize j / pt = a at wh e3 u1
          generalize j % pt = b at wh e4 u2
          have hne : ¬ (pt : Int) = 0 := by omega
          have wk := fun W => worker_bad st pt j a2 W bs bp (by rintro ⟨x, y, z⟩; omega)
          unfold cutv at wk ft wh
          clear hy bs bp bi bj
          go_enter Try.func4, Try.ntmps4
          go_wp2_with fail
          refine (awake10 _).mono ?_
          rintro e wa ⟨rfl, hb⟩
          have XC := (box_new w _ _).bel hb
          have B := below_two ((Below.refl w.heap.size w).alloc (Nat.le_refl _) _) hb
          obtain ⟨cz0, cz1⟩ := two_cells XC
          clear hb
          go_wp2_with fail
          refine (wk _).mono ?_
          rintro e wb ⟨rfl, hb⟩
          clear cz0 cz1
          replace XC := XC.bel hb
          replace B := below_two B hb
          clear hb
          obtain ⟨cz0, cz1⟩ := two_cells XC
          go_wp2_with fail
          refine (ft _).mono ?_
          rintro e wc ⟨rfl, hb⟩
          clear cz0 cz1
          replace XC := XC.bel hb
          replace B := below_two B hb
          clear hb
          obtain ⟨cz0, cz1⟩ := two_cells XC
          go_wp2_with fail
          refine (wh _).mono ?_
          rintro e wd ⟨rfl, hb⟩
          clear cz0 cz1
          replace XC := XC.bel hb
          replace B := below_two B hb
          clear hb
          obtain ⟨cz0, cz1⟩ := two_cells (XC.alloc (.cells #[Value.int .i64 a, .int .i64 b] 29))
          go_wp2_with fail
          refine (ft _).mono ?_
          rintro e we ⟨rfl, hb⟩
          clear cz0 cz1
          replace XC := (XC.alloc _).bel hb
          have XA := (box_new wd _ _).bel hb
          replace B := below_two (B.alloc B.size _) hb
          obtain ⟨cz0, cz1⟩ := two_cells XC
          obtain ⟨az0, az1⟩ := two_cells XA
          clear hb
          have hq := eql_two
          have hn := neq_two
          have YC := Lib.hid XC
          have B2 := Lib.hid B
          clear XC XA B wk ft wh
          go_upto_region 9 with (fail)
          go_quiet (fail)
          go_wp2
          go_ret
          exact ⟨rfl, bel_drewN B2.out _⟩
        · obtain ⟨q, rfl⟩ : ∃ x : Nat, a2 = x := ⟨a2.toNat, by omega⟩
          clear n0
          by_cases k1 : j < st
          · by_cases k2 : q < pt
            · have t3 : True := trivial
              have wh := fun W => where_yes st pt j W (by omega) (by omega) (by rw [← hy]; exact o0)
              have dm := Nat.div_add_mod j pt
              have ml := Nat.mod_lt j (show 0 < pt by omega)
              have e3 : (j : Int) / (pt : Int) = ((j / pt : Nat) : Int) := by push_cast; rfl
              have e4 : (j : Int) % (pt : Int) = ((j % pt : Nat) : Int) := by push_cast; rfl
              have u1 : j / pt ≤ j := Nat.div_le_self j pt
              have u2 : j % pt ≤ j := Nat.mod_le j pt
              clear dm ml
              generalize j / pt = a at wh e3 u1
              generalize j % pt = b at wh e4 u2
              have hne : ¬ (pt : Int) = 0 := by omega
              have wk := fun W => worker_yes st pt j q W (by omega) (by omega) k1 k2
              have lt : j * pt + q < st * pt := by have := Nat.mul_le_mul_right pt (show j + 1 ≤ st by omega); rw [Nat.succ_mul] at this; omega
              have bk := fun W => where_yes st pt (j * pt + q) W (by omega) (by omega) lt
              have d1 : (j * pt + q) / pt = j := by rw [Nat.mul_comm, Nat.mul_add_div (by omega), Nat.div_eq_of_lt k2]; rfl
              have d2 : (j * pt + q) % pt = q := by rw [Nat.mul_comm, Nat.mul_add_mod, Nat.mod_eq_of_lt k2]
              rw [d1, d2] at bk
              clear d1 d2
              obtain ⟨x, hx⟩ : ∃ x, x = j * pt := ⟨_, rfl⟩
              have e5 : (j : Int) * (pt : Int) = (x : Int) := by rw [hx]; push_cast; rfl
              rw [← hx, ← hy] at lt
              rw [← hx] at wk bk
              obtain ⟨v, hv⟩ : ∃ v, v = x + q := ⟨_, rfl⟩
              have e6 : (x : Int) + (q : Int) = (v : Int) := by rw [hv]; push_cast; rfl
              rw [← hv] at wk bk lt
              have xb : x ≤ v := by omega
              clear hx hv
              unfold cutv at wk ft wh bk
              clear hy bs bp bi bj
              go_enter Try.func4, Try.ntmps4
              go_wp2_with fail
              refine (awake10 _).mono ?_
              rintro e wa ⟨rfl, hb⟩
              have XC := (box_new w _ _).bel hb
              have B := below_two ((Below.refl w.heap.size w).alloc (Nat.le_refl _) _) hb
              obtain ⟨cz0, cz1⟩ := two_cells XC
              clear hb
              go_wp2_with fail
              refine (wk _).mono ?_
              rintro e wb ⟨rfl, hb⟩
              clear cz0 cz1
              replace XC := XC.bel hb
              replace B := below_two B hb
              clear hb
              obtain ⟨cz0, cz1⟩ := two_cells XC
              go_wp2_with fail
              refine (ft _).mono ?_
              rintro e wc ⟨rfl, hb⟩
              clear cz0 cz1
              replace XC := XC.bel hb
              replace B := below_two B hb
              clear hb
              obtain ⟨cz0, cz1⟩ := two_cells XC
              go_wp2_with fail
              refine (wh _).mono ?_
              rintro e wd ⟨rfl, hb⟩
              clear cz0 cz1
              replace XC := XC.bel hb
              replace B := below_two B hb
              clear hb
              obtain ⟨cz0, cz1⟩ := two_cells (XC.alloc (.cells #[Value.int .i64 a, .int .i64 b] 29))
              go_wp2_with fail
              refine (ft _).mono ?_
              rintro e we ⟨rfl, hb⟩
              clear cz0 cz1
              replace XC := (XC.alloc _).bel hb
              have XA := (box_new wd _ _).bel hb
              replace B := below_two (B.alloc B.size _) hb
              obtain ⟨cz0, cz1⟩ := two_cells XC
              obtain ⟨az0, az1⟩ := two_cells XA
              clear hb
              have hq := eql_two
              have hn := neq_two
              have YC := Lib.hid XC
              have B2 := Lib.hid B
              clear XC XA B wk ft wh
              go_upto_region 9 with (fail)
              go_quiet (fail)
              go_wp2_with fail
              refine (bk _).mono ?_
              rintro e wf ⟨rfl, hb⟩
              clear cz0 cz1 az0 az1
              obtain ⟨cz0, cz1⟩ := two_cells (((YC.out.drewN _).bel hb).alloc (.cells #[Value.int .i64 j, .int .i64 q] 29))
              obtain ⟨az0, az1⟩ := two_cells (box_new wf 29 #[Value.int .i64 j, .int .i64 q])
              have B3 := Lib.hid (below_two (bel_drewN B2.out _) hb)
              clear hb bk
              go_wp2
              go_ret
              exact ⟨rfl, B3.out.alloc B3.out.size _⟩
            · have t3 : True := trivial
              have wh := fun W => where_yes st pt j W (by omega) (by omega) (by rw [← hy]; exact o0)
              have dm := Nat.div_add_mod j pt
              have ml := Nat.mod_lt j (show 0 < pt by omega)
              have e3 : (j : Int) / (pt : Int) = ((j / pt : Nat) : Int) := by push_cast; rfl
              have e4 : (j : Int) % (pt : Int) = ((j % pt : Nat) : Int) := by push_cast; rfl
              have u1 : j / pt ≤ j := Nat.div_le_self j pt
              have u2 : j % pt ≤ j := Nat.mod_le j pt
              clear dm ml
              generalize j / pt = a at wh e3 u1
              generalize j % pt = b at wh e4 u2
              have hne : ¬ (pt : Int) = 0 := by omega
              have wk := fun W => worker_bad st pt j q W bs bp (by rintro ⟨x, y, z⟩; omega)
              unfold cutv at wk ft wh
              clear hy bs bp bi bj
              go_enter Try.func4, Try.ntmps4
              go_wp2_with fail
              refine (awake10 _).mono ?_
              rintro e wa ⟨rfl, hb⟩
              have XC := (box_new w _ _).bel hb
              have B := below_two ((Below.refl w.heap.size w).alloc (Nat.le_refl _) _) hb
              obtain ⟨cz0, cz1⟩ := two_cells XC
              clear hb
              go_wp2_with fail
              refine (wk _).mono ?_
              rintro e wb ⟨rfl, hb⟩
              clear cz0 cz1
              replace XC := XC.bel hb
              replace B := below_two B hb
              clear hb
              obtain ⟨cz0, cz1⟩ := two_cells XC
              go_wp2_with fail
              refine (ft _).mono ?_
              rintro e wc ⟨rfl, hb⟩
              clear cz0 cz1
              replace XC := XC.bel hb
              replace B := below_two B hb
              clear hb
              obtain ⟨cz0, cz1⟩ := two_cells XC
              go_wp2_with fail
              refine (wh _).mono ?_
              rintro e wd ⟨rfl, hb⟩
              clear cz0 cz1
              replace XC := XC.bel hb
              replace B := below_two B hb
              clear hb
              obtain ⟨cz0, cz1⟩ := two_cells (XC.alloc (.cells #[Value.int .i64 a, .int .i64 b] 29))
              go_wp2_with fail
              refine (ft _).mono ?_
              rintro e we ⟨rfl, hb⟩
              clear cz0 cz1
              replace XC := (XC.alloc _).bel hb
              have XA := (box_new wd _ _).bel hb
              replace B := below_two (B.alloc B.size _) hb
              obtain ⟨cz0, cz1⟩ := two_cells XC
              obtain ⟨az0, az1⟩ := two_cells XA
              clear hb
              have hq := eql_two
              have hn := neq_two
              have YC := Lib.hid XC
              have B2 := Lib.hid B
              clear XC XA B wk ft wh
              go_upto_region 9 with (fail)
              go_quiet (fail)
              go_wp2
              go_ret
              exact ⟨rfl, bel_drewN B2.out _⟩
          · have t3 : True := trivial
            have wh := fun W => where_yes st pt j W (by omega) (by omega) (by rw [← hy]; exact o0)
            have dm := Nat.div_add_mod j pt
            have ml := Nat.mod_lt j (show 0 < pt by omega)
            have e3 : (j : Int) / (pt : Int) = ((j / pt : Nat) : Int) := by push_cast; rfl
            have e4 : (j : Int) % (pt : Int) = ((j % pt : Nat) : Int) := by push_cast; rfl
            have u1 : j / pt ≤ j := Nat.div_le_self j pt
            have u2 : j % pt ≤ j := Nat.mod_le j pt
            clear dm ml
            generalize j / pt = a at wh e3 u1
            generalize j % pt = b at wh e4 u2
            have hne : ¬ (pt : Int) = 0 := by omega
            have wk := fun W => worker_bad st pt j q W bs bp (by rintro ⟨x, y, z⟩; omega)
            unfold cutv at wk ft wh
            clear hy bs bp bi bj
            go_enter Try.func4, Try.ntmps4
            go_wp2_with fail
            refine (awake10 _).mono ?_
            rintro e wa ⟨rfl, hb⟩
            have XC := (box_new w _ _).bel hb
            have B := below_two ((Below.refl w.heap.size w).alloc (Nat.le_refl _) _) hb
            obtain ⟨cz0, cz1⟩ := two_cells XC
            clear hb
            go_wp2_with fail
            refine (wk _).mono ?_
            rintro e wb ⟨rfl, hb⟩
            clear cz0 cz1
            replace XC := XC.bel hb
            replace B := below_two B hb
            clear hb
            obtain ⟨cz0, cz1⟩ := two_cells XC
            go_wp2_with fail
            refine (ft _).mono ?_
            rintro e wc ⟨rfl, hb⟩
            clear cz0 cz1
            replace XC := XC.bel hb
            replace B := below_two B hb
            clear hb
            obtain ⟨cz0, cz1⟩ := two_cells XC
            go_wp2_with fail
            refine (wh _).mono ?_
            rintro e wd ⟨rfl, hb⟩
            clear cz0 cz1
            replace XC := XC.bel hb
            replace B := below_two B hb
            clear hb
            obtain ⟨cz0, cz1⟩ := two_cells (XC.alloc (.cells #[Value.int .i64 a, .int .i64 b] 29))
            go_wp2_with fail
            refine (ft _).mono ?_
            rintro e we ⟨rfl, hb⟩
            clear cz0 cz1
            replace XC := (XC.alloc _).bel hb
            have XA := (box_new wd _ _).bel hb
            replace B := below_two (B.alloc B.size _) hb
            obtain ⟨cz0, cz1⟩ := two_cells XC
            obtain ⟨az0, az1⟩ := two_cells XA
            clear hb
            have hq := eql_two
            have hn := neq_two
            have YC := Lib.hid XC
            have B2 := Lib.hid B
            clear XC XA B wk ft wh
            go_upto_region 9 with (fail)
            go_quiet (fail)
            go_wp2
            go_ret
            exact ⟨rfl, bel_drewN B2.out _⟩
      · by_cases n0 : a2 < 0
        · have t2 : True := trivial
          have wh := fun W => where_bad st pt j W bs bp (.inr (.inr (by rw [e1]; omega)))
          have wk := fun W => worker_bad st pt j a2 W bs bp (by rintro ⟨x, y, z⟩; omega)
          unfold cutv at wk ft wh
          clear hy bs bp bi bj
          go_enter Try.func4, Try.ntmps4
          go_wp2_with fail
          refine (awake10 _).mono ?_
          rintro e wa ⟨rfl, hb⟩
          have XC := (box_new w _ _).bel hb
          have B := below_two ((Below.refl w.heap.size w).alloc (Nat.le_refl _) _) hb
          obtain ⟨cz0, cz1⟩ := two_cells XC
          clear hb
          go_wp2_with fail
          refine (wk _).mono ?_
          rintro e wb ⟨rfl, hb⟩
          clear cz0 cz1
          replace XC := XC.bel hb
          replace B := below_two B hb
          clear hb
          obtain ⟨cz0, cz1⟩ := two_cells XC
          go_wp2_with fail
          refine (ft _).mono ?_
          rintro e wc ⟨rfl, hb⟩
          clear cz0 cz1
          replace XC := XC.bel hb
          replace B := below_two B hb
          clear hb
          obtain ⟨cz0, cz1⟩ := two_cells XC
          go_wp2_with fail
          refine (wh _).mono ?_
          rintro e wd ⟨rfl, hb⟩
          clear cz0 cz1
          replace XC := XC.bel hb
          replace B := below_two B hb
          clear hb
          obtain ⟨cz0, cz1⟩ := two_cells (XC.alloc (.cells #[Value.int .i64 0, .int .i64 0] 29))
          go_wp2_with fail
          refine (ft _).mono ?_
          rintro e we ⟨rfl, hb⟩
          clear cz0 cz1
          replace XC := (XC.alloc _).bel hb
          have XA := (box_new wd _ _).bel hb
          replace B := below_two (B.alloc B.size _) hb
          obtain ⟨cz0, cz1⟩ := two_cells XC
          obtain ⟨az0, az1⟩ := two_cells XA
          clear hb
          have hq := eql_two
          have hn := neq_two
          have YC := Lib.hid XC
          have B2 := Lib.hid B
          clear XC XA B wk ft wh
          go_upto_region 9 with (fail)
          go_quiet (fail)
          go_wp2
          go_ret
          exact ⟨rfl, bel_drewN B2.out _⟩
        · obtain ⟨q, rfl⟩ : ∃ x : Nat, a2 = x := ⟨a2.toNat, by omega⟩
          clear n0
          have wh := fun W => where_bad st pt j W bs bp (.inr (.inr (by rw [e1]; omega)))
          have wk := fun W => worker_bad st pt j q W bs bp (by rintro ⟨x, y, z⟩; omega)
          unfold cutv at wk ft wh
          clear hy bs bp bi bj
          go_enter Try.func4, Try.ntmps4
          go_wp2_with fail
          refine (awake10 _).mono ?_
          rintro e wa ⟨rfl, hb⟩
          have XC := (box_new w _ _).bel hb
          have B := below_two ((Below.refl w.heap.size w).alloc (Nat.le_refl _) _) hb
          obtain ⟨cz0, cz1⟩ := two_cells XC
          clear hb
          go_wp2_with fail
          refine (wk _).mono ?_
          rintro e wb ⟨rfl, hb⟩
          clear cz0 cz1
          replace XC := XC.bel hb
          replace B := below_two B hb
          clear hb
          obtain ⟨cz0, cz1⟩ := two_cells XC
          go_wp2_with fail
          refine (ft _).mono ?_
          rintro e wc ⟨rfl, hb⟩
          clear cz0 cz1
          replace XC := XC.bel hb
          replace B := below_two B hb
          clear hb
          obtain ⟨cz0, cz1⟩ := two_cells XC
          go_wp2_with fail
          refine (wh _).mono ?_
          rintro e wd ⟨rfl, hb⟩
          clear cz0 cz1
          replace XC := XC.bel hb
          replace B := below_two B hb
          clear hb
          obtain ⟨cz0, cz1⟩ := two_cells (XC.alloc (.cells #[Value.int .i64 0, .int .i64 0] 29))
          go_wp2_with fail
          refine (ft _).mono ?_
          rintro e we ⟨rfl, hb⟩
          clear cz0 cz1
          replace XC := (XC.alloc _).bel hb
          have XA := (box_new wd _ _).bel hb
          replace B := below_two (B.alloc B.size _) hb
          obtain ⟨cz0, cz1⟩ := two_cells XC
          obtain ⟨az0, az1⟩ := two_cells XA
          clear hb
          have hq := eql_two
          have hn := neq_two
          have YC := Lib.hid XC
          have B2 := Lib.hid B
          clear XC XA B wk ft wh
          go_upto_region 9 with (fail)
          go_quiet (fail)
          go_wp2
          go_ret
          exact ⟨rfl, bel_drewN B2.out _⟩
  · have ft := fun W => fits_no10 s0 q0 W hf
    have wk := fun W => worker_bad s0 q0 a1 a2 W bs bp (fun h => hf h.1)
    have wh := fun W => where_bad s0 q0 a1 W bs bp (.inl hf)
    unfold cutv at wk ft wh
    clear hf
    go_enter Try.func4, Try.ntmps4
    go_wp2_with fail
    refine (awake10 _).mono ?_
    rintro e wa ⟨rfl, hb⟩
    have XC := (box_new w _ _).bel hb
    have B := below_two ((Below.refl w.heap.size w).alloc (Nat.le_refl _) _) hb
    obtain ⟨cz0, cz1⟩ := two_cells XC
    clear hb
    go_wp2_with fail
    refine (wk _).mono ?_
    rintro e wb ⟨rfl, hb⟩
    clear cz0 cz1
    replace XC := XC.bel hb
    replace B := below_two B hb
    clear hb
    obtain ⟨cz0, cz1⟩ := two_cells XC
    go_wp2_with fail
    refine (ft _).mono ?_
    rintro e wc ⟨rfl, hb⟩
    clear cz0 cz1
    replace XC := XC.bel hb
    replace B := below_two B hb
    clear hb
    obtain ⟨cz0, cz1⟩ := two_cells XC
    go_wp2_with fail
    refine (wh _).mono ?_
    rintro e wd ⟨rfl, hb⟩
    clear cz0 cz1
    replace XC := XC.bel hb
    replace B := below_two B hb
    clear hb
    obtain ⟨cz0, cz1⟩ := two_cells (XC.alloc (.cells #[Value.int .i64 0, .int .i64 0] 29))
    go_wp2_with fail
    refine (ft _).mono ?_
    rintro e we ⟨rfl, hb⟩
    clear cz0 cz1
    replace XC := (XC.alloc _).bel hb
    have XA := (box_new wd _ _).bel hb
    replace B := below_two (B.alloc B.size _) hb
    obtain ⟨cz0, cz1⟩ := two_cells XC
    obtain ⟨az0, az1⟩ := two_cells XA
    clear hb
    have hq := eql_two
    have hn := neq_two
    have YC := Lib.hid XC
    have B2 := Lib.hid B
    clear XC XA B wk ft wh
    go_upto_region 9 with (fail)
    go_quiet (fail)
    go_wp2
    go_ret
    exact ⟨rfl, bel_drewN B2.out _⟩

set_option maxRecDepth 100000 in
theorem lifted (os : Os) (started : os.Started) (H : Type) (enc : TypeId × Value → H) :
    ReturnsInHanded {} Try.checked os 4 .any (Rows.sliceNumbersSpec.pre6 enc Try.prog Try.f4 Rows.sliceNumbersRow.domain false) (Rows.sliceNumbersSpec.post enc Try.prog Try.f4 false true false false) := by
  refine returnsInHanded_of_change (C := Try.checked) own started (by kernel_rfl) Try.func4
    (ChangeSpec.witness6 (enc := enc) (C := Try.checked) false ⟨#[], #[.agg #[.int .i64 0, .int .i64 0], .int .i64 0, .int .i64 0], []⟩ 8 (by kernel_rfl) (by kernel_rfl) (by kernel_rfl) (by kernel_rfl)) ?_
  intro W base args ds gs before hval0 hW hcnd _
  have hval : ∀ (j : Nat) t v, Try.f4.params[j]? = some t → args[j]? = some v → Value.okWide Try.prog W .any base t v := hval0
  have hW' := hW
  obtain ⟨p, q, hA0, hV, rfl, hfz, hnd⟩ := hW
  have hA : DataW.TrodAll enc Try.prog W 0 (fun _ => true) true Try.f4.params.toList args.toList ds p := hA0
  rw [Try.params4] at hA hval
  obtain ⟨v0, vs0, d0, ds0, p0, q0, hargs, rfl, rfl, h0, r0⟩ := trodAll_cons hA
  obtain ⟨v1, vs1, d1, ds1, p1, q1, rfl, rfl, rfl, h1, r1⟩ := trodAll_cons r0
  obtain ⟨v2, vs2, d2, ds2, p2, q2, rfl, rfl, rfl, h2, r2⟩ := trodAll_cons r1
  obtain ⟨rfl, rfl, rfl⟩ := trodAll_nil r2
  obtain rfl : args = #[v0, v1, v2] := by cases args; simp_all
  obtain ⟨rfl, rfl⟩ := trodVars_none hV
  have k0 := h0
  have lt0 : ∀ x ∈ p0, x.block < W.heap.size := by obtain ⟨m, hm⟩ := k0; exact DataW.trod_lt m _ _ _ hm
  obtain ⟨s0, q0, rfl, w0⟩ := open_cut (hval 0 25 v0 rfl rfl) h0
  obtain ⟨a1, rfl, rfl, rfl, w1⟩ := open_int Try.underlying3 (hval 1 3 v1 rfl rfl) h1
  obtain ⟨a2, rfl, rfl, rfl, w2⟩ := open_int Try.underlying3 (hval 2 3 v2 rfl rfl) h2
  clear hA0 hval0
  refine (walk s0 q0 a1 a2 W w0 w1 w2).mono fun e W' ⟨he, bel⟩ => ?_
  subst he
  exact ⟨_, rfl, _, _, _, [], _, [], hW', trodAll_mk1 (shut_bool Try.underlying4 _), (trodAll_cons_mk (Below.trod laidOut (by kernel_rfl) (of_decide_eq_true (by kernel_rfl)) k0 bel lt0) (trodAll_cons_mk (shut_int Try.underlying3 w1) (trodAll_cons_mk (shut_int Try.underlying3 w2) trodAll_mk0))), rfl, bel.frame _, fun h => by cases h⟩

theorem over : Rows.sliceNumbersRow.holds Try.pinned (OpenSpec.ofChange Rows.sliceNumbersSpec) :=
  OpenClaim.holds_of_wide 4 Try.f4 rfl rfl rfl rfl rfl rfl rfl ⟨rfl, rfl, rfl, rfl, rfl⟩ rfl rfl rfl rfl rfl (by kernel_rfl) Try.func4 (by kernel_rfl)
    (of_decide_eq_true (by kernel_rfl)) (by unfold Func.isWrapper; first | (rw [if_pos (by decide +kernel)]; kernel_rfl) | (rw [if_neg (by decide +kernel)]; exact ⟨rfl, rfl⟩))
    (fun os started H enc _ => lifted os started H enc)

/-- ████ THE STATEMENT ████ -/
theorem proved : Rows.SliceNumbersSaid := over
#print axioms proved
end Go.Proofs.Ytledjabhbakdeaa.sliceNumbers
