/-
  Contracts of package msg's reader: take.
-/
import Derived.Test.YtobogkilkmnpmaaRight15
import Derived.Test.YtobogkilkmnpmaaNum15
import Derived.Test.YtobogkilkmnpmaaRw
import Derived.IntWalk
namespace Go.Proofs.Ytobogkilkmnpmaa
open Go.RowKit Go.Maps
set_option linter.unusedVariables false

theorem or15 (a b : Nat) (ha : a < 4611686018427387904) (hb : b < 4611686018427387904) : bits .or .i64 (a : Int) (b : Int) = ((a ||| b : Nat) : Int) := by
  have hx : a ||| b < 2 ^ 62 := Nat.or_lt_two_pow (by omega) (by omega)
  have e : ∀ c : Nat, c < 4611686018427387904 → (BitVec.ofInt 64 (c : Int)).toNat = c := fun c hc => by rw [BitVec.ofInt_natCast, BitVec.toNat_ofNat]; exact Nat.mod_eq_of_lt (by omega)
  show IntKind.i64.wrap ((BitVec.ofInt 64 (a : Int) ||| BitVec.ofInt 64 (b : Int)).toNat : Int) = _
  rw [BitVec.toNat_or, e a ha, e b hb]
  exact IntWalk.i64_in _ ⟨by omega, by omega⟩
theorem valS_step (xs : List Int) (k : Nat) (hk : k < xs.length) : valS (xs.take (k + 1)) = valS (xs.take k) * 256 + (xs.getD k 0).toNat := by
  rw [List.take_add_one, List.getElem?_eq_getElem hk]
  simp only [Option.toList_some]
  rw [valS_snoc]
  simp [List.getD, List.getElem?_eq_getElem hk]

/-- a reader in block rb, with the row q left -/
def RdAt (w : World) (B rb : Nat) (q : Rw) : Prop := Box w rb 73 #[.slice q.a q.n q.cap] ∧ q.In .u8 w ∧ (∀ x, q.a = some x → 0 < q.n → x.block ≠ rb ∧ x.block < B)
theorem RdAt.kept {w w' : World} {B rb : Nat} {q : Rw} (h : RdAt w B rb q) {row : Option Nat} (hg : w.grownBy w' row) (hne : some rb ≠ row) (hB : ∀ g, row = some g → B ≤ g) : RdAt w' B rb q := by
  obtain ⟨X, hI, hb⟩ := h
  refine ⟨X.kept hg hne, ⟨⟨hI.1.1, hI.1.2.1, hI.1.2.2.1, fun hn => ?_⟩, hI.2⟩, hb⟩
  obtain ⟨b, off, ha, hc⟩ := hI.1.2.2.2 hn
  refine ⟨b, off, ha, fun i hi => ?_⟩
  have h0 := hc i hi
  have hlt := (hb _ ha hn).2
  have hne2 : some b ≠ row := fun e => by
    have := hB b e.symm
    simp only at hlt
    omega
  rw [hg.cell_far _ (World.block_lt_of_cell? _ _ h0) hne2]
  exact h0
/-- how a panic of a reader ends -/
def Brk (e : Ending) : Prop := e = .panicked [{ v := .iface 28 (.int .i64 150), recovered := false }]

set_option maxHeartbeats 1600000 in
set_option maxRecDepth 100000 in
theorem take15_no (w : World) (B rb : Nat) (q : Rw) (h : RdAt w B rb q) (s : Nat) (hs : q.n < s) (hs2 : s ≤ 5) :
    Calls Try.prog 49 #[.pointer (some ⟨rb, 0, none⟩), .int .i64 (s : Int)] w fun e w' => Brk e ∧ w' = w := by
  have c0 : w.cell? ⟨rb, 0, none⟩ = some (.slice q.a q.n q.cap) := h.1.cell 0
  have t1 : (q.n : Int) < (s : Int) := by omega
  clear h
  go_enter Try.func49, Try.ntmps49
  go_wp2_with fail
  exact ⟨rfl, by unfold Brk; rfl, rfl⟩

set_option maxHeartbeats 3200000 in
set_option maxRecDepth 100000 in
theorem take15 (w : World) (B rb : Nat) (q : Rw) (h : RdAt w B rb q) (s : Nat) (hs : s ≤ q.n) (hs1 : 1 ≤ s) (hs2 : s ≤ 5) :
    Calls Try.prog 49 #[.pointer (some ⟨rb, 0, none⟩), .int .i64 (s : Int)] w fun e w' => e = .returned (.int .i64 (valS (q.v.take s) : Nat)) ∧ (∃ q2 : Rw, RdAt w' B rb q2 ∧ q2.v = q.v.drop s ∧ q2.n = q.n - s) ∧ w.grownBy w' (some rb) := by
  obtain ⟨a, n, cap, xs⟩ := q
  obtain ⟨X, hI, hne⟩ := h
  obtain ⟨hE, h1, h2, h3⟩ := hI
  simp only at X hE h1 h2 h3 hne hs ⊢
  obtain ⟨b, off, y, rfl, _, _, _⟩ := hE.at_ (show 0 < n by omega)
  have c0 : w.cell? ⟨rb, 0, none⟩ = some (.slice (some ⟨b, off, none⟩) n cap) := X.cell 0
  have f0 : w.frozen? ⟨rb, 0, none⟩ = false := X.frozen 0
  have t1 : ¬ (n : Int) < (s : Int) := by omega
  have t2 : ¬ (s : Int) < 0 := by omega
  have t3 : (s : Int) ≤ (cap : Int) := by omega
  have t4 : s ≤ cap := by omega
  have t5 : (0 : Int) ≤ (s : Int) := by omega
  have t6 : (s : Int) ≤ (n : Int) := by omega
  have hbn : b ≠ rb ∧ b < B := hne _ rfl (by omega)
  have HX := Lib.hid X
  have HE := Lib.hid hE
  have HL := Lib.hid hE.1
  clear hE h3 hne X
  go_enter Try.func49, Try.ntmps49
  go_wp2_with fail
  go_loopw [5, 23] (fun v' i' wr => ∃ k : Nat, k ≤ s ∧ i' = .int .i64 k ∧ v' = .int .i64 (valS (xs.take k) : Nat) ∧ wr = w) (fun _ i' _ => s - (intOf i').toNat)
  case atStart => exact ⟨0, by omega, rfl, rfl, rfl⟩
  case round =>
    obtain ⟨k, hk, rfl, rfl, rfl⟩ := hrel
    by_cases hlt : k < s
    · obtain ⟨b', off', z, he, hc, hz, wz⟩ := HE.out.at_ (show k < n by omega)
      cases he
      have hst := valS_step xs k (by rw [HL.out]; omega)
      rw [hz.out] at hst
      have hvl := valS_lt k (xs.take k) (by rw [List.length_take, HL.out]; omega) (fun x hx => HE.out.2.2.1 x (List.mem_of_mem_take hx))
      have hpw : 256 ^ k ≤ 256 ^ 4 := Nat.pow_le_pow_right (by omega) (by omega)
      have z1 := wfu8 wz
      obtain ⟨Z, rfl⟩ : ∃ Z : Nat, z = Z := ⟨z.toNat, by omega⟩
      rw [Int.toNat_natCast] at hst
      obtain ⟨v, hv⟩ : ∃ v, valS (xs.take k) = v := ⟨_, rfl⟩
      rw [hv] at hst hvl
      obtain ⟨M, hM⟩ : ∃ M, v * 256 = M := ⟨_, rfl⟩
      obtain ⟨R, hR⟩ : ∃ R, M + Z = R := ⟨_, rfl⟩
      have hor : bits .or .i64 (M : Int) (Z : Int) = (R : Int) := by
        rw [or15 M Z (by omega) (by omega), nat_join 8 M Z (by omega) (by omega), hR]
      have HN : Hid (valS (xs.take (k + 1)) = R) := Lib.hid (by rw [hst, hM, hR])
      have m1 : (v : Int) * 256 = (M : Int) := by omega
      have m2 : IntKind.i64.wrap (M : Int) = (M : Int) := IntWalk.i64_in _ (by omega)
      have m3 : IntKind.i64.wrap (Z : Int) = (Z : Int) := IntWalk.i64_in _ (by omega)
      have m4 : IntKind.i64.wrap (R : Int) = (R : Int) := IntWalk.i64_in _ (by omega)
      have hlt2 : (k : Int) < (s : Int) := by omega
      rw [hv]
      clear hst hvl hpw hv hz wz hM hR z1
      go_wp2_with fail
      go_roundw
      case rel => exact ⟨k + 1, by omega, by go_num, by rw [HN.out], trivial⟩
      case measure => simp [intOf]; omega
    · obtain rfl : k = s := by omega
      obtain ⟨v, hv⟩ : ∃ v, valS (xs.take k) = v := ⟨_, rfl⟩
      have HV := Lib.hid hv
      rw [hv]
      clear hv
      go_wp2_with fail
      · rename_i hcap
        go_ret
        refine ⟨ret_int (by rw [HV.out]), ⟨⟨some ⟨b, off, none⟩, n - k, 0, []⟩, ⟨HX.out.set 0 _, ⟨?_, by show n - k ≤ 0; omega, by show (0 : Nat) ≤ _; omega, ⟨fun _ => rfl, fun x e h0 => absurd h0 (by show ¬ 0 < 0; omega)⟩⟩, fun x e h0 => by simp only at h0; omega⟩, ?_, rfl⟩, grownBy_setCell _ _ _ _⟩
        · show Elems .u8 _ _ (n - k) []
          rw [show n - k = 0 by omega]
          exact Elems.nil_ _ _ _
        · show [] = xs.drop k
          rw [List.drop_eq_nil_of_le (by rw [HL.out]; omega)]
      · rename_i hcap
        go_ret
        refine ⟨ret_int (by rw [HV.out]), ⟨⟨some ⟨b, off + k, none⟩, n - k, cap - k, xs.drop k⟩, ⟨HX.out.set 0 _, ⟨?_, by show n - k ≤ cap - k; omega, by show cap - k ≤ _; omega, ⟨(fun e => by cases e), (fun x e h0 => by cases e; rfl)⟩⟩, fun x e h0 => by cases e; exact hbn⟩, rfl, rfl⟩, grownBy_setCell _ _ _ _⟩
        exact (HE.out.drop k (by omega)).other (grownBy_setCell _ _ _ _) hbn.1

end Go.Proofs.Ytobogkilkmnpmaa
