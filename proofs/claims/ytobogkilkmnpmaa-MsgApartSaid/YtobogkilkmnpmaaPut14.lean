/-
  Bytes as strings; the code's put32, take32 and the document's four.
-/
import Derived.Test.YtobogkilkmnpmaaFrame14
import Derived.Test.YtobogkilkmnpmaaAppRow
import Derived.Test.YtobogkilkmnpmaaBaList
import Derived.Laws.BytesArg
import Derived.Deep.QuietTactic
import Derived.BigQuiet
import Derived.IntWalk
namespace Go.Proofs.Ytobogkilkmnpmaa
open Go.RowKit
set_option linter.unusedVariables false

/-- a row of bytes as a string -/
theorem conv_u8 {w : World} {a : Option Addr} {n cap : Nat} {xs : List Int} (h : Elems .u8 w a n xs) : Sem.run Try.prog (convert 27 9 (.slice a n cap)) w = .ok (.string (strOfNums xs)) w := by
  by_cases h0 : 0 < n
  · obtain ⟨b, off, rfl, hc⟩ := h.2.2.2 h0
    exact run_convert_bytes_arg (P := Try.prog) w 27 5 Try.underlying27 Try.underlying5 b off n cap xs h.1 hc 9 Try.underlying9
  · obtain rfl : n = 0 := by omega
    obtain rfl : xs = [] := List.length_eq_zero_iff.1 h.1
    cases a with
    | none => exact run_convert_bytes_nil (P := Try.prog) (w := w) 27 5 Try.underlying27 Try.underlying5 0 cap 9 Try.underlying9
    | some x =>
      rw [run_convert_bytes_string w _ _ _ _ _ _ Try.underlying27 Try.underlying5 Try.underlying9]
      exact run_bytesToString (P := Try.prog) w x 0 cap [] (run_loadCells_list (P := Try.prog) w x [] (fun j v hj => by simp at hj))
theorem str14_inj {xs ys : List Int} (hx : ∀ x ∈ xs, (Lit.int .u8 x).wf = true) (hy : ∀ x ∈ ys, (Lit.int .u8 x).wf = true) (h : (strOfNums xs).toList = (strOfNums ys).toList) : xs = ys := by
  rw [ba_toList, ba_toList, strOfNums_data, strOfNums_data] at h
  exact bytes_back xs ys (fun x hm => by have := wfu8 (hx x hm); omega) (fun y hm => by have := wfu8 (hy y hm); omega) h
/-- two such strings compared -/
theorem str14_eq {xs ys : List Int} (hx : ∀ x ∈ xs, (Lit.int .u8 x).wf = true) (hy : ∀ x ∈ ys, (Lit.int .u8 x).wf = true) : ((strOfNums xs).toList == (strOfNums ys).toList) = decide (xs = ys) := by
  by_cases h : xs = ys
  · rw [decide_eq_true h, h]; simp
  · rw [decide_eq_false h]
    apply Bool.eq_false_iff.mpr
    intro h2
    exact h (str14_inj hx hy (eq_of_beq h2))

theorem or_u32 (i a b : Nat) (hi : a % 2 ^ i = 0) (hb : b < 2 ^ i) (ha : a < 4294967296) (hb2 : b < 4294967296) : bits .or .u32 (a : Int) (b : Int) = ((a + b : Nat) : Int) := by
  rw [u32_or_nat a b ha hb2, nat_join i a b hi hb]

/-- a row of bytes of the call's own is answered -/
def OwnB (base n : Nat) (l : List Int) (e : Ending) (w' : World) : Prop := ∃ v, e = .returned v ∧ w'.ownsRow base 5 1 v n (l.map (.int .u8))

set_option maxHeartbeats 800000 in
theorem put14 (base : Nat) (w : World) (v : Value) (n : Nat) (xs : List Int) (hown : w.ownsRow base 5 1 v n (xs.map (.int .u8))) (c : Nat) (hc : c < 4294967296) (hn : n ≤ 16777210) (hbase : base ≤ w.heap.size) :
    Calls Try.prog 37 #[v, .int .u32 c] w fun e w' => OwnB base (n + 4) (xs ++ be14 c) e w' ∧ Below base w w' := by
  obtain ⟨v2, w2, hrun0, ho2, hg2, _⟩ := run_append_lits (P := Try.prog) .u8 w base 27 5 1 (by omega) Try.underlying27 info_u8 _ n 4 _ (be14 c) _ rfl rfl hown (by omega) (by omega) hbase
  have HO := Lib.hid ho2
  have HB := Lib.hid ((Below.refl base w).grown hg2 hbase (fun q hq => (hown.lt q hq).1))
  obtain ⟨q1, hq1⟩ : ∃ q, c / 16777216 = q := ⟨_, rfl⟩
  obtain ⟨q2, hq2⟩ : ∃ q, c / 65536 % 256 = q := ⟨_, rfl⟩
  obtain ⟨q3, hq3⟩ : ∃ q, c / 256 % 256 = q := ⟨_, rfl⟩
  obtain ⟨q4, hq4⟩ : ∃ q, c % 256 = q := ⟨_, rfl⟩
  have hrun : Sem.run Try.prog (Builtin.append_ #[27, 27] 27 #[v, .slice (some ⟨w.heap.size, 0, none⟩) 4 4]) (w.alloc (.cells #[.int .u8 (q1 : Nat), .int .u8 (q2 : Nat), .int .u8 (q3 : Nat), .int .u8 (q4 : Nat)] 5)) = .ok v2 w2 := by rw [← hq1, ← hq2, ← hq3, ← hq4]; exact hrun0
  have t1 : (c : Int) / 16777216 = (q1 : Int) := by omega
  have t2 : IntKind.u8.wrap (q1 : Int) = (q1 : Int) := by rw [IntKind.wrap_u8']; omega
  have t3 : IntKind.u8.wrap ((c : Int) / 65536) = (q2 : Int) := by rw [IntKind.wrap_u8']; omega
  have t4 : IntKind.u8.wrap ((c : Int) / 256) = (q3 : Int) := by rw [IntKind.wrap_u8']; omega
  have t5 : IntKind.u8.wrap (c : Int) = (q4 : Int) := by rw [IntKind.wrap_u8']; omega
  have t6 : (c : Int) / 65536 % 256 = (q2 : Int) := by omega
  have t7 : (c : Int) / 256 % 256 = (q3 : Int) := by omega
  have t8 : (c : Int) % 256 = (q4 : Int) := by omega
  clear hrun0 ho2 hg2 hown hq1 hq2 hq3 hq4
  go_enter Try.func37, Try.ntmps37
  go_wp2_with (at_builtin; refine wpList_append_at (by rfl) _ _ _ (by rfl) _ _ (by rfl) (by rfl) hrun ?_)
  go_ret
  exact ⟨⟨_, rfl, HO.out⟩, HB.out⟩

set_option maxHeartbeats 800000 in
theorem four14 (w : World) (c : Nat) (hc : c < 4294967296) :
    Calls Try.prog 32 #[.int .u32 c] w fun e w' => e = .returned (.slice (some ⟨w.heap.size, 0, none⟩) 4 4) ∧ w' = w.alloc (.cells ((be14 c).map (Value.int .u8)).toArray 5) := by
  obtain ⟨q1, hq1⟩ : ∃ q, c / 16777216 = q := ⟨_, rfl⟩
  obtain ⟨q2, hq2⟩ : ∃ q, c / 65536 % 256 = q := ⟨_, rfl⟩
  obtain ⟨q3, hq3⟩ : ∃ q, c / 256 % 256 = q := ⟨_, rfl⟩
  obtain ⟨q4, hq4⟩ : ∃ q, c % 256 = q := ⟨_, rfl⟩
  have HB : Hid ((be14 c).map (Value.int .u8) = [.int .u8 (q1 : Nat), .int .u8 (q2 : Nat), .int .u8 (q3 : Nat), .int .u8 (q4 : Nat)]) := Lib.hid (by rw [← hq1, ← hq2, ← hq3, ← hq4]; rfl)
  have t1 : (c : Int) / 16777216 = (q1 : Int) := by omega
  have t2 : IntKind.u8.wrap (q1 : Int) = (q1 : Int) := by rw [IntKind.wrap_u8']; omega
  have t3 : IntKind.u8.wrap ((c : Int) / 65536) = (q2 : Int) := by rw [IntKind.wrap_u8']; omega
  have t4 : IntKind.u8.wrap ((c : Int) / 256) = (q3 : Int) := by rw [IntKind.wrap_u8']; omega
  have t5 : IntKind.u8.wrap (c : Int) = (q4 : Int) := by rw [IntKind.wrap_u8']; omega
  have t6 : (c : Int) / 65536 % 256 = (q2 : Int) := by omega
  have t7 : (c : Int) / 256 % 256 = (q3 : Int) := by omega
  have t8 : (c : Int) % 256 = (q4 : Int) := by omega
  clear hq1 hq2 hq3 hq4
  go_enter Try.func32, Try.ntmps32
  go_wp2_with fail
  go_ret
  exact ⟨rfl, by rw [HB.out]⟩

set_option maxHeartbeats 1600000 in
theorem take14 (b off n cap : Nat) (xs : List Int) (w : World) (h : Elems .u8 w (some ⟨b, off, none⟩) n xs) (hn : 4 ≤ n) :
    Calls Try.prog 48 #[.slice (some ⟨b, off, none⟩) n cap] w fun e w' => e = .returned (.int .u32 (n14 xs : Nat)) ∧ ∃ d, w' = w.drewN d := by
  obtain ⟨b', off', x, he, c0, hx, wx⟩ := h.at_ (show 0 < n by omega)
  cases he
  obtain ⟨b', off', y, he, c1, hy, wy⟩ := h.at_ (show 1 < n by omega)
  cases he
  obtain ⟨b', off', z, he, c2, hz, wz⟩ := h.at_ (show 2 < n by omega)
  cases he
  obtain ⟨b', off', u, he, c3, hu, wu⟩ := h.at_ (show 3 < n by omega)
  cases he
  have x1 := wfu8 wx
  have y1 := wfu8 wy
  have z1 := wfu8 wz
  have u1 := wfu8 wu
  obtain ⟨x, rfl⟩ : ∃ k : Nat, x = k := ⟨x.toNat, by omega⟩
  obtain ⟨y, rfl⟩ : ∃ k : Nat, y = k := ⟨y.toNat, by omega⟩
  obtain ⟨z, rfl⟩ : ∃ k : Nat, z = k := ⟨z.toNat, by omega⟩
  obtain ⟨u, rfl⟩ : ∃ k : Nat, u = k := ⟨u.toNat, by omega⟩
  have hR : n14 xs = ((x * 256 + y) * 256 + z) * 256 + u := by unfold n14; rw [hx.out, hy.out, hz.out, hu.out, Int.toNat_natCast, Int.toNat_natCast, Int.toNat_natCast, Int.toNat_natCast]
  have HR := Lib.hid hR
  obtain ⟨X, hX⟩ : ∃ X, x * 16777216 = X := ⟨_, rfl⟩
  obtain ⟨Y, hY⟩ : ∃ Y, y * 65536 = Y := ⟨_, rfl⟩
  obtain ⟨Z, hZ⟩ : ∃ Z, z * 256 = Z := ⟨_, rfl⟩
  have e1 := or_u32 24 X Y (by omega) (by omega) (by omega) (by omega)
  have e2 := or_u32 16 (X + Y) Z (by omega) (by omega) (by omega) (by omega)
  have e3 := or_u32 8 (X + Y + Z) u (by omega) (by omega) (by omega) (by omega)
  have t1 : (x : Int) * 16777216 = (X : Int) := by omega
  have t2 : (y : Int) * 65536 = (Y : Int) := by omega
  have t3 : (z : Int) * 256 = (Z : Int) := by omega
  have s1 : IntKind.u32.wrap (X : Int) = (X : Int) := IntWalk.u32_in _ (by omega)
  have s2 : IntKind.u32.wrap (Y : Int) = (Y : Int) := IntWalk.u32_in _ (by omega)
  have s3 : IntKind.u32.wrap (Z : Int) = (Z : Int) := IntWalk.u32_in _ (by omega)
  have s4 : IntKind.u32.wrap (x : Int) = (x : Int) := IntWalk.u32_in _ (by omega)
  have s5 : IntKind.u32.wrap (y : Int) = (y : Int) := IntWalk.u32_in _ (by omega)
  have s6 : IntKind.u32.wrap (z : Int) = (z : Int) := IntWalk.u32_in _ (by omega)
  have s7 : IntKind.u32.wrap (u : Int) = (u : Int) := IntWalk.u32_in _ (by omega)
  rw [Nat.add_zero] at c0
  have n0 : 0 < n := by omega
  have n1 : 1 < n := by omega
  have n2 : 2 < n := by omega
  have n3 : 3 < n := by omega
  have HF : Hid (X + Y + Z + u = n14 xs) := Lib.hid (by omega)
  generalize X + Y + Z + u = M3 at *
  generalize X + Y + Z = M2 at *
  generalize X + Y = M1 at *
  clear h hx hy hz hu wx wy wz wu hR hX hY hZ HR
  go_enter Try.func48, Try.ntmps48
  go_wp2_with fail
  go_quiet (fail)
  go_wp2
  go_ret
  exact ⟨ret_int (by rw [HF.out]), _, rfl⟩

end Go.Proofs.Ytobogkilkmnpmaa
