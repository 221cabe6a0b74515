/- math/bits.Len64, Len; how many of n leaves stand below the first half. -/
import Derived.Test.YtppkjlmnnpfcfaaDoorShaW9
import Derived.Test.YtppkjlmnnpfcfaaDoorRowLoad2
import Derived.Test.YtppkjlmnnpfcfaaDoorTrPure
import Derived.Lib.Tables
import Derived.Lib.BitFns
set_option linter.unusedVariables false
namespace Go.Proofs.YtppkjlmnnpfcfaaDoor
open Go.RowKit
theorem log2_len (x : Nat) (h : 1 ≤ x) (hx : x < 18446744073709551616) : Lib.bitLen x = Nat.log2 x + 1 := by
  induction x using Nat.strongRecOn with
  | _ x ih =>
    rw [Lib.bitLen_half x (by omega) hx]
    by_cases h1 : x < 2
    · obtain rfl : x = 1 := by omega
      decide
    · rw [ih (x / 2) (by omega) (by omega) (by omega)]
      conv => rhs; rw [Nat.log2_def, if_pos (by omega)]
      omega
set_option maxRecDepth 10000 in
theorem len64_any (n : Nat) (w : World) (h1 : 1 ≤ n) (h : n < 16777216) : Calls Tryd.prog 42 #[.int .u64 (n : Int)] w fun e w' => e = .returned (.int .i64 ((Nat.log2 n + 1 : Nat) : Int)) ∧ w' = w := by
  rw [← log2_len n h1 (by omega)]
  go_enter Tryd.func42, Tryd.ntmps42
  generalize hx : (ByteArray.mk (List.toArray (List.append (List.append _ _) (List.append _ _)))) = tab
  have ht : tab = Lib.len8tab := by rw [← hx]; kernel_rfl
  have HI : ∀ m : Int, 0 ≤ m → m ≤ 255 → (Instr.index 9 (.string tab) (.int .u8 m)).run Tryd.prog w = .ok (.int .u8 (Lib.bitLen m.toNat : Int)) w := fun m h0 h1 => by
    rw [ht, Lib.run_index_len8tab w 9 .u8 m Tryd.underlying9 h0 h1, Lib.len8_of m h0 h1]
  have HT := Lib.hid hx
  clear hx ht HT
  have t1 : decide ((4294967296 : Int) ≤ (n : Int)) = false := by rw [decide_eq_false_iff_not]; omega
  by_cases h3 : n < 65536
  · have t2 : decide ((65536 : Int) ≤ (n : Int)) = false := by rw [decide_eq_false_iff_not]; omega
    by_cases h2 : n < 256
    · have t3 : decide ((256 : Int) ≤ (n : Int)) = false := by rw [decide_eq_false_iff_not]; omega
      have hi := HI (n : Int) (by omega) (by omega)
      have hb := Lib.bitLen_le8' (n : Int) (by omega) (by omega)
      simp only [Int.toNat_natCast] at hi hb
      clear HI
      go_wp2
      go_ret
      exact ⟨rfl, rfl⟩
    · have t3 : decide ((256 : Int) ≤ (n : Int)) = true := by rw [decide_eq_true_eq]; omega
      have hi := HI ((n : Int) / 256) (by omega) (by omega)
      have hb := Lib.bitLen_le8' ((n : Int) / 256) (by omega) (by omega)
      have e : ((n : Int) / 256).toNat = n / 256 := by omega
      rw [e] at hi hb
      rw [Lib.bitLen_shift8 n (by omega) (by omega)]
      clear HI e
      go_wp2
      go_ret
      exact ⟨by simp, rfl⟩
  · have t2 : decide ((65536 : Int) ≤ (n : Int)) = true := by rw [decide_eq_true_eq]; omega
    have t3 : decide ((256 : Int) ≤ (n : Int) / 65536) = false := by rw [decide_eq_false_iff_not]; omega
    have hi := HI ((n : Int) / 65536) (by omega) (by omega)
    have hb := Lib.bitLen_le8' ((n : Int) / 65536) (by omega) (by omega)
    have e : ((n : Int) / 65536).toNat = n / 65536 := by omega
    rw [e] at hi hb
    rw [Lib.bitLen_shift16 n (by omega) (by omega)]
    clear HI e
    go_wp2
    go_ret
    exact ⟨by simp, rfl⟩
theorem len_any (n : Nat) (w : World) (h1 : 1 ≤ n) (h : n < 16777216) : Calls Tryd.prog 34 #[.int .u64 (n : Int)] w fun e w' => e = .returned (.int .i64 ((Nat.log2 n + 1 : Nat) : Int)) ∧ w' = w := by
  have L := Lib.hid (fun w => len64_any n w h1 h)
  go_enter Tryd.func34, Tryd.ntmps34
  go_wp2_with (go_at_call 42; refine (L.out _).mono ?_; rintro e w' ⟨rfl, rfl⟩)
  go_ret
  exact ⟨rfl, rfl⟩
theorem firstOnes_any (n : Nat) (w : World) (h2 : 2 ≤ n) (h : n < 16777216) : Calls Tryd.prog 22 #[.int .i64 (n : Int)] w fun e w' => e = .returned (.int .i64 (hp n : Int)) ∧ w' = w := by
  have L := Lib.hid (fun w => len_any (n - 1) w (by omega) (by omega))
  have e1 : ((n - 1 : Nat) : Int) = (n : Int) - 1 := by omega
  rw [e1] at L
  have hl : Nat.log2 (n - 1) < 24 := (Nat.log2_lt (by omega)).2 (by omega)
  go_enter Tryd.func22, Tryd.ntmps22
  unfold hp
  generalize Nat.log2 (n - 1) = k at *
  go_wp2_with (go_at_call 34; refine (L.out _).mono ?_; rintro e w' ⟨rfl, rfl⟩)
  go_ret
  refine ⟨?_, rfl⟩
  show Ending.returned (Value.int IntKind.i64 (wrap64 ((2 : Int) ^ k))) = _
  have e2 : ((2 : Int) ^ k) = ((2 ^ k : Nat) : Int) := by simp
  have e3 : 2 ^ k < 2 ^ 24 := Nat.pow_lt_pow_right (by decide) hl
  rw [e2]
  generalize 2 ^ k = z at *
  have e4 : wrap64 (z : Int) = z := by unfold wrap64; omega
  rw [e4]
end Go.Proofs.YtppkjlmnnpfcfaaDoor
