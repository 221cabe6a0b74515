/- The contracts of what is below the pen and the eye: a number's bits, bytes as a number, bytes copied, bytes compared. -/
import Derived.Test.YtodeblffnbbcaaaByt
import Derived.Deep.Cut
import Derived.Lib.Strings
import Derived.Lib.Slices
import Derived.Lib.Small
import Derived.Lib.Walk
import Derived.Lib.BitFns
namespace Go.Proofs.Ytodeblffnbbcaaa
open Go.RowKit
theorem klen_bitLen (n : Nat) (h : n < 18446744073709551616) : (Lib.bitLen n + 7) / 8 = klen n := by
  induction n using Nat.strongRecOn with
  | _ n ih =>
    by_cases h0 : n = 0
    · subst h0; rw [klen_zero]; decide
    · rw [klen_pos h0]
      by_cases h1 : n < 256
      · have a := Lib.bitLen_le8 ⟨n, h1⟩
        have b := Lib.bitLen_half n h0 (by omega)
        rw [show n / 256 = 0 by omega, klen_zero]
        simp only at a
        omega
      · rw [← ih (n / 256) (by omega) (by omega), Lib.bitLen_shift8 n (by omega) h]
        omega
theorem bitLen_le (n : Nat) (h : n < 18446744073709551616) : Lib.bitLen n ≤ 64 := by
  have := klen_bitLen n h; have := klen_eight h; omega
theorem tab_at (m : Nat) (hm : m < Lib.len8tab.size) : Lib.len8tab[m].toNat = Lib.bitLen m ∧ Lib.bitLen m ≤ 8 := by
  have h : ∀ i : Fin 256, ((Lib.len8tab[i.val]?).getD 0).toNat = Lib.bitLen i.val ∧ Lib.bitLen i.val ≤ 8 := by decide +kernel
  have := h ⟨m, by rw [Lib.len8tab_size] at hm; exact hm⟩
  rw [ByteArray.getElem?_lt' _ _ hm] at this
  exact this
theorem or_low (n x : Nat) (hx : x < 256) (hn : n < 72057594037927936) : bits .or .u64 ((n : Int) * 256) (x : Int) = ((n * 256 + x : Nat) : Int) := by
  have h := bits_of .u64 (fun k h0 h1 => by rw [IntKind.wrap_u64]; simp [IntKind.bits] at h1; omega) (BitVec.ofNat IntKind.u64.bits (n * 256)) (BitVec.ofNat IntKind.u64.bits x)
  have h2 := h.2.1
  have e1 : (BitVec.ofNat IntKind.u64.bits (n * 256)).toNat = n * 256 := by rw [BitVec.toNat_ofNat]; exact Nat.mod_eq_of_lt (by simp [IntKind.bits]; omega)
  have e2 : (BitVec.ofNat IntKind.u64.bits x).toNat = x := by rw [BitVec.toNat_ofNat]; exact Nat.mod_eq_of_lt (by simp [IntKind.bits]; omega)
  have e3 : (BitVec.ofNat IntKind.u64.bits (n * 256) ||| BitVec.ofNat IntKind.u64.bits x).toNat = n * 256 + x := by
    rw [BitVec.toNat_or, e1, e2, Nat.mul_comm, show (256 : Nat) = 2 ^ 8 from rfl, ← Nat.two_pow_add_eq_or_of_lt (by simpa using hx)]
  rw [e1, e2, e3, show ((n * 256 : Nat) : Int) = (n : Int) * 256 by omega] at h2
  exact h2
end Go.Proofs.Ytodeblffnbbcaaa
