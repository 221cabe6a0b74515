/- The contracts of what is below the pen and the eye: a number's bits, bytes as a number, bytes copied, bytes compared. -/
import Derived.Test.YtmkpoodhhpfgpaaByt
import Derived.Deep.Cut
import Derived.Lib.Strings
import Derived.Lib.Slices
import Derived.Lib.Small
import Derived.Lib.Walk
import Derived.Lib.BitFns
namespace Go.Proofs.Ytmkpoodhhpfgpaa
open Go.RowKit
set_option maxRecDepth 100000 in
theorem klen_bitLen (n : Nat) (h : n < 18446744073709551616) : (Lib.bitLen n + 7) / 8 = klen n := by
  induction n using Nat.strongRecOn with
  | _ n ih =>
    by_cases h0 : n = 0
    · subst h0; rw [klen_zero]; decide
    · rw [klen_pos h0]
      by_cases h1 : n < 256
      · have a := Lib.bitLen_le8 ⟨n, h1⟩
        have b := Lib.bitLen_half n h0 (by omega)
        rw [show n / 256 = 0 by omega, klen_zero]
        simp only at a
        omega
      · rw [← ih (n / 256) (by omega) (by omega), Lib.bitLen_shift8 n (by omega) h]
        omega
set_option maxRecDepth 100000 in
theorem bitLen_le (n : Nat) (h : n < 18446744073709551616) : Lib.bitLen n ≤ 64 := by
  have := klen_bitLen n h; have := klen_eight h; omega
set_option maxRecDepth 100000 in
theorem tab_at (m : Nat) (hm : m < Lib.len8tab.size) : Lib.len8tab[m].toNat = Lib.bitLen m ∧ Lib.bitLen m ≤ 8 := by
  have h : ∀ i : Fin 256, ((Lib.len8tab[i.val]?).getD 0).toNat = Lib.bitLen i.val ∧ Lib.bitLen i.val ≤ 8 := by decide +kernel
  have := h ⟨m, by rw [Lib.len8tab_size] at hm; exact hm⟩
  rw [ByteArray.getElem?_lt' _ _ hm] at this
  exact this
set_option maxHeartbeats 4000000 in
set_option maxRecDepth 100000 in
theorem len64_int (x : Int) (w : World) (h0 : 0 ≤ x) (h1 : x ≤ 18446744073709551615) :
    Calls Try.prog 40 #[.int .u64 x] w fun e w' => e = .returned (.int .i64 (Lib.bitLen x.toNat)) ∧ w' = w := by
  have hsz : (Lib.len8tab.size : Int) = 256 := by rw [Lib.len8tab_size]; rfl
  go_enter Try.func40, Try.ntmps40
  go_wp2
  all_goals (go_ret; refine ⟨congrArg Ending.returned (congrArg (Value.int IntKind.i64) ?_), rfl⟩)
  · obtain ⟨e, l⟩ := tab_at (x / 4294967296 / 65536 / 256).toNat (by omega)
    have s := Lib.bitLen_shift56 x.toNat (by omega) (by omega)
    rw [e, show (x / 4294967296 / 65536 / 256).toNat = x.toNat / 72057594037927936 by omega] at *
    simp only [wrap64]; omega
  · obtain ⟨e, l⟩ := tab_at (x / 4294967296 / 65536).toNat (by omega)
    have s := Lib.bitLen_shift48 x.toNat (by omega) (by omega)
    rw [e, show (x / 4294967296 / 65536).toNat = x.toNat / 281474976710656 by omega] at *
    simp only [wrap64]; omega
  · obtain ⟨e, l⟩ := tab_at (x / 4294967296 / 256).toNat (by omega)
    have s := Lib.bitLen_shift40 x.toNat (by omega) (by omega)
    rw [e, show (x / 4294967296 / 256).toNat = x.toNat / 1099511627776 by omega] at *
    simp only [wrap64]; omega
  · obtain ⟨e, l⟩ := tab_at (x / 4294967296).toNat (by omega)
    have s := Lib.bitLen_shift32 x.toNat (by omega) (by omega)
    rw [e, show (x / 4294967296).toNat = x.toNat / 4294967296 by omega] at *
    simp only [wrap64]; omega
  · obtain ⟨e, l⟩ := tab_at (x / 65536 / 256).toNat (by omega)
    have s := Lib.bitLen_shift24 x.toNat (by omega) (by omega)
    rw [e, show (x / 65536 / 256).toNat = x.toNat / 16777216 by omega] at *
    simp only [wrap64]; omega
  · obtain ⟨e, l⟩ := tab_at (x / 65536).toNat (by omega)
    have s := Lib.bitLen_shift16 x.toNat (by omega) (by omega)
    rw [e, show (x / 65536).toNat = x.toNat / 65536 by omega] at *
    simp only [wrap64]; omega
  · obtain ⟨e, l⟩ := tab_at (x / 256).toNat (by omega)
    have s := Lib.bitLen_shift8 x.toNat (by omega) (by omega)
    rw [e, show (x / 256).toNat = x.toNat / 256 by omega] at *
    simp only [wrap64]; omega
  · obtain ⟨e, l⟩ := tab_at x.toNat (by omega)
    rw [e]
    simp only [wrap64]; omega
set_option maxRecDepth 100000 in
theorem len64_any (n : Nat) (w : World) (h : n < 18446744073709551616) : Calls Try.prog 40 #[.int .u64 n] w fun e w' => e = .returned (.int .i64 (Lib.bitLen n : Int)) ∧ w' = w := by
  have := len64_int n w (by omega) (by omega)
  rw [Int.toNat_natCast] at this; exact this

set_option maxRecDepth 100000 in
theorem or_low (n x : Nat) (hx : x < 256) (hn : n < 72057594037927936) : bits .or .u64 ((n : Int) * 256) (x : Int) = ((n * 256 + x : Nat) : Int) := by
  have h := bits_of .u64 (fun k h0 h1 => by rw [IntKind.wrap_u64]; simp [IntKind.bits] at h1; omega) (BitVec.ofNat IntKind.u64.bits (n * 256)) (BitVec.ofNat IntKind.u64.bits x)
  have h2 := h.2.1
  have e1 : (BitVec.ofNat IntKind.u64.bits (n * 256)).toNat = n * 256 := by rw [BitVec.toNat_ofNat]; exact Nat.mod_eq_of_lt (by simp [IntKind.bits]; omega)
  have e2 : (BitVec.ofNat IntKind.u64.bits x).toNat = x := by rw [BitVec.toNat_ofNat]; exact Nat.mod_eq_of_lt (by simp [IntKind.bits]; omega)
  have e3 : (BitVec.ofNat IntKind.u64.bits (n * 256) ||| BitVec.ofNat IntKind.u64.bits x).toNat = n * 256 + x := by
    rw [BitVec.toNat_or, e1, e2, Nat.mul_comm, show (256 : Nat) = 2 ^ 8 from rfl, ← Nat.two_pow_add_eq_or_of_lt (by simpa using hx)]
  rw [e1, e2, e3, show ((n * 256 : Nat) : Int) = (n : Int) * 256 by omega] at h2
  exact h2
set_option maxRecDepth 100000 in
/-- Bytes that stand for a number. -/
theorem value_any (A : Option Addr) (c B : Nat) (l : List B8) (w : World) (hs : Sl w B A (l.map bv)) (h8 : l.length ≤ 8) :
    Calls Try.prog 65 #[.slice A l.length c] w fun e w' => e = .returned (.int .u64 (valB l : Int)) ∧ w' = w := by
  have HS := Lib.hid hs
  clear hs
  go_enter Try.func65, Try.ntmps65
  go_wp2
  go_loop [3, 8] (fun x i => ∃ k : Nat, k ≤ l.length ∧ i = .int .i64 k ∧ x = .int .u64 (valB (l.take k) : Int)) (fun _ i => l.length - (intOf i).toNat)
  case atStart => exact ⟨0, Nat.zero_le _, rfl, rfl⟩
  case round =>
    obtain ⟨k, hk, rfl, rfl⟩ := hrel
    by_cases hlt : k < l.length
    · obtain ⟨ad, rfl, _, hc⟩ := HS.out.at (bvs_at l k hlt)
      have hv := valB_take l k hlt
      have hb := valB_lt (l.take k)
      have hl7 : (l.take k).length ≤ 7 := by simp; omega
      have hp : 256 ^ (l.take k).length ≤ 256 ^ 7 := Nat.pow_le_pow_right (by decide) hl7
      have hor := or_low (valB (l.take k)) l[k].toNat l[k].isLt (by have : (256 : Nat) ^ 7 = 72057594037927936 := by decide
                                                                    omega)
      have hlt7 : valB (l.take k) < 72057594037927936 := by have : (256 : Nat) ^ 7 = 72057594037927936 := by decide
                                                            omega
      rw [← hv] at hor
      have hx := l[k].isLt
      obtain ⟨m, hm⟩ : ∃ m, m = valB (l.take (k + 1)) := ⟨_, rfl⟩
      rw [← hm] at hor
      have HM := Lib.hid hm
      clear hv hb hp hl7 hm
      generalize valB (l.take k) = n at *
      unfold bv at hc
      generalize l[k].toNat = x at *
      go_wp2
      go_round
      case rel => exact ⟨k + 1, by omega, by go_num, by rw [← HM.out]⟩
      case measure => simp [intOf]; omega
    · go_wp2
      go_ret
      rw [List.take_of_length_le (by omega)]
      exact ⟨rfl, rfl⟩
end Go.Proofs.Ytmkpoodhhpfgpaa
