/- The document's root. -/
import Derived.Test.YtoafgpoiikpcfaaDoorShaC5
set_option linter.unusedVariables false
namespace Go.Proofs.YtoafgpoiikpcfaaDoor
open Go.RowKit
theorem or_pow {v m : Nat} (h : v % 2 ^ (m + 1) = 0) : v ||| 2 ^ m = v + 2 ^ m := by
  have h1 : v = (v / 2 ^ (m + 1)) <<< (m + 1) := by
    rw [Nat.shiftLeft_eq]
    exact (Nat.div_mul_cancel (Nat.dvd_of_mod_eq_zero h)).symm
  have h2 := Nat.shiftLeft_add_eq_or_of_lt (b := 2 ^ m) (i := m + 1) (Nat.pow_lt_pow_right (by decide) (by omega)) (v / 2 ^ (m + 1))
  rw [← h1] at h2
  exact h2.symm
theorem or32 {v t : Nat} (hv : v < 4294967296) (ht : t < 4294967296) : bits .or .u32 (v : Int) (t : Int) = ((v ||| t : Nat) : Int) := by
  have h := wor (BitVec.ofNat 32 v) (BitVec.ofNat 32 t)
  rw [BitVec.toNat_or, BitVec.toNat_ofNat, BitVec.toNat_ofNat, Nat.mod_eq_of_lt (by omega), Nat.mod_eq_of_lt (by omega)] at h
  exact h
theorem or64 {v t : Nat} (hv : v < 18446744073709551616) (ht : t < 18446744073709551616) : bits .or .u64 (v : Int) (t : Int) = ((v ||| t : Nat) : Int) := by
  have h : bits .or .u64 (((BitVec.ofNat 64 v : BitVec 64).toNat : Nat) : Int) (((BitVec.ofNat 64 t : BitVec 64).toNat : Nat) : Int) = ((((BitVec.ofNat 64 v ||| BitVec.ofNat 64 t : BitVec 64)).toNat : Nat) : Int) :=
    (bits_of .u64 (fun n h0 h1 => by rw [IntKind.wrap_u64]; simp [IntKind.bits] at h1; omega) (BitVec.ofNat 64 v) (BitVec.ofNat 64 t)).2.1
  rw [BitVec.toNat_or, BitVec.toNat_ofNat, BitVec.toNat_ofNat, Nat.mod_eq_of_lt (by omega), Nat.mod_eq_of_lt (by omega)] at h
  exact h
theorem room_above {v m : Nat} (hm : m + 1 ≤ 32) (h : v % 2 ^ (m + 1) = 0) (hv : v < 4294967296) : v + 2 ^ (m + 1) ≤ 4294967296 := by
  have hC : 4294967296 = 2 ^ (m + 1) * 2 ^ (31 - m) := by rw [← Nat.pow_add, show m + 1 + (31 - m) = 32 by omega]
  have hd : v = 2 ^ (m + 1) * (v / 2 ^ (m + 1)) := (Nat.mul_div_cancel' (Nat.dvd_of_mod_eq_zero h)).symm
  have hpos : 0 < 2 ^ (m + 1) := Nat.two_pow_pos _
  have hlt : v / 2 ^ (m + 1) < 2 ^ (31 - m) := by
    refine Nat.div_lt_of_lt_mul ?_
    rw [← hC]; exact hv
  have := Nat.mul_le_mul_left (2 ^ (m + 1)) (Nat.succ_le_of_lt hlt)
  rw [Nat.mul_succ, ← hd, ← hC] at this
  exact this
theorem mod_half {v m : Nat} (h : v % 2 ^ (m + 1) = 0) : v % 2 ^ m = 0 ∧ (v + 2 ^ m) % 2 ^ m = 0 := by
  have h1 : v % 2 ^ m = 0 := by
    have h2 : 2 ^ m ∣ 2 ^ (m + 1) := ⟨2, Nat.pow_succ ..⟩
    exact Nat.mod_eq_zero_of_dvd (Nat.dvd_trans h2 (Nat.dvd_of_mod_eq_zero h))
  exact ⟨h1, by rw [Nat.add_mod_right]; exact h1⟩
theorem or_high {wh t : Nat} (ht : t < 4294967296) : wh * 4294967296 ||| t = wh * 4294967296 + t := by
  have h2 := Nat.shiftLeft_add_eq_or_of_lt (b := t) (i := 32) (by omega) wh
  rw [Nat.shiftLeft_eq] at h2
  exact h2.symm
theorem wholeN_end {p k m x : Nat} (h : ¬ (x + 1) ^ k ≤ p) : wholeN p k m x = x := by
  cases m with
  | zero => rfl
  | succ m => rw [wholeN, if_neg h]
set_option maxRecDepth 100000 in
set_option maxHeartbeats 2000000 in
theorem root_any (p k : Nat) (w : World) (hp : p ≤ 900) (hk2 : 2 ≤ k) (hk3 : k ≤ 3) : Calls Tryd.prog 14 #[.int .i64 (p : Int), .int .i64 (k : Int)] w fun e w' => e = .returned (.int .u32 (rootN p k : Int)) ∧ rootN p k < 4294967296 ∧ Below w.heap.size w w' := by
  go_enter Tryd.func14, Tryd.ntmps14
  go_wp2
  go_loopw [5] (fun i wr => ∃ m wh : Nat, m + wh = p + 1 ∧ wholeN p k m wh = wholeN p k p 1 ∧ i = .int .i64 (wh : Int) ∧ wr = w) (fun i _ => p + 1 - (intOf i).toNat)
  case atStart => exact ⟨p, 1, rfl, rfl, rfl, rfl⟩
  case round =>
    obtain ⟨m, wh, hmw, hwn, rfl, rfl⟩ := hrel
    have PW := Lib.hid (fun w => power_any (wh + 1) k w (by omega) hk3)
    have e1 : ((wh + 1 : Nat) : Int) = (wh : Int) + 1 := by omega
    rw [e1] at PW
    have hge : wh + 1 ≤ (wh + 1) ^ k := by
      calc wh + 1 = (wh + 1) ^ 1 := (Nat.pow_one _).symm
        _ ≤ (wh + 1) ^ k := Nat.pow_le_pow_right (by omega) (by omega)
    obtain ⟨q, hq⟩ : ∃ q, q = (wh + 1) ^ k := ⟨_, rfl⟩
    rw [← hq] at PW hge
    by_cases hle : q ≤ p
    · obtain ⟨m', rfl⟩ : ∃ m', m = m' + 1 := ⟨m - 1, by omega⟩
      rw [wholeN, if_pos (by rw [← hq]; exact hle)] at hwn
      have HW := Lib.hid hwn
      have t0 : decide ((q : Int) ≤ (p : Int)) = true := by rw [decide_eq_true_eq]; omega
      clear hq hwn e1
      go_wp2_with (go_at_call 17; refine (PW.out _).mono ?_; rintro e w' ⟨rfl, hw⟩; rw [hw]; clear hw w')
      go_roundw
      case rel => exact ⟨m', wh + 1, by omega, HW.out, by go_num, by trivial⟩
      case measure => simp [intOf]; omega
    · rw [wholeN_end (by rw [← hq]; exact hle)] at hwn
      have HW := Lib.hid hwn
      have t0 : decide ((q : Int) ≤ (p : Int)) = false := by rw [decide_eq_false_iff_not]; omega
      clear hq hwn e1
      go_wp2_with (go_at_call 17; refine (PW.out _).mono ?_; rintro e w' ⟨rfl, hw⟩; rw [hw]; clear hw w')
      obtain ⟨wz, rfl⟩ : ∃ wz, wz = wr := ⟨_, rfl⟩
      go_loopw [6, 7, 8] (fun vv bv' tv wq => ∃ m v : Nat, m ≤ 32 ∧ bv' = .int .i64 ((m : Int) - 1) ∧ vv = .int .u32 (v : Int) ∧ v % 2 ^ m = 0 ∧ v < 4294967296 ∧ fracN 4294967296 p k wh m v = fracN 4294967296 p k wh 32 0 ∧ Below wz.heap.size wz wq) (fun _ b _ _ => (intOf b + 1).toNat)
      case atStart => exact ⟨32, 0, by omega, by go_num, rfl, by simp, by decide, rfl, Below.refl _ _⟩
      case round =>
        obtain ⟨m, v, hm, rfl, rfl, hv0, hv, hf, hb⟩ := hrel
        have HF := Lib.hid hf
        have HBW := Lib.hid hb
        clear hf hb
        by_cases hm0 : m = 0
        · subst hm0
          have HR := Lib.hid (show rootN p k = v by unfold rootN; rw [← HW.out, ← HF.out]; exact fracN_zero 4294967296 p k wh v)
          go_wp2_with fail
          go_ret
          rw [HR.out]
          exact ⟨rfl, hv, HBW.out⟩
        · obtain ⟨m', rfl⟩ : ∃ m', m = m' + 1 := ⟨m - 1, by omega⟩
          have ev := or_pow hv0
          have t2 : decide ((0 : Int) ≤ ((m' + 1 : Nat) : Int) - 1) = true := by rw [decide_eq_true_eq]; omega
          have eb : ((m' + 1 : Nat) : Int) - 1 = (m' : Int) := by omega
          rw [eb]
          have hE : 2 ^ m' < 4294967296 := Nat.lt_of_lt_of_le (Nat.pow_lt_pow_right (by decide) (show m' < 32 by omega)) (by decide)
          have hsum : v + 2 ^ m' < 4294967296 := by
            have h1 := room_above hm hv0 hv
            rw [Nat.pow_succ] at h1
            have := Nat.two_pow_pos m'
            omega
          have hor : bits .or .u32 (v : Int) ((2 : Int) ^ m' % 4294967296) = ((v + 2 ^ m' : Nat) : Int) := by
            have e2 : (2 : Int) ^ m' = ((2 ^ m' : Nat) : Int) := by simp
            rw [e2, ← ev, ← or32 hv hE]
            congr 1
            omega
          obtain ⟨t, ht⟩ : ∃ t, t = v + 2 ^ m' := ⟨_, rfl⟩
          rw [← ht] at hor hsum
          have HT := Lib.hid ht
          have HOR := Lib.hid hor
          have HV0 := Lib.hid hv0
          clear hor ht hv0 ev
          go_upto_region 9 with fail
          rw [HOR.out]
          go_wp2_with (go_at_call 18; refine stopR ?_)
          unfold StopR
          have hor2 : bits .or .u64 ((wh : Int) * 4294967296) (t : Int) = ((wh * 4294967296 + t : Nat) : Int) := by
            have e2 : (wh : Int) * 4294967296 = ((wh * 4294967296 : Nat) : Int) := by omega
            rw [e2, or64 (by omega) (by omega), or_high hsum]
          rw [hor2]
          refine (below_any (wh * 4294967296 + t) p k wr (by omega) (by omega) hk2 hk3).mono ?_
          rintro e w3 ⟨rfl, hb3⟩
          have HB3 := Lib.hid (HBW.out.trans (hb3.mono HBW.out.size))
          have hf2 : fracN 4294967296 p k wh (m' + 1) v = fracN 4294967296 p k wh m' (if (wh * 4294967296 + t) ^ k ≤ p * 4294967296 ^ k then t else v) := by rw [HT.out]; exact fracN_step 4294967296 p k wh m' v
          have HF2 := Lib.hid (hf2.symm.trans HF.out)
          have hmh := mod_half HV0.out
          rw [← HT.out] at hmh
          have HMH := Lib.hid hmh
          clear hb3 hor2 hf2 hmh HF HT HOR
          by_cases hc : (wh * 4294967296 + t) ^ k ≤ p * 4294967296 ^ k
          · rw [if_pos hc] at HF2
            have hd := decide_eq_true hc
            rw [hd]
            clear hd hc
            go_wp2_with fail
            go_roundw
            case rel => exact ⟨m', t, by omega, by go_num, rfl, HMH.out.2, hsum, HF2.out, HB3.out⟩
            case measure => simp [intOf]
          · rw [if_neg hc] at HF2
            have hd := decide_eq_false hc
            rw [hd]
            clear hd hc
            go_wp2_with fail
            go_roundw
            case rel => exact ⟨m', v, by omega, by go_num, rfl, HMH.out.1, hv, HF2.out, HB3.out⟩
            case measure => simp [intOf]
end Go.Proofs.YtoafgpoiikpcfaaDoor
