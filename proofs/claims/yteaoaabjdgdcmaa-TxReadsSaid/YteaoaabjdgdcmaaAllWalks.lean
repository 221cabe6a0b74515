/- The contracts of both Alls, and of the document's example. -/
import Derived.Test.YteaoaabjdgdcmaaSumsWalks
import Derived.Test.YteaoaabjdgdcmaaKit
import Derived.LoopTactic
import Derived.Below
import Derived.Deep.QuietTactic
import Derived.BigQuiet
import Derived.OwnWalk
namespace Go.Proofs.Yteaoaabjdgdcmaa
open Go.RowKit

def allV (s : Nat) : List Nat → Nat × Nat
  | [] => (s, 0)
  | a :: l => if s + a ≤ M then allV (s + a) l else (0, 6)
theorem allV_yes (s : Nat) (l : List Nat) (k : Nat) (h : k < l.length) (hs : s + l[k] ≤ M) : allV (s + l[k]) (l.drop (k + 1)) = allV s (l.drop k) := by
  rw [List.drop_eq_getElem_cons h]; simp [allV, hs]
theorem allV_no (s : Nat) (l : List Nat) (k : Nat) (h : k < l.length) (hs : ¬ s + l[k] ≤ M) : allV s (l.drop k) = (0, 6) := by
  rw [List.drop_eq_getElem_cons h]; simp [allV, hs]
theorem allV_end (s : Nat) (l : List Nat) : allV s (l.drop l.length) = (s, 0) := by simp [allV]

theorem add_yes (a b : Nat) (w : World) (h : a + b ≤ M) : Calls Try.prog 53 #[.int .u64 a, .int .u64 b] w fun e w' => e = .returned (.tuple #[.int .u64 ((a + b : Nat) : Int), .int .i64 0]) ∧ w = w' := by
  have := add_any a b w (by unfold M at h; omega) (by unfold M at h; omega)
  simpa [addV, addE, h] using this
theorem add_no (a b : Nat) (w : World) (wa : a < 18446744073709551616) (wb : b < 18446744073709551616) (h : ¬ a + b ≤ M) : Calls Try.prog 53 #[.int .u64 a, .int .u64 b] w fun e w' => e = .returned (.tuple #[.int .u64 0, .int .i64 6]) ∧ w = w' := by
  have := add_any a b w wa wb
  simpa [addV, addE, h] using this
theorem radd_yes (a b : Nat) (w : World) (h : a + b ≤ M) : Calls Try.prog 51 #[.int .u64 a, .int .u64 b] w fun e w' => e = .returned (.tuple #[.int .u64 ((a + b : Nat) : Int), .int .i64 0]) ∧ w = w' := by
  have := radd_any a b w (by unfold M at h; omega) (by unfold M at h; omega)
  simpa [addV, addE, h] using this
theorem radd_no (a b : Nat) (w : World) (wa : a < 18446744073709551616) (wb : b < 18446744073709551616) (h : ¬ a + b ≤ M) : Calls Try.prog 51 #[.int .u64 a, .int .u64 b] w fun e w' => e = .returned (.tuple #[.int .u64 0, .int .i64 6]) ∧ w = w' := by
  have := radd_any a b w wa wb
  simpa [addV, addE, h] using this

theorem all_any (A : Option Addr) (c B : Nat) (l : List Nat) (w : World) (hs : Sl w B A (u64s l)) (hl : l.length ≤ maxLen) (hw : ∀ x ∈ l, x < 18446744073709551616) :
    Calls Try.prog 41 #[.slice A l.length c] w fun e w' => e = .returned (.tuple #[.int .u64 (allV 0 l).1, .int .i64 (allV 0 l).2]) ∧ w = w' := by
  unfold maxLen at hl
  go_enter Try.func41, Try.ntmps41
  go_wp2
  go_loop [4, 11] (fun x i => ∃ k s : Nat, k ≤ l.length ∧ i = .int .i64 k ∧ x = .int .u64 s ∧ s ≤ M ∧ allV s (l.drop k) = allV 0 l) (fun _ i => l.length - (intOf i).toNat)
  case atStart => exact ⟨0, 0, Nat.zero_le _, rfl, rfl, Nat.zero_le _, rfl⟩
  case round =>
    obtain ⟨k, s, hk, rfl, rfl, hsM, ha⟩ := hrel
    by_cases hlt : k < l.length
    · obtain ⟨ad, rfl, _, hc⟩ := hs.at (u64s_at l k hlt)
      have hx := hw l[k] (List.getElem_mem hlt)
      by_cases hy : s + l[k] ≤ M
      · have E := Lib.hid (fun w => add_yes s l[k] w hy)
        have H := Lib.hid ((allV_yes s l k hlt hy).trans ha)
        have HM := Lib.hid hy
        generalize hz : l[k] = z at *
        clear hz ha hy hx hsM hw
        go_wp2_with (go_at_call 53; refine (E.out _).mono ?_; rintro e w' ⟨rfl, rfl⟩)
        go_round
        case rel => exact ⟨k + 1, s + z, by omega, by go_num, by go_num, HM.out, H.out⟩
        case measure => simp [intOf]; omega
      · have E := Lib.hid (fun w => add_no s l[k] w (by unfold M at hsM; omega) hx hy)
        have H := Lib.hid ((allV_no s l k hlt hy).symm.trans ha)
        generalize hz : l[k] = z at *
        clear hz ha hy hx hsM hw
        go_wp2_with (go_at_call 53; refine (E.out _).mono ?_; rintro e w' ⟨rfl, rfl⟩)
        go_ret2
        rw [← H.out]
        exact ⟨rfl, rfl⟩
    · obtain rfl : k = l.length := by omega
      rw [allV_end] at ha
      have H := Lib.hid ha
      clear ha
      go_wp2
      go_ret2
      rw [← H.out]
      exact ⟨rfl, rfl⟩
theorem rall_any (A : Option Addr) (c B : Nat) (l : List Nat) (w : World) (hs : Sl w B A (u64s l)) (hl : l.length ≤ maxLen) (hw : ∀ x ∈ l, x < 18446744073709551616) :
    Calls Try.prog 36 #[.slice A l.length c] w fun e w' => e = .returned (.tuple #[.int .u64 (allV 0 l).1, .int .i64 (allV 0 l).2]) ∧ w = w' := by
  unfold maxLen at hl
  go_enter Try.func36, Try.ntmps36
  go_wp2
  go_loop [4, 5] (fun x i => ∃ k s : Nat, k ≤ l.length ∧ i = .int .i64 k ∧ x = .int .u64 s ∧ s ≤ M ∧ allV s (l.drop k) = allV 0 l) (fun _ i => l.length - (intOf i).toNat)
  case atStart => exact ⟨0, 0, Nat.zero_le _, rfl, rfl, Nat.zero_le _, rfl⟩
  case round =>
    obtain ⟨k, s, hk, rfl, rfl, hsM, ha⟩ := hrel
    by_cases hlt : k < l.length
    · obtain ⟨ad, rfl, _, hc⟩ := hs.at (u64s_at l k hlt)
      have hx := hw l[k] (List.getElem_mem hlt)
      by_cases hy : s + l[k] ≤ M
      · have E := Lib.hid (fun w => radd_yes s l[k] w hy)
        have H := Lib.hid ((allV_yes s l k hlt hy).trans ha)
        have HM := Lib.hid hy
        generalize hz : l[k] = z at *
        clear hz ha hy hx hsM hw
        go_wp2_with (go_at_call 51; refine (E.out _).mono ?_; rintro e w' ⟨rfl, rfl⟩)
        go_round
        case rel => exact ⟨k + 1, s + z, by omega, by go_num, by go_num, HM.out, H.out⟩
        case measure => simp [intOf]; omega
      · have E := Lib.hid (fun w => radd_no s l[k] w (by unfold M at hsM; omega) hx hy)
        have H := Lib.hid ((allV_no s l k hlt hy).symm.trans ha)
        generalize hz : l[k] = z at *
        clear hz ha hy hx hsM hw
        go_wp2_with (go_at_call 51; refine (E.out _).mono ?_; rintro e w' ⟨rfl, rfl⟩)
        go_ret2
        rw [← H.out]
        exact ⟨rfl, rfl⟩
    · obtain rfl : k = l.length := by omega
      rw [allV_end] at ha
      have H := Lib.hid ha
      clear ha
      go_wp2
      go_ret2
      rw [← H.out]
      exact ⟨rfl, rfl⟩
end Go.Proofs.Yteaoaabjdgdcmaa
