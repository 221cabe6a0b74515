/- The contracts of package sums and of the document's answers: each call returns, for every input. -/
import Derived.Test.YteaoaabjdgdcmaaChecked
import Derived.WalkKit
import Derived.IntWalk
import Derived.WalkLawsBesides
import Derived.Lib.Hide
import Derived.Deep.Cut
namespace Go.Proofs.Yteaoaabjdgdcmaa
open Go.RowKit

theorem ret_bool {a b : Bool} (h : a = b) : Ending.returned (.bool a) = .returned (.bool b) := by rw [h]
theorem ret_int {k : IntKind} {a b : Int} (h : a = b) : Ending.returned (.int k a) = .returned (.int k b) := by rw [h]

def M : Nat := 4611686018427387904
def addOk (a b : Nat) : Bool := decide (a + b ≤ M)
def addV (a b : Nat) : Nat := if a + b ≤ M then a + b else 0
def addE (a b : Nat) : Nat := if a + b ≤ M then 0 else 6
def lessV (a b : Nat) : Nat := if a ≤ M ∧ b ≤ M ∧ b ≤ a then a - b else 0
def lessE (a b : Nat) : Nat := if a ≤ M ∧ b ≤ M then (if b ≤ a then 0 else 9) else 6
def amtB (a : Nat) : Bool := decide (a ≤ M)

theorem amount_any (a : Nat) (w : World) : Calls Try.prog 57 #[.int .u64 a] w fun e w' => e = .returned (.bool (amtB a)) ∧ w = w' := by
  go_enter Try.func57, Try.ntmps57
  go_wp2
  go_ret
  exact ⟨ret_bool (by unfold amtB M; rw [decide_eq_decide]; omega), rfl⟩

theorem amount_yes (a : Nat) (h : a ≤ M) (w : World) : Calls Try.prog 57 #[.int .u64 a] w fun e w' => e = .returned (.bool true) ∧ w = w' := by
  have C := amount_any a w
  have : amtB a = true := by simp [amtB, h]
  rw [this] at C; exact C
theorem amount_no (a : Nat) (h : ¬ a ≤ M) (w : World) : Calls Try.prog 57 #[.int .u64 a] w fun e w' => e = .returned (.bool false) ∧ w = w' := by
  have C := amount_any a w
  have : amtB a = false := by simp [amtB, h]
  rw [this] at C; exact C

theorem add_any (a b : Nat) (w : World) (wa : a < 18446744073709551616) (wb : b < 18446744073709551616) :
    Calls Try.prog 53 #[.int .u64 a, .int .u64 b] w fun e w' => e = .returned (.tuple #[.int .u64 (addV a b), .int .i64 (addE a b)]) ∧ w = w' := by
  by_cases ha : a ≤ M
  · have E := Lib.hid (amount_yes a ha)
    by_cases hb : a + b ≤ M
    · have V := Lib.hid (show ((a + b : Nat) : Int) = addV a b ∧ (0 : Int) = addE a b by unfold addV addE; constructor <;> rw [if_pos (by omega)] <;> rfl)
      have W := Lib.hid (show IntKind.u64.wrap ((a : Int) + b) = ((a + b : Nat) : Int) by rw [IntWalk.u64_in _ (by unfold M at *; omega)]; omega)
      have T : decide (IntKind.u64.wrap ((4611686018427387904 : Int) - a) < b) = false := by
        rw [IntWalk.u64_in _ (by unfold M at *; omega)]; unfold M at *; simp; omega
      clear wa wb ha hb
      go_enter Try.func53, Try.ntmps53
      go_wp2_with (go_at_call 57; refine (E.out _).mono ?_; rintro e w' ⟨rfl, rfl⟩)
      go_ret2
      rw [← V.out.1, ← V.out.2, ← W.out]
      exact ⟨rfl, rfl⟩
    · have V := Lib.hid (show addV a b = 0 ∧ addE a b = 6 by unfold addV addE; constructor <;> rw [if_neg (by omega)])
      have T : decide (IntKind.u64.wrap ((4611686018427387904 : Int) - a) < b) = true := by
        rw [IntWalk.u64_in _ (by unfold M at *; omega)]; unfold M at *; simp; omega
      clear wa wb ha hb
      go_enter Try.func53, Try.ntmps53
      go_wp2_with (go_at_call 57; refine (E.out _).mono ?_; rintro e w' ⟨rfl, rfl⟩)
      go_ret2
      rw [V.out.1, V.out.2]
      exact ⟨rfl, rfl⟩
  · have E := Lib.hid (amount_no a ha)
    have V := Lib.hid (show addV a b = 0 ∧ addE a b = 6 by unfold addV addE; constructor <;> rw [if_neg (by omega)])
    clear wa wb ha
    go_enter Try.func53, Try.ntmps53
    go_wp2_with (go_at_call 57; refine (E.out _).mono ?_; rintro e w' ⟨rfl, rfl⟩)
    go_ret2
    rw [V.out.1, V.out.2]
    exact ⟨rfl, rfl⟩

theorem radd_any (a b : Nat) (w : World) (wa : a < 18446744073709551616) (wb : b < 18446744073709551616) :
    Calls Try.prog 51 #[.int .u64 a, .int .u64 b] w fun e w' => e = .returned (.tuple #[.int .u64 (addV a b), .int .i64 (addE a b)]) ∧ w = w' := by
  by_cases ha : a ≤ M
  · have T1 : decide ((4611686018427387904 : Int) < a) = false := by unfold M at *; simp; omega
    by_cases hb : b ≤ M
    · have T2 : decide ((4611686018427387904 : Int) < b) = false := by unfold M at *; simp; omega
      by_cases hc : a + b ≤ M
      · have V := Lib.hid (show ((a + b : Nat) : Int) = addV a b ∧ (0 : Int) = addE a b by unfold addV addE; constructor <;> rw [if_pos (by omega)] <;> rfl)
        have W := Lib.hid (show IntKind.u64.wrap ((a : Int) + b) = ((a + b : Nat) : Int) by rw [IntWalk.u64_in _ (by unfold M at *; omega)]; omega)
        have T : decide (IntKind.u64.wrap ((4611686018427387904 : Int) - b) < a) = false := by
          rw [IntWalk.u64_in _ (by unfold M at *; omega)]; unfold M at *; simp; omega
        clear wa wb ha hb hc
        go_enter Try.func51, Try.ntmps51
        go_wp2
        go_ret2
        rw [← V.out.1, ← V.out.2, ← W.out]
        exact ⟨rfl, rfl⟩
      · have V := Lib.hid (show addV a b = 0 ∧ addE a b = 6 by unfold addV addE; constructor <;> rw [if_neg (by omega)])
        have T : decide (IntKind.u64.wrap ((4611686018427387904 : Int) - b) < a) = true := by
          rw [IntWalk.u64_in _ (by unfold M at *; omega)]; unfold M at *; simp; omega
        clear wa wb ha hb hc
        go_enter Try.func51, Try.ntmps51
        go_wp2
        go_ret2
        rw [V.out.1, V.out.2]
        exact ⟨rfl, rfl⟩
    · have V := Lib.hid (show addV a b = 0 ∧ addE a b = 6 by unfold addV addE; constructor <;> rw [if_neg (by omega)])
      have T2 : decide ((4611686018427387904 : Int) < b) = true := by unfold M at *; simp; omega
      clear wa wb ha hb
      go_enter Try.func51, Try.ntmps51
      go_wp2
      go_ret2
      rw [V.out.1, V.out.2]
      exact ⟨rfl, rfl⟩
  · have V := Lib.hid (show addV a b = 0 ∧ addE a b = 6 by unfold addV addE; constructor <;> rw [if_neg (by omega)])
    have T1 : decide ((4611686018427387904 : Int) < a) = true := by unfold M at *; simp; omega
    clear wa wb ha
    go_enter Try.func51, Try.ntmps51
    go_wp2
    go_ret2
    rw [V.out.1, V.out.2]
    exact ⟨rfl, rfl⟩

end Go.Proofs.Yteaoaabjdgdcmaa
