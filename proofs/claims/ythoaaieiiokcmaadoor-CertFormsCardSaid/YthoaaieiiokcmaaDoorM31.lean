/- Merged: The document's 'Read', field by field, as plain functions. -/
import Derived.Test.YthoaaieiiokcmaaDoorM30
import Derived.Test.YthoaaieiiokcmaaDoorM15
namespace Go.Proofs.YthoaaieiiokcmaaDoor
section
set_option linter.unusedVariables false
set_option linter.unusedSimpArgs false
open Go.RowKit
def fM : Nat → Nat | 0 => 3 | 1 => 63 | 2 => 0 | 3 => 4611686018427387904 | 4 => 63 | _ => 1099511627776
def fk (k : Nat) : Fd := ⟨if k = 2 then 2 else 0, fM k, none, 0, [], zeros 32⟩
def rr : Nat → List B8 → List B8 | 0, b => b | k + 1, b => sL (fk k) (rr k b)
def er (k : Nat) (b : List B8) : Nat := sE (fk k) (rr k b)
def nv (k : Nat) (b : List B8) : Nat := sN (fk k) (rr k b)
def vs : Nat → List B8 → List Nat | 0, _ => [] | k + 1, b => vs k b ++ [nv k b]
def dd (k : Nat) (b : List B8) : List B8 := if k ≤ 2 then zeros 32 else sD (fk 2) (rr 2 b)
theorem fM_lt (k : Nat) : fM k < 18446744073709551616 := by
  match k with
  | 0 => decide
  | 1 => decide
  | 2 => decide
  | 3 => decide
  | 4 => decide
  | n + 5 => show 1099511627776 < _; decide
theorem rr_le (k : Nat) (b : List B8) : (rr k b).length ≤ b.length := by
  induction k with
  | zero => exact Nat.le_refl _
  | succ k ih => exact Nat.le_trans (sL_le _ _) ih
theorem er_0 (b : List B8) : er 0 b = eNum 3 b := rfl
theorem er_1 (b : List B8) : er 1 b = eNum 63 (l1 b) := rfl
theorem er_2 (b : List B8) : er 2 b = if (l2 b).length < 32 then 2 else 0 := rfl
theorem er_3 (b : List B8) : er 3 b = eNum 4611686018427387904 (l3 b) := rfl
theorem er_4 (b : List B8) : er 4 b = eNum 63 (l4 b) := rfl
theorem er_5 (b : List B8) : er 5 b = eNum 1099511627776 (l5 b) := rfl
/-- The first error is the answer's. -/
theorem f6_first {k : Nat} {b : List B8} (hk : k < 6) (h0 : ∀ j, j < k → er j b = 0) (h : er k b ≠ 0) : f6 b = er k b := by
  have e0 := er_0 b
  have e1 := er_1 b
  have e2 := er_2 b
  have e3 := er_3 b
  have e4 := er_4 b
  have e5 := er_5 b
  have a0 : 0 < k → er 0 b = 0 := fun h => h0 0 h
  have a1 : 1 < k → er 1 b = 0 := fun h => h0 1 h
  have a2 : 2 < k → er 2 b = 0 := fun h => h0 2 h
  have a3 : 3 < k → er 3 b = 0 := fun h => h0 3 h
  have a4 : 4 < k → er 4 b = 0 := fun h => h0 4 h
  unfold f6 f5 f4 f3 f2 f1
  rw [← e0, ← e1, ← e2, ← e3, ← e4, ← e5]
  simp only [f_next]
  rcases (show k = 0 ∨ k = 1 ∨ k = 2 ∨ k = 3 ∨ k = 4 ∨ k = 5 by omega) with rfl | rfl | rfl | rfl | rfl | rfl <;> simp [a0, a1, a2, a3, a4, h]
theorem f6_none {b : List B8} (h0 : ∀ j, j < 6 → er j b = 0) : f6 b = 0 := by
  unfold f6 f5 f4 f3 f2 f1
  rw [← er_0, ← er_1, ← er_2, ← er_3, ← er_4, ← er_5]
  simp [h0 0 (by omega), h0 1 (by omega), h0 2 (by omega), h0 3 (by omega), h0 4 (by omega), h0 5 (by omega)]
theorem readE_first {k : Nat} {b : List B8} (hk : k < 6) (h0 : ∀ j, j < k → er j b = 0) (h : er k b ≠ 0) : readE b = er k b ∧ readV b = EZ := by
  have hf := f6_first hk h0 h
  have hx : xE b = er k b := by unfold xE; rw [if_pos (by rw [hf]; exact h), hf]
  have hr : readE b = er k b := by unfold readE; rw [if_pos (by rw [hx]; exact h), hx]
  exact ⟨hr, by unfold readV; rw [if_pos (by rw [hr]; exact h)]⟩
/-- Behind all fields: too many bytes, or a kind of 0, or an entry. -/
theorem readE_end {b : List B8} (h0 : ∀ j, j < 6 → er j b = 0) : (l6 b ≠ [] ∨ numV b = 0 → readE b = 3 ∧ readV b = EZ) ∧ (l6 b = [] → numV b ≠ 0 → readE b = 0 ∧ readV b = bodV b) := by
  have hf := f6_none h0
  have hb := f_bounds hf
  have hok : okB (bodV b) ↔ numV b ≠ 0 := by
    unfold okB bodV eN
    simp only
    omega
  constructor
  · intro h
    have hr : readE b = 3 := by
      unfold readE xE
      rw [hf]
      by_cases h1 : numV b = 0
      · have hno : ¬ okB (bodV b) := fun h => (hok.1 h) h1
        simp [hno]
      · have h2 : l6 b ≠ [] := h.elim id (fun h => absurd h h1)
        have hyes : okB (bodV b) := hok.2 h1
        simp [hyes, h2]
    exact ⟨hr, by unfold readV; rw [if_pos (by rw [hr]; decide)]⟩
  · intro h1 h2
    have hyes : okB (bodV b) := hok.2 h2
    have hr : readE b = 0 := by
      unfold readE xE
      rw [hf]
      simp [hyes, h1]
    exact ⟨hr, by unfold readV; rw [if_neg (by rw [hr]; decide)]⟩
end
end Go.Proofs.YthoaaieiiokcmaaDoor
