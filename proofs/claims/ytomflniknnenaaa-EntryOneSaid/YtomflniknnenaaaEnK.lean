/- The document's 'Read', field by field, as plain functions. -/
import Derived.Test.YtomflniknnenaaaEnI
import Derived.Test.YtomflniknnenaaaTxE1
set_option linter.unusedVariables false
set_option linter.unusedSimpArgs false
namespace Go.Proofs.Ytomflniknnenaaa
open Go.RowKit
def fM : Nat → Nat | 0 => 3 | 1 => 63 | 2 => 0 | 3 => 4611686018427387904 | 4 => 63 | _ => 1099511627776
def fk (k : Nat) : Fd := ⟨if k = 2 then 2 else 0, fM k, none, 0, [], zeros 32⟩
def rr : Nat → List B8 → List B8 | 0, b => b | k + 1, b => sL (fk k) (rr k b)
def er (k : Nat) (b : List B8) : Nat := sE (fk k) (rr k b)
def nv (k : Nat) (b : List B8) : Nat := sN (fk k) (rr k b)
def vs : Nat → List B8 → List Nat | 0, _ => [] | k + 1, b => vs k b ++ [nv k b]
def dd (k : Nat) (b : List B8) : List B8 := if k ≤ 2 then zeros 32 else sD (fk 2) (rr 2 b)
theorem fM_lt (k : Nat) : fM k < 18446744073709551616 := by
  match k with
  | 0 => decide
  | 1 => decide
  | 2 => decide
  | 3 => decide
  | 4 => decide
  | n + 5 => show 1099511627776 < _; decide
theorem vs_len (k : Nat) (b : List B8) : (vs k b).length = k := by induction k with | zero => rfl | succ k ih => simp [vs, ih]
theorem rr_le (k : Nat) (b : List B8) : (rr k b).length ≤ b.length := by
  induction k with
  | zero => exact Nat.le_refl _
  | succ k ih => exact Nat.le_trans (sL_le _ _) ih
theorem rr_1 (b : List B8) : rr 1 b = l1 b := rfl
theorem rr_2 (b : List B8) : rr 2 b = l2 b := rfl
theorem rr_3 (b : List B8) : rr 3 b = l3 b := rfl
theorem rr_4 (b : List B8) : rr 4 b = l4 b := rfl
theorem rr_5 (b : List B8) : rr 5 b = l5 b := rfl
theorem rr_6 (b : List B8) : rr 6 b = l6 b := rfl
theorem vs_6 (b : List B8) : vs 6 b = [numV b, numV (l1 b), 0, numV (l3 b), numV (l4 b), numV (l5 b)] := rfl
theorem dd_6 (b : List B8) : dd 6 b = (l2 b).take 32 := rfl
theorem er_0 (b : List B8) : er 0 b = eNum 3 b := rfl
theorem er_1 (b : List B8) : er 1 b = eNum 63 (l1 b) := rfl
theorem er_2 (b : List B8) : er 2 b = if (l2 b).length < 32 then 2 else 0 := rfl
theorem er_3 (b : List B8) : er 3 b = eNum 4611686018427387904 (l3 b) := rfl
theorem er_4 (b : List B8) : er 4 b = eNum 63 (l4 b) := rfl
theorem er_5 (b : List B8) : er 5 b = eNum 1099511627776 (l5 b) := rfl
theorem f_next {x y : Nat} : (if x ≠ 0 then x else y) = if x = 0 then y else x := by
  by_cases h : x = 0
  · rw [if_neg (by omega), if_pos h]
  · rw [if_pos h, if_neg h]
/-- The first error is the answer's. -/
theorem f6_first {k : Nat} {b : List B8} (hk : k < 6) (h0 : ∀ j, j < k → er j b = 0) (h : er k b ≠ 0) : f6 b = er k b := by
  have e0 := er_0 b
  have e1 := er_1 b
  have e2 := er_2 b
  have e3 := er_3 b
  have e4 := er_4 b
  have e5 := er_5 b
  have a0 : 0 < k → er 0 b = 0 := fun h => h0 0 h
  have a1 : 1 < k → er 1 b = 0 := fun h => h0 1 h
  have a2 : 2 < k → er 2 b = 0 := fun h => h0 2 h
  have a3 : 3 < k → er 3 b = 0 := fun h => h0 3 h
  have a4 : 4 < k → er 4 b = 0 := fun h => h0 4 h
  unfold f6 f5 f4 f3 f2 f1
  rw [← e0, ← e1, ← e2, ← e3, ← e4, ← e5]
  simp only [f_next]
  rcases (show k = 0 ∨ k = 1 ∨ k = 2 ∨ k = 3 ∨ k = 4 ∨ k = 5 by omega) with rfl | rfl | rfl | rfl | rfl | rfl <;> simp [a0, a1, a2, a3, a4, h]
theorem f6_none {b : List B8} (h0 : ∀ j, j < 6 → er j b = 0) : f6 b = 0 := by
  unfold f6 f5 f4 f3 f2 f1
  rw [← er_0, ← er_1, ← er_2, ← er_3, ← er_4, ← er_5]
  simp [h0 0 (by omega), h0 1 (by omega), h0 2 (by omega), h0 3 (by omega), h0 4 (by omega), h0 5 (by omega)]
theorem readE_first {k : Nat} {b : List B8} (hk : k < 6) (h0 : ∀ j, j < k → er j b = 0) (h : er k b ≠ 0) : readE b = er k b ∧ readV b = EZ := by
  have hf := f6_first hk h0 h
  have hx : xE b = er k b := by unfold xE; rw [if_pos (by rw [hf]; exact h), hf]
  have hr : readE b = er k b := by unfold readE; rw [if_pos (by rw [hx]; exact h), hx]
  exact ⟨hr, by unfold readV; rw [if_pos (by rw [hr]; exact h)]⟩
/-- Behind all fields: too many bytes, or a kind of 0, or an entry. -/
theorem readE_end {b : List B8} (h0 : ∀ j, j < 6 → er j b = 0) : (l6 b ≠ [] ∨ numV b = 0 → readE b = 3 ∧ readV b = EZ) ∧ (l6 b = [] → numV b ≠ 0 → readE b = 0 ∧ readV b = bodV b) := by
  have hf := f6_none h0
  have hb := f_bounds hf
  have hok : okB (bodV b) ↔ numV b ≠ 0 := by
    unfold okB bodV eN
    simp only
    omega
  constructor
  · intro h
    have hr : readE b = 3 := by
      unfold readE xE
      rw [hf]
      by_cases h1 : numV b = 0
      · have hno : ¬ okB (bodV b) := fun h => (hok.1 h) h1
        simp [hno]
      · have h2 : l6 b ≠ [] := h.elim id (fun h => absurd h h1)
        have hyes : okB (bodV b) := hok.2 h1
        simp [hyes, h2]
    exact ⟨hr, by unfold readV; rw [if_pos (by rw [hr]; decide)]⟩
  · intro h1 h2
    have hyes : okB (bodV b) := hok.2 h2
    have hr : readE b = 0 := by
      unfold readE xE
      rw [hf]
      simp [hyes, h1]
    exact ⟨hr, by unfold readV; rw [if_neg (by rw [hr]; decide)]⟩
/-- A load of a field's record, behind a name that the walk does not open. -/
def fdLoad (v : Value) : Sem Value := Instr.loadAt 55 v
set_option maxRecDepth 100000 in
theorem loadAt_fd (v : Value) : Instr.loadAt 55 v = fdLoad v := rfl
set_option maxRecDepth 100000 in
theorem run_fdLoad (w : World) (b o : Nat) : (fdLoad (.pointer (some ⟨b, o, none⟩))).run Try.prog w = (match rowOf w b o 35 with | some C => .ok (.agg C) w | none => loadRest Try.prog 55 b o w) := by
  unfold fdLoad
  cases h : rowOf w b o 35 with
  | none => rfl
  | some C =>
    obtain ⟨hs, hr⟩ := rowOf_some h
    have := run_loadAt_mid w b o 55 C.toList _ hr Try.underlying55 rfl (by rw [Array.length_toList, hs]; kernel_rfl)
    simpa using this
end Go.Proofs.Ytomflniknnenaaa
