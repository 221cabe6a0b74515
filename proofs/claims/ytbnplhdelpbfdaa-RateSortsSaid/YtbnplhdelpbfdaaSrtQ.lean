/- Rates in lists: stretches that are ordered; runs of one length. Plain facts. -/
import Derived.Test.YtbnplhdelpbfdaaSrtP
set_option linter.unusedVariables false
namespace Go.Proofs.Ytbnplhdelpbfdaa
open Flt (key)
def Ord (E : List Nat) (a b : Nat) : Prop := ∀ i j, a ≤ i → i < j → j < b → key (gd E j) ≤ key (gd E i)
def sg (E : List Nat) (a b : Nat) : List Nat := (E.drop a).take (b - a)
def putL (E : List Nat) (a b : Nat) (Y : List Nat) : List Nat := E.take a ++ (Y ++ E.drop b)
section
variable {E Y : List Nat} {a b x y k K n : Nat}
theorem sg_len (h1 : a ≤ b) (h2 : b ≤ E.length) : (sg E a b).length = b - a := by unfold sg; simp; omega
theorem sg_split (h1 : a ≤ b) (h2 : b ≤ E.length) : E.take a ++ (sg E a b ++ E.drop b) = E := by
  have e : sg E a b ++ E.drop b = E.drop a := by
    have := List.take_append_drop (b - a) (E.drop a)
    rw [List.drop_drop, show a + (b - a) = b by omega] at this
    exact this
  rw [e, List.take_append_drop]
theorem sg_gd {i : Nat} (h : i < b - a) : gd (sg E a b) i = gd E (a + i) := by unfold sg; rw [gd_take h, gd_drop]
theorem sg_srt (h : Ord E a b) (h1 : a ≤ b) (h2 : b ≤ E.length) : Srt (sg E a b) := by
  rw [srt_iff]
  intro i j hij hj
  rw [sg_len h1 h2] at hj
  rw [sg_gd (by omega), sg_gd (by omega)]
  exact h _ _ (by omega) (by omega) (by omega)
theorem put_len (hY : Y.length = b - a) (h1 : a ≤ b) (h2 : b ≤ E.length) : (putL E a b Y).length = E.length := by unfold putL; simp; omega
theorem put_perm (hY : Y.Perm (sg E a b)) (h1 : a ≤ b) (h2 : b ≤ E.length) : (putL E a b Y).Perm E := by
  have : (E.take a ++ (Y ++ E.drop b)).Perm (E.take a ++ (sg E a b ++ E.drop b)) := List.Perm.append_left _ (List.Perm.append_right _ hY)
  rw [sg_split h1 h2] at this; exact this
theorem put_in {i : Nat} (hY : Y.length = b - a) (h1 : a ≤ b) (h2 : b ≤ E.length) (hi : a ≤ i) (hb : i < b) : gd (putL E a b Y) i = gd Y (i - a) := by
  unfold putL
  have l : (E.take a).length = a := by simp; omega
  rw [gd_right (by omega), l, gd_left (by omega)]
theorem put_out {i : Nat} (hY : Y.length = b - a) (h1 : a ≤ b) (h2 : b ≤ E.length) (hi : i < a ∨ b ≤ i) : gd (putL E a b Y) i = gd E i := by
  unfold putL
  have l : (E.take a).length = a := by simp; omega
  rcases hi with h | h
  · rw [gd_left (by omega), gd_take h]
  · rw [gd_right (by omega), l, gd_right (by omega), gd_drop]
    congr 1; omega
theorem put_ord (hY : Y.length = b - a) (h1 : a ≤ b) (h2 : b ≤ E.length) (hs : Srt Y) : Ord (putL E a b Y) a b := fun i j hi hij hj => by
  rw [put_in hY h1 h2 (by omega) hj, put_in hY h1 h2 hi (by omega)]
  exact hs.le (by omega) (by omega)
theorem put_else (hY : Y.length = b - a) (h1 : a ≤ b) (h2 : b ≤ E.length) (h : Ord E x y) (hxy : y ≤ a ∨ b ≤ x) : Ord (putL E a b Y) x y := fun i j hi hij hj => by
  rw [put_out hY h1 h2 (by omega), put_out hY h1 h2 (by omega)]
  exact h i j hi hij hj
theorem Ord.mono {x' y' : Nat} (h : Ord E x y) (hx : x ≤ x') (hy : y' ≤ y) : Ord E x' y' := fun i j hi hij hj => h i j (by omega) hij (by omega)
theorem Ord.none (h : y ≤ x) : Ord E x y := fun i j hi hij hj => by omega
theorem ord_srt (h : Ord E 0 E.length) : Srt E := srt_iff.2 fun i j hij hj => h i j (by omega) hij hj
/-- From x on: runs of k. -/
def Runs (k : Nat) (E : List Nat) (x n : Nat) : Prop := ∀ q, Ord E (x + q * k) (min (x + q * k + k) n)
theorem Runs.first (h : Runs k E x n) : Ord E x (min (x + k) n) := by have := h 0; simpa using this
theorem Runs.next (h : Runs k E x n) : Runs k E (x + k) n := fun q => by
  have := h (q + 1)
  rw [Nat.succ_mul] at this
  rw [show x + k + q * k = x + (q * k + k) by omega]; exact this
theorem Runs.put (hY : Y.length = b - a) (h1 : a ≤ b) (h2 : b ≤ E.length) (h : Runs k E x n) (hx : b ≤ x) : Runs k (putL E a b Y) x n := fun q => put_else hY h1 h2 (h q) (.inr (by omega))
/-- Up to a: runs of K, whole. -/
def Pre (K : Nat) (E : List Nat) (a : Nat) : Prop := ∃ q, a = q * K ∧ ∀ r, r < q → Ord E (r * K) (r * K + K)
theorem Pre.zero : Pre K E 0 := ⟨0, by simp, fun r h => by omega⟩
theorem Pre.next (h : Pre K E a) (ho : Ord E a (a + K)) : Pre K E (a + K) := by
  obtain ⟨q, rfl, h⟩ := h
  refine ⟨q + 1, by rw [Nat.succ_mul], fun r hr => ?_⟩
  rcases Nat.lt_or_ge r q with h1 | h1
  · exact h r h1
  · obtain rfl : r = q := by omega
    exact ho
theorem Pre.put (hY : Y.length = b - a) (h1 : a ≤ b) (h2 : b ≤ E.length) (h : Pre K E a) : Pre K (putL E a b Y) a := by
  obtain ⟨q, e, h⟩ := h
  refine ⟨q, e, fun r hr => put_else hY h1 h2 (h r hr) (.inl ?_)⟩
  have := Nat.mul_le_mul_right K (show r + 1 ≤ q from hr)
  rw [Nat.succ_mul] at this
  omega
theorem Pre.done (h : Pre K E a) (ho : Ord E a n) (hn : n ≤ a + K) : Runs K E 0 n := fun r => by
  obtain ⟨q, rfl, h⟩ := h
  rw [Nat.zero_add]
  rcases Nat.lt_trichotomy r q with h1 | h1 | h1
  · exact (h r h1).mono (Nat.le_refl _) (by omega)
  · subst h1; exact ho.mono (Nat.le_refl _) (by omega)
  · refine Ord.none ?_
    have := Nat.mul_le_mul_right K (show q + 1 ≤ r from h1)
    rw [Nat.succ_mul] at this
    omega
end
end Go.Proofs.Ytbnplhdelpbfdaa
