/- The document's reader: what its loops keep. -/
import Derived.Test.YteaoaabjdgdcmaaTxE5
set_option linter.unusedVariables false
set_option linter.unusedSimpArgs false
namespace Go.Proofs.Yteaoaabjdgdcmaa
open Go.RowKit
/-- A row of inputs, of outputs, in a list of cells. -/
def RowI (w : World) (N : Nat → Prop) (cs : List Value) (ps : List Pin) : Prop := ∀ i p, ps[i]? = some p → p.ok ∧ ∃ S c, BtN w N S c p.b ∧ ∀ j v, (p.cells S c)[j]? = some v → cs[i * 35 + j]? = some v
def RowO (cs : List Value) (ps : List Pout) : Prop := ∀ i p, ps[i]? = some p → p.ok ∧ ∀ j v, p.cells[j]? = some v → cs[i * 33 + j]? = some v
set_option maxRecDepth 100000 in
theorem RowI.turn {w w' : World} {N T : Nat → Prop} {cs : List Value} {ps : List Pin} (h : RowI w N cs ps) (t : Turn T w w') (hT : ∀ i, T i → N i) : RowI w' N cs ps := fun i p hi => by
  obtain ⟨h1, S, c, h2, h3⟩ := h i p hi
  exact ⟨h1, S, c, h2.turn t hT (fun _ _ h => h), h3⟩
set_option maxRecDepth 100000 in
theorem RowI.add {w : World} {N : Nat → Prop} {cs : List Value} {ps : List Pin} {p : Pin} {S : Option Addr} {c : Nat} (h : RowI w N cs ps) (hl : cs.length = ps.length * 35) (hok : p.ok) (hb : BtN w N S c p.b) : RowI w N (cs ++ p.cells S c) (ps ++ [p]) := fun i q hi => by
  rcases Nat.lt_or_ge i ps.length with h1 | h1
  · rw [List.getElem?_append_left h1] at hi
    obtain ⟨k1, S', c', k2, k3⟩ := h i q hi
    refine ⟨k1, S', c', k2, fun j v hj => ?_⟩
    have := k3 j v hj
    rw [List.getElem?_append_left (List.getElem?_eq_some_iff.1 this).1]; exact this
  · rw [List.getElem?_append_right h1] at hi
    have h0 : i = ps.length := by have := (List.getElem?_eq_some_iff.1 hi).1; simp at this; omega
    subst h0
    rw [Nat.sub_self] at hi
    injection hi with hi; subst hi
    refine ⟨hok, S, c, hb, fun j v hj => ?_⟩
    rw [List.getElem?_append_right (by omega), ← hj]; congr 1; omega
set_option maxRecDepth 100000 in
theorem RowO.add {cs : List Value} {ps : List Pout} {p : Pout} (h : RowO cs ps) (hl : cs.length = ps.length * 33) (hok : p.ok) : RowO (cs ++ p.cells) (ps ++ [p]) := fun i q hi => by
  rcases Nat.lt_or_ge i ps.length with h1 | h1
  · rw [List.getElem?_append_left h1] at hi
    obtain ⟨k1, k3⟩ := h i q hi
    refine ⟨k1, fun j v hj => ?_⟩
    have := k3 j v hj
    rw [List.getElem?_append_left (List.getElem?_eq_some_iff.1 this).1]; exact this
  · rw [List.getElem?_append_right h1] at hi
    have h0 : i = ps.length := by have := (List.getElem?_eq_some_iff.1 hi).1; simp at this; omega
    subst h0
    rw [Nat.sub_self] at hi
    injection hi with hi; subst hi
    refine ⟨hok, fun j v hj => ?_⟩
    rw [List.getElem?_append_right (by omega), ← hj]; congr 1; omega
set_option maxRecDepth 100000 in
/-- A row whose last three cells, or last cell, are named. -/
theorem row35 {w : World} {x : Nat} {l : List Value} {a b c : Value} {t : TypeId} (h : w.heap[x]? = some (.cells (l ++ [a, b, c]).toArray t (0, 0))) (hl : l.length = 32) :
    (w.cell? ⟨x, 32, none⟩ = some a ∧ w.cell? ⟨x, 33, none⟩ = some b ∧ w.cell? ⟨x, 34, none⟩ = some c) ∧ (w.frozen? ⟨x, 32, none⟩ = false ∧ w.frozen? ⟨x, 33, none⟩ = false ∧ w.frozen? ⟨x, 34, none⟩ = false) := by
  refine ⟨⟨?_, ?_, ?_⟩, frozen_of_row w x 32 _ _ h, frozen_of_row w x 33 _ _ h, frozen_of_row w x 34 _ _ h⟩ <;> rw [cell_of_row _ _ _ _ _ _ h, List.getElem?_toArray, List.getElem?_append_right (by omega), hl] <;> rfl
set_option maxRecDepth 100000 in
theorem row33 {w : World} {x : Nat} {l : List Value} {a : Value} {t : TypeId} (h : w.heap[x]? = some (.cells (l ++ [a]).toArray t (0, 0))) (hl : l.length = 32) : w.cell? ⟨x, 32, none⟩ = some a ∧ w.frozen? ⟨x, 32, none⟩ = false := by
  refine ⟨?_, frozen_of_row w x 32 _ _ h⟩
  rw [cell_of_row _ _ _ _ _ _ h, List.getElem?_toArray, List.getElem?_append_right (by omega), hl]; rfl
set_option maxRecDepth 100000 in
theorem row35_set0 {w : World} {x : Nat} {l : List Value} {a b c u : Value} {t : TypeId} (h : w.heap[x]? = some (.cells (l ++ [a, b, c]).toArray t (0, 0))) (hl : l.length = 32) : (w.setCell ⟨x, 32, none⟩ u).heap[x]? = some (.cells (l ++ [u, b, c]).toArray t (0, 0)) := by
  rw [heap_setCell_same w x 32 _ _ _ h]; simp [hl]
set_option maxRecDepth 100000 in
theorem row35_set1 {w : World} {x : Nat} {l : List Value} {a b c u : Value} {t : TypeId} (h : w.heap[x]? = some (.cells (l ++ [a, b, c]).toArray t (0, 0))) (hl : l.length = 32) : (w.setCell ⟨x, 33, none⟩ u).heap[x]? = some (.cells (l ++ [a, u, c]).toArray t (0, 0)) := by
  rw [heap_setCell_same w x 33 _ _ _ h]; simp [hl]
set_option maxRecDepth 100000 in
theorem row35_set2 {w : World} {x : Nat} {l : List Value} {a b c u : Value} {t : TypeId} (h : w.heap[x]? = some (.cells (l ++ [a, b, c]).toArray t (0, 0))) (hl : l.length = 32) : (w.setCell ⟨x, 34, none⟩ u).heap[x]? = some (.cells (l ++ [a, b, u]).toArray t (0, 0)) := by
  rw [heap_setCell_same w x 34 _ _ _ h]; simp [hl]
set_option maxRecDepth 100000 in
theorem row33_set {w : World} {x : Nat} {l : List Value} {a u : Value} {t : TypeId} (h : w.heap[x]? = some (.cells (l ++ [a]).toArray t (0, 0))) (hl : l.length = 32) : (w.setCell ⟨x, 32, none⟩ u).heap[x]? = some (.cells (l ++ [u]).toArray t (0, 0)) := by
  rw [heap_setCell_same w x 32 _ _ _ h]; simp [hl]
/-- One input's errors, one after another. -/
def xE1 (l : List B8) : Nat := dE 0 l
def xE2 (l : List B8) : Nat := nE (xE1 l) 15 (l.drop 32)
def xE3 (l : List B8) : Nat := nE (xE2 l) topN (numR (l.drop 32))
def xE4 (l : List B8) : Nat := tE (xE3 l) 64 (numR (numR (l.drop 32)))
def xP (l : List B8) : Pin := ⟨dV (xE1 l) l, (((if xE2 l ≠ 0 then 0 else numV (l.drop 32)) : Nat) : Int), (if xE3 l ≠ 0 then 0 else numV (numR (l.drop 32))), tV (xE4 l) (numR (numR (l.drop 32)))⟩
set_option maxRecDepth 100000 in
theorem xE4_eq (l : List B8) : xE4 l = inE l := by
  unfold xE4 xE3 xE2 xE1 tE nE dE inE
  by_cases h1 : l.length < 32
  · simp [h1]
  · by_cases h2 : eNum 15 (l.drop 32) = 0
    · by_cases h3 : eNum topN (numR (l.drop 32)) = 0
      · simp [h1, h2, h3]
      · simp [h1, h2, h3]
    · simp [h1, h2]
set_option maxRecDepth 100000 in
theorem xE_zero {l : List B8} (h : xE4 l = 0) : xE1 l = 0 ∧ xE2 l = 0 ∧ xE3 l = 0 := by
  have h3 : xE3 l = 0 := by unfold xE4 tE at h; split at h <;> omega
  have h2 : xE2 l = 0 := by unfold xE3 nE at h3; split at h3 <;> omega
  have h1 : xE1 l = 0 := by unfold xE2 nE at h2; split at h2 <;> omega
  exact ⟨h1, h2, h3⟩
set_option maxRecDepth 100000 in
theorem xP_eq {l : List B8} (h : xE4 l = 0) : xP l = inV l := by
  obtain ⟨h1, h2, h3⟩ := xE_zero h
  unfold xP inV dV tV
  simp [h, h1, h2, h3]
set_option maxRecDepth 100000 in
theorem xP_ok (l : List B8) (hl : l.length ≤ 1099511627776) : (xP l).ok ∧ (xP l).d.length = 32 ∧ (if xE2 l ≠ 0 then 0 else numV (l.drop 32)) ≤ 15 := by
  have hx : (if xE2 l ≠ 0 then 0 else numV (l.drop 32)) ≤ 15 := by
    split
    · omega
    · rename_i h
      have h : xE2 l = 0 := by omega
      have h1 : xE1 l = 0 := by unfold xE2 nE at h; split at h <;> omega
      have h2 : eNum 15 (l.drop 32) = 0 := by unfold xE2 nE at h; rw [h1] at h; simpa using h
      exact (eNum_le h2).1
  have hd : (dV (xE1 l) l).length = 32 := dV_len _ _ (fun h => by unfold xE1 dE at h; simp at h; omega)
  have hn : (if xE3 l ≠ 0 then 0 else numV (numR (l.drop 32))) < 18446744073709551616 := by
    split
    · omega
    · rename_i h
      have h : xE3 l = 0 := by omega
      have h1 : xE2 l = 0 := by unfold xE3 nE at h; split at h <;> omega
      have h2 : eNum topN (numR (l.drop 32)) = 0 := by unfold xE3 nE at h; rw [h1] at h; simpa using h
      exact (eNum_le h2).2
  refine ⟨⟨hd, ?_, ?_, hn, ?_⟩, hd, hx⟩
  · show _ ≤ (((if xE2 l ≠ 0 then 0 else numV (l.drop 32)) : Nat) : Int); omega
  · show (((if xE2 l ≠ 0 then 0 else numV (l.drop 32)) : Nat) : Int) < _; omega
  · show (tV (xE4 l) (numR (numR (l.drop 32)))).length ≤ maxLen
    have h1 := tV_le (xE4 l) (numR (numR (l.drop 32)))
    have hn : ∀ x : List B8, (numR x).length ≤ x.length := fun x => by rw [numR_drop, List.length_drop]; omega
    have h2 := hn (numR (l.drop 32))
    have h3 := hn (l.drop 32)
    have h4 : (l.drop 32).length ≤ l.length := by rw [List.length_drop]; omega
    unfold maxLen; omega
def uE1 (l : List B8) : Nat := dE 0 l
def uE2 (l : List B8) : Nat := nE (uE1 l) topN (l.drop 32)
def uP (l : List B8) : Pout := ⟨dV (uE1 l) l, if uE2 l ≠ 0 then 0 else numV (l.drop 32)⟩
set_option maxRecDepth 100000 in
theorem uE2_eq (l : List B8) : uE2 l = ouE l := by
  unfold uE2 uE1 nE dE ouE
  by_cases h1 : l.length < 32
  · simp [h1]
  · simp [h1]
set_option maxRecDepth 100000 in
theorem uP_eq {l : List B8} (h : uE2 l = 0) : uP l = ouV l := by
  have h1 : uE1 l = 0 := by unfold uE2 nE at h; split at h <;> omega
  unfold uP ouV dV
  simp [h, h1]
set_option maxRecDepth 100000 in
theorem uP_ok (l : List B8) : (uP l).ok ∧ (uP l).d.length = 32 := by
  have hd : (dV (uE1 l) l).length = 32 := dV_len _ _ (fun h => by unfold uE1 dE at h; simp at h; omega)
  refine ⟨⟨hd, ?_⟩, hd⟩
  show (if uE2 l ≠ 0 then 0 else numV (l.drop 32)) < _
  split
  · omega
  · rename_i h
    have h : uE2 l = 0 := by omega
    have h1 : uE1 l = 0 := by unfold uE2 nE at h; split at h <;> omega
    have h2 : eNum topN (l.drop 32) = 0 := by unfold uE2 nE at h; rw [h1] at h; simpa using h
    exact (eNum_le h2).2
end Go.Proofs.Yteaoaabjdgdcmaa
