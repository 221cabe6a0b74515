/- The document's eye of letters: a number, a text, or the first error kept. -/
import Derived.Test.YtgjplbanfnomkaaLtP
import Derived.Laws.ResultCell
import Derived.Laws.Rows
import Derived.Laws.Tables
set_option linter.unusedVariables false
set_option linter.unusedSimpArgs false
namespace Go.Proofs.Ytgjplbanfnomkaa
open Go.RowKit
set_option maxRecDepth 100000 in
theorem ys_row {w : World} {y : Nat} {a b : Value} {t : TypeId} (h : w.heap[y]? = some (.cells #[a, b] t (0, 0))) :
    (w.cell? ⟨y, 0, none⟩ = some a ∧ w.cell? ⟨y, 1, none⟩ = some b) ∧ (w.frozen? ⟨y, 0, none⟩ = false ∧ w.frozen? ⟨y, 1, none⟩ = false) := by
  refine ⟨⟨?_, ?_⟩, frozen_of_row w y 0 _ _ h, frozen_of_row w y 1 _ _ h⟩ <;> rw [cell_of_row _ _ _ _ _ _ h] <;> rfl
set_option maxRecDepth 100000 in
theorem ys_set {w : World} {y : Nat} {a b a' b' : Value} {t : TypeId} (h : w.heap[y]? = some (.cells #[a, b] t (0, 0))) : ((w.setCell ⟨y, 0, none⟩ a').setCell ⟨y, 1, none⟩ b').heap[y]? = some (.cells #[a', b'] t (0, 0)) ∧ Turn (fun i => i = y) w ((w.setCell ⟨y, 0, none⟩ a').setCell ⟨y, 1, none⟩ b') := by
  refine ⟨?_, (set_turn w y 0 a').trans (set_turn _ y 1 b') (fun _ _ h => h)⟩
  have h1 : (w.setCell ⟨y, 0, none⟩ a').heap[y]? = some (.cells #[a', b] t (0, 0)) := by rw [heap_setCell_same w y 0 _ _ _ h]; rfl
  rw [heap_setCell_same _ y 1 _ _ _ h1]; rfl
set_option maxRecDepth 100000 in
theorem FL_eqI (k : Int) (m : Nat) : (Fd.cells ⟨k, m, none, 0, [], zeros 32⟩).toArray = FL k m := rfl
set_option maxRecDepth 100000 in
theorem got_info : (Try.prog.info? 94).map (·.size) = some 37 := by kernel_rfl
set_option maxRecDepth 100000 in
theorem nE_val {e m : Nat} {l : List B8} (h : nE e m l = 0) : numV l ≤ m := by
  unfold nE eNum at h
  split at h
  · omega
  · split at h
    · omega
    · split at h <;> omega
def tV (e : Nat) (l : List B8) : List B8 := if e ≠ 0 then [] else (numR l).take (numV l)
set_option maxRecDepth 100000 in
theorem tV_le (e : Nat) (l : List B8) : (tV e l).length ≤ l.length := by
  unfold tV
  split
  · simp
  · have := numR_drop l; rw [this]; simp; omega
end Go.Proofs.Ytgjplbanfnomkaa
