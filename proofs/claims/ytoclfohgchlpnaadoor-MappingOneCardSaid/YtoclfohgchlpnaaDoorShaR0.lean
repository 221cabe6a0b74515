/- The contracts of the document's small functions: Pick, First, Rounds. -/
import Derived.Test.YtoclfohgchlpnaaDoorShaEq
namespace Go.Proofs.YtoclfohgchlpnaaDoor
open Go.RowKit

/-- Words that lie in a slice. -/
def Wds (w : World) (A : Option Addr) (xs : List W) : Prop := ∀ (j : Nat) (u : Value), (xs.map wv)[j]? = some u → ∃ ad, A = some ad ∧ w.cell? (ad.add j) = some u
set_option maxRecDepth 100000 in
theorem Wds.below {w w' : World} {A : Option Addr} {xs : List W} (h : Wds w A xs) (hb : Below w.heap.size w w') : Wds w' A xs := fun j u hu => by
  obtain ⟨ad, e, hc⟩ := h j u hu
  exact ⟨ad, e, (hb.cell (World.block_lt_of_cell? w _ hc)).trans hc⟩
set_option maxRecDepth 100000 in
theorem wds_new (w : World) (xs : List W) (t : TypeId) : Wds (w.alloc (.cells (xs.map wv).toArray t)) (some ⟨w.heap.size, 0, none⟩) xs := fun j u hu => by
  refine ⟨_, rfl, ?_⟩
  have e : (⟨w.heap.size, 0, none⟩ : Addr).add j = ⟨w.heap.size, j, none⟩ := by unfold Addr.add; by_cases hj : j = 0 <;> simp [hj]
  rw [e, cell_of_row _ _ j _ _ _ (heap_alloc_new w _), List.getElem?_toArray]; exact hu
set_option maxRecDepth 100000 in
theorem first_any (w : World) : Calls Tryd.prog 36 #[] w fun e w' => e = .returned (.slice (some ⟨w.heap.size, 0, none⟩) 8 8) ∧ w' = w.alloc (.cells (H8.list.map wv).toArray 68) := by
  go_enter Tryd.func36, Tryd.ntmps36
  go_wp2_with fail
  go_ret
  exact ⟨rfl, rfl⟩
set_option maxRecDepth 100000 in
theorem rounds_any (w : World) : Calls Tryd.prog 37 #[] w fun e w' => e = .returned (.slice (some ⟨w.heap.size, 0, none⟩) 64 64) ∧ w' = w.alloc (.cells (K64.map wv).toArray 68) := by
  go_enter Tryd.func37, Tryd.ntmps37
  go_wp2_with fail
  go_ret
  exact ⟨rfl, rfl⟩
end Go.Proofs.YtoclfohgchlpnaaDoor
