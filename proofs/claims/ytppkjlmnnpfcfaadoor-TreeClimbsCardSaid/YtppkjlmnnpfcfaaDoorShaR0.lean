/- The contracts of the document's small functions: Pick, First, Rounds. -/
import Derived.Test.YtppkjlmnnpfcfaaDoorShaEq
namespace Go.Proofs.YtppkjlmnnpfcfaaDoor
open Go.RowKit

/-- Words that lie in a slice. -/
def Wds (w : World) (A : Option Addr) (xs : List W) : Prop := ∀ (j : Nat) (u : Value), (xs.map wv)[j]? = some u → ∃ ad, A = some ad ∧ w.cell? (ad.add j) = some u
theorem Wds.below {w w' : World} {A : Option Addr} {xs : List W} (h : Wds w A xs) (hb : Below w.heap.size w w') : Wds w' A xs := fun j u hu => by
  obtain ⟨ad, e, hc⟩ := h j u hu
  exact ⟨ad, e, (hb.cell (World.block_lt_of_cell? w _ hc)).trans hc⟩
theorem wds_new (w : World) (xs : List W) (t : TypeId) : Wds (w.alloc (.cells (xs.map wv).toArray t)) (some ⟨w.heap.size, 0, none⟩) xs := fun j u hu => by
  refine ⟨_, rfl, ?_⟩
  have e : (⟨w.heap.size, 0, none⟩ : Addr).add j = ⟨w.heap.size, j, none⟩ := by unfold Addr.add; by_cases hj : j = 0 <;> simp [hj]
  rw [e, cell_of_row _ _ j _ _ _ (heap_alloc_new w _), List.getElem?_toArray]; exact hu
theorem first_any (w : World) : Calls Tryd.prog 36 #[] w fun e w' => e = .returned (.slice (some ⟨w.heap.size, 0, none⟩) 8 8) ∧ w' = w.alloc (.cells (H8.list.map wv).toArray 49) := by
  go_enter Tryd.func36, Tryd.ntmps36
  go_wp2_with fail
  go_ret
  exact ⟨rfl, rfl⟩
set_option maxRecDepth 100000 in
theorem rounds_any (w : World) : Calls Tryd.prog 37 #[] w fun e w' => e = .returned (.slice (some ⟨w.heap.size, 0, none⟩) 64 64) ∧ w' = w.alloc (.cells (K64.map wv).toArray 49) := by
  go_enter Tryd.func37, Tryd.ntmps37
  go_wp2_with fail
  go_ret
  exact ⟨rfl, rfl⟩
theorem pick_any (x : Int) (n : Nat) (w : World) (h1 : 1 ≤ n) (h2 : n ≤ 1099511627776) :
    Calls Tryd.prog 18 #[.int .i64 x, .int .i64 (n : Int)] w fun e w' => (∃ k : Nat, k < n ∧ e = .returned (.int .i64 (k : Int))) ∧ w' = w := by
  have b1 : -(n : Int) < x.tmod n := Int.lt_tmod_of_pos x (by omega)
  have b2 : x.tmod n < (n : Int) := Int.tmod_lt_of_pos x (by omega)
  have hn : ¬ (n : Int) < 1 := by omega
  obtain ⟨r, hr⟩ : ∃ r, r = x.tmod n := ⟨_, rfl⟩
  rw [← hr] at b1 b2
  have hr2 := hr.symm
  have HR := Lib.hid hr
  clear hr
  by_cases h0 : r < 0
  · go_enter Tryd.func18, Tryd.ntmps18
    go_wp2
    go_ret
    refine ⟨⟨(r + n).toNat, by omega, ?_⟩, rfl⟩
    show Ending.returned (Value.int .i64 (r + (n : Int))) = _
    rw [Int.toNat_of_nonneg (by omega)]
  · go_enter Tryd.func18, Tryd.ntmps18
    go_wp2
    go_ret
    refine ⟨⟨r.toNat, by omega, ?_⟩, rfl⟩
    show Ending.returned (Value.int .i64 r) = _
    rw [Int.toNat_of_nonneg (by omega)]
end Go.Proofs.YtppkjlmnnpfcfaaDoor
