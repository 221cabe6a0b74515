/- The contract of the code's 'Of': the tag of bytes under a key. -/
import Derived.Test.YtoagneibaincpaaDoorTgB
import Derived.Test.YtoagneibaincpaaDoorPair
import Derived.Test.YtoagneibaincpaaDoorCls
set_option linter.unusedVariables false
namespace Go.Proofs.YtoagneibaincpaaDoor
open Go.RowKit
set_option maxRecDepth 100000 in
theorem range_row {w : World} {g : Nat} {cs : List Value} {t : TypeId} {fr : Nat × Nat} (h : w.heap[g]? = some (.cells cs.toArray t fr)) : w.rangeAt g 0 cs := fun j v hj => by
  rw [Nat.zero_add, cell_of_row w g j _ _ _ h, List.getElem?_toArray]; exact hj
/-- A block that was made from B on, and its address. -/
def PtrZ (B : Nat) (C : Array Value) (t : TypeId) (v : Value) (w : World) : Prop := ∃ g, B ≤ g ∧ v = .pointer (some ⟨g, 0, none⟩) ∧ w.heap[g]? = some (.cells C t (0, 0))
set_option maxRecDepth 100000 in
theorem PtrZ.stable {B : Nat} {C : Array Value} {t : TypeId} (v : Value) (w w' : World) (h : PtrZ B C t v w) (hs : Stp w w') : PtrZ B C t v w' := by
  obtain ⟨g, hB, e, hg⟩ := h
  exact ⟨g, hB, e, heap_below hs hg⟩
set_option maxRecDepth 100000 in
theorem PtrZ.pt {B : Nat} {C : Array Value} {t : TypeId} (v : Value) (w : World) (h : PtrZ B C t v w) : Pt v w := by
  obtain ⟨g, hB, e, hg⟩ := h
  exact ⟨g, lt_of_block hg, e⟩
set_option maxRecDepth 100000 in
theorem does_ptr {P : Program} {o : Oper} {a : Act} {w : World} {B : Nat} (C : Array Value) (t : TypeId) (d : Tmp) (hd : o.dst = some d) (hB : B ≤ w.heap.size) (hr : ∀ w, (execOp a.eval o).run P w = .ok (.value (.pointer (some ⟨w.heap.size, 0, none⟩))) (w.alloc (.cells C t))) :
    doesR P o a w (fun u w' => PtrZ B C t (retV o u) w' ∧ Stp w w') := by
  refine does_run (hr w) ⟨?_, (Below.refl _ _).alloc (Nat.le_refl _) _⟩
  have e : ∀ u, retV o u = u := fun u => by unfold retV; rw [hd]
  rw [e]
  exact ⟨w.heap.size, hB, rfl, heap_alloc_new w _⟩
set_option maxRecDepth 100000 in
theorem lst_two {w : World} {g : Nat} {A A' : Option Addr} {c c' : Nat} {xs ys : List B8} {n n' : Nat} (hn : n = xs.length) (hn' : n' = ys.length) {t : TypeId} (h : w.heap[g]? = some (.cells #[.slice A n c, .slice A' n' c'] t (0, 0))) (hc : xs.length ≤ c) (hc' : ys.length ≤ c') (hx : Bts w A xs) (hy : Bts w A' ys) : Lst w (some ⟨g, 0, none⟩) [xs, ys] := fun i zs hi => by
  subst hn hn'
  match i, hi with
  | 0, hi =>
    obtain rfl : xs = zs := by simpa using hi
    exact ⟨_, A, c, rfl, by rw [add_row, cell_of_row _ _ _ _ _ _ h]; rfl, hc, hx⟩
  | 1, hi =>
    obtain rfl : ys = zs := by simpa using hi
    exact ⟨_, A', c', rfl, by rw [add_row, cell_of_row _ _ _ _ _ _ h]; rfl, hc', hy⟩
end Go.Proofs.YtoagneibaincpaaDoor
