/- Merged: 'ShaUnder': its walk. A load of an array or struct of many cells, as ONE rule of the walk: the row is looked up whole ('rowOf'), not cell by cell. No function of the program is named here. -/
import Derived.Test.YtajdcekkmikbcaaDoorM08
import Derived.Test.YtajdcekkmikbcaaDoorM04
import Derived.Deep.MidRow
namespace Go.Proofs.YtajdcekkmikbcaaDoor
section
set_option linter.unusedVariables false
open Go.RowKit Go.ChangeShapes Go.WideShapes Go.ChangeAt
/-- Lists of bytes that lie in a slice. -/
def LstN (w : World) (A : Option Addr) (ls : List (List B8)) : Prop := ∀ (i : Nat) (xs : List B8), ls[i]? = some xs → ∃ ad Ai ci, A = some ad ∧ w.cell? (ad.add i) = some (.slice Ai xs.length ci) ∧ xs.length ≤ ci ∧ (Ai = none → ci = 0) ∧ Bts w Ai xs
set_option maxRecDepth 100000 in
theorem LstN.lst {w : World} {A : Option Addr} {ls : List (List B8)} (h : LstN w A ls) : Lst w A ls := fun i xs hi => by
  obtain ⟨ad, Ai, ci, h1, h2, h3, -, h5⟩ := h i xs hi
  exact ⟨ad, Ai, ci, h1, h2, h3, h5⟩
set_option maxRecDepth 100000 in
theorem LstN.below {w w' : World} {A : Option Addr} {ls : List (List B8)} (h : LstN w A ls) (hb : Below w.heap.size w w') : LstN w' A ls := fun i xs hi => by
  obtain ⟨ad, Ai, ci, h1, h2, h3, h4, h5⟩ := h i xs hi
  exact ⟨ad, Ai, ci, h1, (hb.cell (World.block_lt_of_cell? w _ h2)).trans h2, h3, h4, h5.below hb⟩
section
variable {H : Type} {enc : TypeId × Value → H} {W : World} {fuel : Nat} {x : DataW H × List MemPlace}
end
set_option maxRecDepth 100000 in
theorem own_cap {w : World} {B : Nat} {e : TypeId} {s n cap : Nat} {A : Option Addr} {xs : List Value} (h : w.ownsRow B e s (.slice A n cap) n xs) : n ≤ cap := by
  rcases h.2 with ⟨e, -⟩ | ⟨g, cap', cur, e, -, -, hle, -⟩
  · injection e with _ e1 e2; omega
  · injection e with _ e1 e2; omega
set_option maxRecDepth 100000 in
theorem long_len (b : List B8) : (longB b).length = 4 + b.length := by simp [longB, wb_len]
end
section
set_option linter.unusedVariables false
open Go.RowKit
open Classical in
/-- The n cells from offset o on in block b, if all are there. -/
noncomputable def rowOf (w : World) (b o n : Nat) : Option (Array Value) := if h : ∃ cs : List Value, cs.length = n ∧ w.rangeAt b o cs then some h.choose.toArray else none
set_option maxRecDepth 100000 in
theorem range_unique {w : World} {b o n : Nat} {cs cs' : List Value} (h : cs.length = n) (h' : cs'.length = n) (r : w.rangeAt b o cs) (r' : w.rangeAt b o cs') : cs = cs' := by
  apply List.ext_getElem?
  intro i
  by_cases hi : i < n
  · have e1 := r i _ (List.getElem?_eq_getElem (by omega))
    have e2 := r' i _ (List.getElem?_eq_getElem (by omega))
    rw [e1] at e2
    rw [List.getElem?_eq_getElem (by omega), List.getElem?_eq_getElem (by omega)]
    exact e2
  · rw [List.getElem?_eq_none (by omega), List.getElem?_eq_none (by omega)]
set_option maxRecDepth 100000 in
theorem rowOf_eq {w : World} {b o n : Nat} {cs : List Value} (h : cs.length = n) (r : w.rangeAt b o cs) : rowOf w b o n = some cs.toArray := by
  unfold rowOf
  have hx : ∃ cs : List Value, cs.length = n ∧ w.rangeAt b o cs := ⟨cs, h, r⟩
  rw [dif_pos hx]
  rw [range_unique hx.choose_spec.1 h hx.choose_spec.2 r]
set_option maxRecDepth 100000 in
theorem rowOf_some {w : World} {b o n : Nat} {C : Array Value} (h : rowOf w b o n = some C) : C.size = n ∧ w.rangeAt b o C.toList := by
  unfold rowOf at h
  split at h
  · rename_i hx
    injection h with h
    subst h
    exact ⟨by simp [hx.choose_spec.1], hx.choose_spec.2⟩
  · cases h
set_option maxRecDepth 100000 in
theorem rowOf_drew (w : World) (b o n : Nat) : rowOf w.drew b o n = rowOf w b o n := rfl
set_option maxRecDepth 100000 in
theorem rowOf_drewN (w : World) (k b o n : Nat) : rowOf (w.drewN k) b o n = rowOf w b o n := rfl
set_option maxRecDepth 100000 in
theorem rowOf_block {w : World} {b : Nat} {xs : List Value} {t : TypeId} {fr : Nat × Nat} (h : w.heap[b]? = some (.cells xs.toArray t fr)) (o n : Nat) (hn : o + n ≤ xs.length) : rowOf w b o n = some ((xs.drop o).take n).toArray := by
  refine rowOf_eq (by simp; omega) (fun j v hj => ?_)
  rw [cell_of_row w b _ _ _ _ h, List.getElem?_toArray]
  rw [List.getElem?_take] at hj
  split at hj
  · rw [List.getElem?_drop] at hj; exact hj
  · cases hj
/-- What a load does where the row is not there: it is not looked into. -/
def loadRest (P : Program) (ty : TypeId) (b o : Nat) (w : World) : Result Value := (Instr.loadAt ty (.pointer (some ⟨b, o, none⟩))).run P w
end
end Go.Proofs.YtajdcekkmikbcaaDoor
