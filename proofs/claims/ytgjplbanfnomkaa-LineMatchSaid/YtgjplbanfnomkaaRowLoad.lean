/- A load of an array or struct of many cells, as ONE rule of the walk: the row is looked up whole ('rowOf'), not cell by cell. No function of the program is named here. -/
import Derived.Test.YtgjplbanfnomkaaByt
import Derived.Deep.MidRow
set_option linter.unusedVariables false
namespace Go.Proofs.Ytgjplbanfnomkaa
open Go.RowKit
open Classical in
/-- The n cells from offset o on in block b, if all are there. -/
noncomputable def rowOf (w : World) (b o n : Nat) : Option (Array Value) := if h : ∃ cs : List Value, cs.length = n ∧ w.rangeAt b o cs then some h.choose.toArray else none
set_option maxRecDepth 100000 in
theorem range_unique {w : World} {b o n : Nat} {cs cs' : List Value} (h : cs.length = n) (h' : cs'.length = n) (r : w.rangeAt b o cs) (r' : w.rangeAt b o cs') : cs = cs' := by
  apply List.ext_getElem?
  intro i
  by_cases hi : i < n
  · have e1 := r i _ (List.getElem?_eq_getElem (by omega))
    have e2 := r' i _ (List.getElem?_eq_getElem (by omega))
    rw [e1] at e2
    rw [List.getElem?_eq_getElem (by omega), List.getElem?_eq_getElem (by omega)]
    exact e2
  · rw [List.getElem?_eq_none (by omega), List.getElem?_eq_none (by omega)]
set_option maxRecDepth 100000 in
theorem rowOf_eq {w : World} {b o n : Nat} {cs : List Value} (h : cs.length = n) (r : w.rangeAt b o cs) : rowOf w b o n = some cs.toArray := by
  unfold rowOf
  have hx : ∃ cs : List Value, cs.length = n ∧ w.rangeAt b o cs := ⟨cs, h, r⟩
  rw [dif_pos hx]
  rw [range_unique hx.choose_spec.1 h hx.choose_spec.2 r]
set_option maxRecDepth 100000 in
theorem rowOf_some {w : World} {b o n : Nat} {C : Array Value} (h : rowOf w b o n = some C) : C.size = n ∧ w.rangeAt b o C.toList := by
  unfold rowOf at h
  split at h
  · rename_i hx
    injection h with h
    subst h
    exact ⟨by simp [hx.choose_spec.1], hx.choose_spec.2⟩
  · cases h
set_option maxRecDepth 100000 in
theorem rowOf_drew (w : World) (b o n : Nat) : rowOf w.drew b o n = rowOf w b o n := rfl
set_option maxRecDepth 100000 in
theorem rowOf_drewN (w : World) (k b o n : Nat) : rowOf (w.drewN k) b o n = rowOf w b o n := rfl
set_option maxRecDepth 100000 in
theorem rowOf_turn {S : Nat → Prop} {w w' : World} {b o n : Nat} {C : Array Value} (t : Turn S w w') (h : rowOf w b o n = some C) (hb : ¬ S b) : rowOf w' b o n = some C := by
  obtain ⟨hs, hr⟩ := rowOf_some h
  have := rowOf_eq (w := w') (b := b) (o := o) (n := n) (cs := C.toList) (by simpa using hs) (fun j v hj => t.cell (hr j v hj) hb)
  simpa using this
set_option maxRecDepth 100000 in
theorem rowOf_block {w : World} {b : Nat} {xs : List Value} {t : TypeId} {fr : Nat × Nat} (h : w.heap[b]? = some (.cells xs.toArray t fr)) (o n : Nat) (hn : o + n ≤ xs.length) : rowOf w b o n = some ((xs.drop o).take n).toArray := by
  refine rowOf_eq (by simp; omega) (fun j v hj => ?_)
  rw [cell_of_row w b _ _ _ _ h, List.getElem?_toArray]
  rw [List.getElem?_take] at hj
  split at hj
  · rw [List.getElem?_drop] at hj; exact hj
  · cases hj
/-- What a load does where the row is not there: it is not looked into. -/
def loadRest (P : Program) (ty : TypeId) (b o : Nat) (w : World) : Result Value := (Instr.loadAt ty (.pointer (some ⟨b, o, none⟩))).run P w
set_option maxRecDepth 100000 in
theorem load_row_rule (w : World) (b o : Nat) : (Instr.loadAt 90 (.pointer (some ⟨b, o, none⟩))).run Try.prog w = (match rowOf w b o 32 with | some C => .ok (.agg C) w | none => loadRest Try.prog 90 b o w) := by
  cases h : rowOf w b o 32 with
  | none => rfl
  | some C =>
    obtain ⟨hs, hr⟩ := rowOf_some h
    have := run_loadAt_mid w b o 90 C.toList _ hr Try.underlying90 rfl (by rw [Array.length_toList, hs]; kernel_rfl)
    simpa using this
/-- A load of an Id, behind a name that the walk does not open. -/
def idLoad (v : Value) : Sem Value := Instr.loadAt 90 v
set_option maxRecDepth 100000 in
theorem loadAt_id (v : Value) : Instr.loadAt 90 v = idLoad v := rfl
set_option maxRecDepth 100000 in
theorem run_idLoad (w : World) (b o : Nat) : (idLoad (.pointer (some ⟨b, o, none⟩))).run Try.prog w = (match rowOf w b o 32 with | some C => .ok (.agg C) w | none => loadRest Try.prog 90 b o w) := load_row_rule w b o
end Go.Proofs.Ytgjplbanfnomkaa
