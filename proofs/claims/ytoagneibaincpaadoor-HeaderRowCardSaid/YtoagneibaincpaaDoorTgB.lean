/- The contract of the code's 'turned'. -/
import Derived.Test.YtoagneibaincpaaDoorTgA
set_option linter.unusedVariables false
namespace Go.Proofs.YtoagneibaincpaaDoor
open Go.RowKit
def mixT (x : B8) (l : List B8) (k : Nat) : List B8 := (l.take k).map (· ^^^ x) ++ l.drop k
set_option maxRecDepth 100000 in
theorem mixT_len (x : B8) (l : List B8) (k : Nat) : (mixT x l k).length = l.length := by simp [mixT]; omega
set_option maxRecDepth 100000 in
theorem mixT_zero (x : B8) (l : List B8) : mixT x l 0 = l := by simp [mixT]
set_option maxRecDepth 100000 in
theorem mixT_end (x : B8) (l : List B8) (k : Nat) (h : l.length ≤ k) : mixT x l k = turnK x l := by unfold mixT turnK; rw [List.take_of_length_le h, List.drop_eq_nil_of_le h, List.append_nil]
set_option maxRecDepth 100000 in
theorem mixT_at (x : B8) (l : List B8) (k : Nat) (h : k < l.length) : (mixT x l k)[k]? = some l[k] := by
  unfold mixT
  rw [List.getElem?_append_right (by simp; omega), List.length_map, List.length_take, Nat.min_eq_left (by omega), Nat.sub_self, List.getElem?_drop, Nat.add_zero, List.getElem?_eq_getElem h]
set_option maxRecDepth 100000 in
theorem mixT_set (x : B8) (l : List B8) (k : Nat) (h : k < l.length) : ((mixT x l k).map bv).toArray.setIfInBounds k (bv (l[k] ^^^ x)) = ((mixT x l (k + 1)).map bv).toArray := by
  have e : (mixT x l k).set k (l[k] ^^^ x) = mixT x l (k + 1) := by
    unfold mixT
    rw [List.set_append_right _ _ (by rw [List.length_map, List.length_take]; exact Nat.min_le_left _ _), List.length_map, List.length_take, Nat.min_eq_left (by omega), Nat.sub_self, List.drop_eq_getElem_cons h, List.set_cons_zero, List.take_succ_eq_append_getElem h, List.map_append]
    simp
  rw [← e, List.setIfInBounds_toArray, List.map_set]
end Go.Proofs.YtoagneibaincpaaDoor
