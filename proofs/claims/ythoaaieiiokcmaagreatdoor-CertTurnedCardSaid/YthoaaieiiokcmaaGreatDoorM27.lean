/- Merged: The document's 'Put' of certificates. -/
import Derived.Test.YthoaaieiiokcmaaGreatDoorM23
namespace Go.Proofs.YthoaaieiiokcmaaGreatDoor
section
set_option linter.unusedVariables false
set_option linter.unusedSimpArgs false
open Go.RowKit
attribute [local go_sem ↓] loadAt_cr loadAt_hd loadAt_en loadAt_id
attribute [local go_sem] run_crLoad run_hdLoad run_enLoad run_idLoad rowOf_drew rowOf_drewN
/-- A certificate's form. -/
def formC (x : Crt) : List B8 := numB (pE x.e).length ++ (pE x.e ++ (numB x.ids.length ++ (x.ids.flatten ++ (numB (pH x.h).length ++ (pH x.h ++ x.t)))))
theorem flat32_take (ids : List (List B8)) (k : Nat) (d : List B8) (h : ids[k]? = some d) : (ids.take (k + 1)).flatten = (ids.take k).flatten ++ d := by
  rw [List.take_add_one, h]; simp
theorem flat32_len (ids : List (List B8)) (h : ∀ d ∈ ids, d.length = 32) : ∀ k, k ≤ ids.length → ((ids.take k).flatten).length = k * 32 := by
  intro k hk
  induction k with
  | zero => simp
  | succ k ih =>
    have hd : ids[k]? = some ids[k] := List.getElem?_eq_getElem (by omega)
    rw [flat32_take ids k _ hd, List.length_append, ih (by omega), h _ (List.getElem_mem _)]; omega
end
end Go.Proofs.YthoaaieiiokcmaaGreatDoor
