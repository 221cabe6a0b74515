/- The contracts of both Alls, and of the document's example. -/
import Derived.Test.YtmkpoodhhpfgpaaSumsWalks
import Derived.Test.YtmkpoodhhpfgpaaKit
import Derived.LoopTactic
import Derived.Below
import Derived.Deep.QuietTactic
import Derived.BigQuiet
import Derived.OwnWalk
namespace Go.Proofs.Ytmkpoodhhpfgpaa
open Go.RowKit

def allV (s : Nat) : List Nat → Nat × Nat
  | [] => (s, 0)
  | a :: l => if s + a ≤ M then allV (s + a) l else (0, 6)
set_option maxRecDepth 100000 in
theorem allV_yes (s : Nat) (l : List Nat) (k : Nat) (h : k < l.length) (hs : s + l[k] ≤ M) : allV (s + l[k]) (l.drop (k + 1)) = allV s (l.drop k) := by
  rw [List.drop_eq_getElem_cons h]; simp [allV, hs]
set_option maxRecDepth 100000 in
theorem allV_no (s : Nat) (l : List Nat) (k : Nat) (h : k < l.length) (hs : ¬ s + l[k] ≤ M) : allV s (l.drop k) = (0, 6) := by
  rw [List.drop_eq_getElem_cons h]; simp [allV, hs]
set_option maxRecDepth 100000 in
theorem allV_end (s : Nat) (l : List Nat) : allV s (l.drop l.length) = (s, 0) := by simp [allV]

end Go.Proofs.Ytmkpoodhhpfgpaa
