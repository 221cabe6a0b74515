/- The contracts of the statements' own small reader 'one', and of the document's example. -/
import Derived.Test.YtmkpoodhhpfgpaaFldH
import Derived.Test.YtmkpoodhhpfgpaaFldJ
set_option linter.unusedVariables false
namespace Go.Proofs.Ytmkpoodhhpfgpaa
open Go.RowKit
set_option maxRecDepth 100000 in
theorem eNum_top (l : List B8) : eNum 18446744073709551615 l = numE l := by
  unfold eNum
  by_cases h : numE l ≠ 0
  · rw [if_pos h]
  · rw [if_neg h, if_neg (by have := numV_lt l (by omega); omega)]; omega
set_option maxRecDepth 100000 in
theorem numB_300 : numB 300 = [2, 1, 44] := numB_valB [1, 44] (by rintro x r ⟨⟩; decide) (by decide)
set_option maxRecDepth 100000 in
theorem numB_0 : numB 0 = [0] := by simp [numB, klen_zero, beN]
set_option maxRecDepth 100000 in
theorem rbytes_at (A A' : Option Addr) (c c' n n' : Nat) (B B' : Nat) (xs ys : List B8) (w : World) (hx : Sl w B A (xs.map bv)) (hy : Sl w B' A' (ys.map bv)) (hn : xs.length = n) (hn' : ys.length = n') (hlx : n ≤ maxLen) (hly : n' ≤ maxLen) :
    Calls Try.prog 23 #[.slice A n c, .slice A' n' c'] w fun e w' => e = .returned (.bool (decide (xs = ys))) ∧ ∃ n, w' = w.drewN n := by
  subst hn hn'; exact rbytes_any A A' c c' B B' xs ys w hx hy hlx hly
set_option maxRecDepth 100000 in
theorem sl_block {w : World} {b : Nat} {cs : List Value} {t : TypeId} (h : w.heap[b]? = some (.cells cs.toArray t (0, 0))) : Sl w w.heap.size (some ⟨b, 0, none⟩) cs := fun j u hu => by
  refine ⟨_, rfl, lt_of_block h, ?_⟩
  rw [show (⟨b, 0, none⟩ : Addr).add j = ⟨b, j, none⟩ by unfold Addr.add; by_cases hj : j = 0 <;> simp [hj], cell_of_row w b j _ _ _ h, List.getElem?_toArray]; exact hu
end Go.Proofs.Ytmkpoodhhpfgpaa
