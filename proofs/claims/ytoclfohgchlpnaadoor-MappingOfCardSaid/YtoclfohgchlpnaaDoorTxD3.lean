/- The contracts of the searches of 'Same', and of it. -/
import Derived.Test.YtoclfohgchlpnaaDoorTxD1
set_option linter.unusedVariables false
set_option linter.unusedSimpArgs false
namespace Go.Proofs.YtoclfohgchlpnaaDoor
open Go.RowKit
attribute [local go_sem ↓] loadAt_out
attribute [local go_sem] rowOf_drew rowOf_drewN run_outLoad
set_option maxRecDepth 100000 in
theorem Pin.whole {w : World} {g : Nat} {p : Pin} {S : Option Addr} {c : Nat} {t : TypeId} {fr : Nat × Nat} (h : w.heap[g]? = some (.cells (p.cells S c).toArray t fr)) : w.rangeAt g 0 (p.cells S c) := fun j v hj => by
  rw [cell_of_row w g _ _ _ _ h, List.getElem?_toArray, Nat.zero_add]; exact hj
set_option maxRecDepth 100000 in
theorem same_eq (s t : Ptx) : sameB s t = (decide (s.ins = t.ins) && (decide (s.outs = t.outs) && (((s.fee : Int) == (t.fee : Int)) && (s.exp == t.exp)))) := by
  rw [Bool.eq_iff_iff]
  simp only [sameB, Bool.and_eq_true, decide_eq_true_eq, beq_iff_eq]
  constructor
  · rintro rfl; exact ⟨rfl, rfl, rfl, rfl⟩
  · rintro ⟨h1, h2, h3, h4⟩; cases s; cases t; simp_all; omega
end Go.Proofs.YtoclfohgchlpnaaDoor
