/- Merged: The contracts of 'kind' and of the document's 'Num' and 'Put'. -/
import Derived.Test.YtajdcekkmikbcaaDoorM11
import Derived.Test.YtajdcekkmikbcaaDoorM10
import Derived.Test.YtajdcekkmikbcaaDoorM12
import Derived.Test.YtajdcekkmikbcaaDoorM01
import Derived.Stop.BytesEq
import Derived.Test.YtajdcekkmikbcaaDoorM05
import Derived.Test.YtajdcekkmikbcaaDoorM03
import Derived.Test.YtajdcekkmikbcaaDoorM00
import Derived.LoopTactic
import Derived.Below
import Derived.Deep.QuietTactic
import Derived.BigQuiet
import Derived.OwnWalk
import Derived.Deep.MidRow
import Derived.Deep.WholeRow
import Derived.Outline
namespace Go.Proofs.YtajdcekkmikbcaaDoor
section
set_option linter.unusedVariables false
open Go.RowKit
theorem Fd.one (f : Fd) : f.cells.toArray.all (·.oneCell') = true := by
  rw [Array.all_eq_true_iff_forall_mem]
  intro u hu
  simp only [Fd.cells, List.mem_toArray, List.mem_append, List.mem_cons, List.not_mem_nil, or_false, List.mem_map] at hu
  rcases hu with (rfl | rfl | rfl) | ⟨x, -, rfl⟩ <;> rfl
theorem zero_field (w : World) : (zeroValue 117).run Tryd.prog w = .ok (.agg (Fd.cells ⟨0, 0, none, 0, [], zeros 32⟩).toArray) w := by kernel_rfl
def Z35 : Array Value := (Fd.cells ⟨0, 0, none, 0, [], zeros 32⟩).toArray
theorem beN_cons (q n : Nat) : beN (q + 1) n = BitVec.ofNat 8 (n / 256 ^ q) :: beN q n := rfl
theorem byte_int (n q : Nat) : IntKind.u8.wrap ((n : Int) / 2 ^ (8 * q)) = ((BitVec.ofNat 8 (n / 256 ^ q)).toNat : Int) := by
  rw [IntKind.wrap_u8, BitVec.toNat_ofNat, show (2 : Int) ^ (8 * q) = ((256 ^ q : Nat) : Int) by rw [Int.natCast_pow, Int.pow_mul]; rfl]
  omega
end
end Go.Proofs.YtajdcekkmikbcaaDoor
