/- The contracts of 'kind' and of the document's 'Num' and 'Put'. -/
import Derived.Test.YtmkpoodhhpfgpaaFwA
set_option linter.unusedVariables false
namespace Go.Proofs.Ytmkpoodhhpfgpaa
open Go.RowKit
def Fd.kd (f : Fd) : Fd := { f with k := f.k % 3 }
set_option maxRecDepth 100000 in
theorem Fd.kd_cells (f : Fd) : (f.cells.toArray).setIfInBounds 0 (.int .i64 (f.k % 3)) = f.kd.cells.toArray := by
  simp [Fd.cells, Fd.kd]
set_option maxRecDepth 100000 in
theorem Fd.one (f : Fd) : f.cells.toArray.all (·.oneCell') = true := by
  rw [Array.all_eq_true_iff_forall_mem]
  intro u hu
  simp only [Fd.cells, List.mem_toArray, List.mem_append, List.mem_cons, List.not_mem_nil, or_false, List.mem_map] at hu
  rcases hu with (rfl | rfl | rfl) | ⟨x, -, rfl⟩ <;> rfl
set_option maxRecDepth 100000 in
theorem zero_field (w : World) : (zeroValue 74).run Try.prog w = .ok (.agg (Fd.cells ⟨0, 0, none, 0, [], zeros 32⟩).toArray) w := by kernel_rfl
def Z35 : Array Value := (Fd.cells ⟨0, 0, none, 0, [], zeros 32⟩).toArray
set_option maxRecDepth 100000 in
theorem beN_cons (q n : Nat) : beN (q + 1) n = BitVec.ofNat 8 (n / 256 ^ q) :: beN q n := rfl
set_option maxRecDepth 100000 in
theorem byte_int (n q : Nat) : IntKind.u8.wrap ((n : Int) / 2 ^ (8 * q)) = ((BitVec.ofNat 8 (n / 256 ^ q)).toNat : Int) := by
  rw [IntKind.wrap_u8, BitVec.toNat_ofNat, show (2 : Int) ^ (8 * q) = ((256 ^ q : Nat) : Int) by rw [Int.natCast_pow, Int.pow_mul]; rfl]
  omega
end Go.Proofs.Ytmkpoodhhpfgpaa
