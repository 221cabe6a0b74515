/- What the fields of a record of 37 cells become. -/
import Derived.Test.YtmkpoodhhpfgpaaFrA
import Derived.KernelRfl
set_option linter.unusedVariables false
namespace Go.Proofs.Ytmkpoodhhpfgpaa
open Go.RowKit
set_option maxRecDepth 100000 in
theorem fold_num (V : Nat) : Array.foldl (fun (cs : Array Value) (x : Value × Nat) => cs.setIfInBounds x.snd x.fst) Z37 (Z35.setIfInBounds 1 (.int .u64 (V : Int))).zipIdx 0 35 = (Gt.cells ⟨⟨0, V, none, 0, [], zeros 32⟩, 0, none, 0, []⟩).toArray := by
  kernel_rfl
set_option maxRecDepth 100000 in
theorem fold_text (A : Option Addr) (n c : Nat) : Array.foldl (fun (cs : Array Value) (x : Value × Nat) => cs.setIfInBounds x.snd x.fst) Z37 ((Z35.setIfInBounds 0 (.int .i64 1)).setIfInBounds 2 (.slice A n c)).zipIdx 0 35 = (([.int .i64 1, .int .u64 0, .slice A n c] ++ (zeros 32).map bv ++ [.int .i64 0, .slice none 0 0] : List Value)).toArray := by
  kernel_rfl
set_option maxRecDepth 100000 in
theorem fold_id : Array.foldl (fun (cs : Array Value) (x : Value × Nat) => cs.setIfInBounds x.snd x.fst) Z37 (Z35.setIfInBounds 0 (.int .i64 2)).zipIdx 0 35 = (([.int .i64 2, .int .u64 0, .slice none 0 0] ++ (zeros 32).map bv ++ [.int .i64 0, .slice none 0 0] : List Value)).toArray := by
  kernel_rfl
set_option maxRecDepth 100000 in
theorem fold_end (x : List Value) (h : x.length = 35) (A : Option Addr) (n c : Nat) : (x ++ [Value.int .i64 0, Value.slice none 0 0]).toArray.setIfInBounds 36 (.slice A n c) = (x ++ [Value.int .i64 0, Value.slice A n c]).toArray := by
  simp [h]
end Go.Proofs.Ytmkpoodhhpfgpaa
