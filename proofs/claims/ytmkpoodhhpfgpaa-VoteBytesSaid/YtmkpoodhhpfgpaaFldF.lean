/- The contract of the eye's 'Id'. -/
import Derived.Test.YtmkpoodhhpfgpaaFldE
import Derived.Deep.RegionLaw
import Derived.Laws.CopyOwn
set_option linter.unusedVariables false
namespace Go.Proofs.Ytmkpoodhhpfgpaa
open Go.RowKit
set_option maxRecDepth 100000 in
theorem step_enter {P : Program} {ops : Array Oper} {o : Oper} {a : Act} {w : World} {K : Act → World → Prop} {Q : Exit → Act → World → Prop} {E : Prop} (hgd : o.guard = none) (f : FuncId) (vs : Array Value) (hrun : (execOp a.eval o).run P w = .ok (.enter f vs) w)
    (h : Calls P f vs w fun
      | .returned v, w'' => K (a.put o.dst v) w''
      | .panicked chain, w'' => Q (.panic chain) a w''
      | .outgrown, _ => LetsOut Q) :
    if Region.wanted o (yielded ops a.tmps) = true then Oper.wp P o a w K Q else E := by
  have hw : Region.wanted o (yielded ops a.tmps) = true := by simp [Region.wanted, hgd]
  rw [if_pos hw]
  unfold Oper.wp
  rw [hrun]
  exact h
set_option maxRecDepth 100000 in
theorem slice_idz (b : Nat) (w : World) : (Instr.sliceAt 72 (.pointer (some ⟨b, 0, none⟩)) none none none).run Try.prog w = .ok (.slice (some ⟨b, 0, none⟩) 32 32) w := by
  have e : Try.prog.arrayLen 72 = 32 := by kernel_rfl
  rw [run_sliceAt_array_all (P := Try.prog) w 72 ⟨b, 0, none⟩ (by kernel_rfl)]
  rw [show Try.prog.elem 72 = 5 by kernel_rfl, size_u8, e]
  simp [Result.andThen, slicedAt, Addr.add]
set_option maxRecDepth 100000 in
theorem Eye0.alloc {w : World} {e E : Nat} {N : Nat → Prop} {l : List B8} (h : Eye0 w e E N l) (o : Obj) : Eye0 (w.alloc o) e E N l := h.turn ((Turn.refl (fun _ => False) w).alloc o) (fun h => h) (fun h => h) (fun _ h => h.elim)
set_option maxRecDepth 100000 in
theorem Eye0.drew {w : World} {e E : Nat} {N : Nat → Prop} {l : List B8} (h : Eye0 w e E N l) : Eye0 w.drew e E N l := h.turn ((Turn.refl (fun _ => False) w).drew) (fun h => h) (fun h => h) (fun _ h => h.elim)
def zero32 : Array Value := ((zeros 32).map bv).toArray
set_option maxRecDepth 100000 in
theorem id_cells (l : List B8) (w : World) (b : Nat) (h : Hid (w.heap[b]? = some (.cells (splice ((zeros 32).map bv) 0 ((l.take 32).map bv)).toArray 72 (0, 0)))) (hl : 32 ≤ l.length) : w.heap[b]? = some (.cells ((l.take 32).map bv).toArray 72 (0, 0)) := by
  rw [h.out]
  congr 3
  unfold splice
  have : (((l.take 32).map bv)).length = 32 := by simp; omega
  simp [zeros]; omega
end Go.Proofs.Ytmkpoodhhpfgpaa
