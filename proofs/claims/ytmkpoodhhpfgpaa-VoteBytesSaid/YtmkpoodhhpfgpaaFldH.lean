/- The contracts of the pen's 'Text', 'Id' and 'Bytes'. -/
import Derived.Test.YtmkpoodhhpfgpaaFldG
set_option linter.unusedVariables false
namespace Go.Proofs.Ytmkpoodhhpfgpaa
open Go.RowKit
set_option maxRecDepth 100000 in
theorem pbytes_any (p B : Nat) (v : Value) (xs : List B8) (w : World) (h : PenAt w p B v xs) (hlen : xs.length ≤ 1099511627776) :
    Calls Try.prog 30 #[.pointer (some ⟨p, 0, none⟩)] w fun r w' => ∃ u, r = .returned u ∧ w'.ownsRow w.heap.size 5 1 u xs.length (xs.map bv) ∧ Turn (fun _ => False) w w' := by
  obtain ⟨c0, z0⟩ := h.cell
  obtain ⟨A, c, rfl, hs, -, hc, hA⟩ := own_sl h.2.1
  have T := Lib.hid (clone_any A c _ xs w hs hA hc hlen)
  clear h hs
  go_enter Try.func30, Try.ntmps30
  go_wp2_with (go_at_call 41; refine T.out.mono ?_; rintro r w1 ⟨u1, rfl, ho1, ht1⟩; have HO1 := Lib.hid ho1; have HT1 := Lib.hid ht1; clear ho1 ht1)
  go_ret
  exact ⟨u1, rfl, HO1.out, HT1.out⟩
set_option maxRecDepth 100000 in
theorem slice_idn (b : Nat) (w : World) : (Instr.sliceAt 72 (.pointer (some ⟨b, 0, none⟩)) none none none).run Try.prog w = .ok (.slice (some ⟨b, 0, none⟩) 32 32) w := by
  have e : Try.prog.arrayLen 72 = 32 := by kernel_rfl
  rw [run_sliceAt_array_all (P := Try.prog) w 72 ⟨b, 0, none⟩ (by kernel_rfl)]
  rw [show Try.prog.elem 72 = 5 by kernel_rfl, size_u8, e]
  simp [Result.andThen, slicedAt, Addr.add]
end Go.Proofs.Ytmkpoodhhpfgpaa
