/- The contracts of the eye's small methods: an error told, an error there, what is left, bytes taken. -/
import Derived.Test.YtmkpoodhhpfgpaaFldB
set_option linter.unusedVariables false
set_option linter.unusedSimpArgs false
namespace Go.Proofs.Ytmkpoodhhpfgpaa
open Go.RowKit
/-- An eye: what is left, where its ending lies, and the error in it. -/
def EyeAt (w : World) (e E : Nat) (A : Option Addr) (n c y : Nat) : Prop :=
  w.heap[e]? = some (.cells #[.slice A n c, .pointer (some ⟨E, 0, none⟩)] 88 (0, 0)) ∧ w.heap[E]? = some (.cells #[.int .i64 (y : Int)] 86 (0, 0))
section
variable {w w' : World} {e E n c y : Nat} {A : Option Addr}
set_option maxRecDepth 100000 in
theorem EyeAt.ne (h : EyeAt w e E A n c y) : e ≠ E := by
  rintro rfl
  have := h.1.symm.trans h.2
  simp at this
set_option maxRecDepth 100000 in
theorem EyeAt.cells (h : EyeAt w e E A n c y) : w.cell? ⟨e, 0, none⟩ = some (.slice A n c) ∧ w.cell? ⟨e, 1, none⟩ = some (.pointer (some ⟨E, 0, none⟩)) ∧ w.cell? ⟨E, 0, none⟩ = some (.int .i64 (y : Int)) ∧
    w.frozen? ⟨e, 0, none⟩ = false ∧ w.frozen? ⟨e, 1, none⟩ = false ∧ w.frozen? ⟨E, 0, none⟩ = false :=
  ⟨by rw [cell_of_row w e 0 _ _ _ h.1]; rfl, by rw [cell_of_row w e 1 _ _ _ h.1]; rfl, by rw [cell_of_row w E 0 _ _ _ h.2]; rfl, frozen_of_row w e 0 _ _ h.1, frozen_of_row w e 1 _ _ h.1, frozen_of_row w E 0 _ _ h.2⟩
set_option maxRecDepth 100000 in
theorem EyeAt.lt (h : EyeAt w e E A n c y) : e < w.heap.size ∧ E < w.heap.size := ⟨lt_of_block h.1, lt_of_block h.2⟩
set_option maxRecDepth 100000 in
theorem EyeAt.turn {S : Nat → Prop} (h : EyeAt w e E A n c y) (t : Turn S w w') (h1 : ¬ S e) (h2 : ¬ S E) : EyeAt w' e E A n c y := ⟨t.heap h.1 h1, t.heap h.2 h2⟩
set_option maxRecDepth 100000 in
theorem EyeAt.set (h : EyeAt w e E A n c y) (A' : Option Addr) (n' c' : Nat) : EyeAt (w.setCell ⟨e, 0, none⟩ (.slice A' n' c')) e E A' n' c' y :=
  ⟨by rw [heap_setCell_same _ e 0 _ _ _ h.1]; rfl, by rw [Below.heap_setCell _ _ _ _ (by intro x; exact h.ne x.symm)]; exact h.2⟩
set_option maxRecDepth 100000 in
theorem EyeAt.fail (h : EyeAt w e E A n c y) (x : Nat) : EyeAt (w.setCell ⟨E, 0, none⟩ (.int .i64 (x : Int))) e E A n c x :=
  ⟨by rw [Below.heap_setCell _ _ _ _ (by intro x; exact h.ne x)]; exact h.1, by rw [heap_setCell_same _ E 0 _ _ _ h.2]; rfl⟩
end
/-- An eye's own panic. -/
def pan (E : Nat) : Ending := .panicked [{ v := .iface 84 (.pointer (some ⟨E, 0, none⟩)), recovered := false }]
set_option maxRecDepth 100000 in
theorem ended_any (e E : Nat) (A : Option Addr) (n c y : Nat) (w : World) (h : EyeAt w e E A n c y) :
    Calls Try.prog 45 #[.pointer (some ⟨e, 0, none⟩)] w fun r w' => r = .returned (.bool (decide (y ≠ 0))) ∧ w' = w := by
  obtain ⟨c0, c1, c2, z0, z1, z2⟩ := h.cells
  have hd := Lib.hid (show ((y : Int) != 0) = decide (y ≠ 0) by rw [Bool.eq_iff_iff]; simp)
  go_enter Try.func45, Try.ntmps45
  go_wp2
  go_ret
  exact ⟨congrArg (fun b => Ending.returned (.bool b)) hd.out, rfl⟩
set_option maxRecDepth 100000 in
theorem left_any (e E : Nat) (A : Option Addr) (n c y : Nat) (w : World) (h : EyeAt w e E A n c y) :
    Calls Try.prog 46 #[.pointer (some ⟨e, 0, none⟩)] w fun r w' => r = .returned (.int .i64 (n : Int)) ∧ w' = w := by
  obtain ⟨c0, c1, c2, z0, z1, z2⟩ := h.cells
  go_enter Try.func46, Try.ntmps46
  go_wp2
  go_ret
  exact ⟨rfl, rfl⟩
set_option maxRecDepth 100000 in
theorem fail_any (e E : Nat) (A : Option Addr) (n c : Nat) (x : Nat) (w : World) (h : EyeAt w e E A n c 0) (hx : x ≠ 0) :
    Calls Try.prog 54 #[.pointer (some ⟨e, 0, none⟩), .int .i64 (x : Int)] w fun r w' => r = pan E ∧ EyeAt w' e E A n c x ∧ Turn (fun i => i = E) w w' := by
  obtain ⟨c0, c1, c2, z0, z1, z2⟩ := h.cells
  have hx2 : ¬ ((x : Int) = 0) := by omega
  have HE := Lib.hid (fun w => ended_any e E A n c 0 w)
  have HH := Lib.hid h
  clear h hx
  go_enter Try.func54, Try.ntmps54
  go_wp2_with (go_at_call 45; refine (HE.out _ HH.out).mono ?_; rintro r w' ⟨rfl, rfl⟩)
  exact ⟨rfl, rfl, HH.out.fail x, (Turn.refl _ _).setCell _ _ (fun _ => rfl)⟩
set_option maxRecDepth 100000 in
theorem fail_ok (e : Nat) (w : World) :
    Calls Try.prog 54 #[.pointer (some ⟨e, 0, none⟩), .int .i64 0] w fun r w' => r = .returned (.tuple #[]) ∧ w' = w := by
  go_enter Try.func54, Try.ntmps54
  go_wp2
  first | go_end0 | exact bodyPost_ret (results_none rfl _ _ _) rfl ⟨rfl, rfl⟩
set_option maxRecDepth 100000 in
theorem slice_hi64 (A : Option Addr) (len cap n : Nat) (h : n ≤ len) (hc : len ≤ cap) (w : World) : (Instr.slice 42 (.slice A len cap) none (some (.int .u64 (n : Int))) none).run Try.prog w = .ok (.slice A n cap) w := by
  rw [run_slice_h (P := Try.prog) w 42 A len cap (by kernel_rfl) .u64 (n : Int) (by omega) (by omega)]
  rw [show Try.prog.elem 42 = 5 by kernel_rfl, size_u8]
  simp [Result.andThen, sliced]
  cases A with
  | none => simp
  | some a => simp [Addr.add]
set_option maxRecDepth 100000 in
theorem slice_lo64 (A : Option Addr) (len cap n : Nat) (h : n ≤ len) (w : World) : (Instr.slice 42 (.slice A len cap) (some (.int .u64 (n : Int))) none none).run Try.prog w = .ok (.slice (cutA A cap n) (len - n) (cap - n)) w := by
  rw [run_slice_l (P := Try.prog) w 42 A len cap (by kernel_rfl) .u64 (n : Int) (by omega) (by omega)]
  rw [show Try.prog.elem 42 = 5 by kernel_rfl, size_u8]
  simp [Result.andThen, sliced, cutA]
set_option maxRecDepth 100000 in
theorem take_no (e E : Nat) (A : Option Addr) (n c k : Nat) (w : World) (h : EyeAt w e E A n c 0) (hk : n < k) (hn : n < 18446744073709551616) :
    Calls Try.prog 66 #[.pointer (some ⟨e, 0, none⟩), .int .u64 (k : Int)] w fun r w' => r = pan E ∧ EyeAt w' e E A n c 2 ∧ Turn (fun i => i = E) w w' := by
  obtain ⟨c0, c1, c2, z0, z1, z2⟩ := h.cells
  have HE := Lib.hid (fun w => ended_any e E A n c 0 w)
  have HF := Lib.hid (fun w h => fail_any e E A n c 2 w h (by decide))
  have HH := Lib.hid h
  clear h
  go_enter Try.func66, Try.ntmps66
  go_wp2_with (first
   | (go_at_call 45; refine (HE.out _ HH.out).mono ?_; rintro r w' ⟨rfl, rfl⟩)
   | (go_at_call 54; refine (HF.out _ HH.out).mono ?_; rintro r w2 ⟨rfl, h1, h2⟩; dsimp only [pan]; have h1 := Lib.hid h1; have h2 := Lib.hid h2))
  exact ⟨rfl, rfl, h1.out, h2.out⟩
set_option maxRecDepth 100000 in
theorem take_yes (e E : Nat) (A : Option Addr) (n c k : Nat) (w : World) (h : EyeAt w e E A n c 0) (hk : k ≤ n) (hc : n ≤ c) (hn : n < 18446744073709551616) :
    Calls Try.prog 66 #[.pointer (some ⟨e, 0, none⟩), .int .u64 (k : Int)] w fun r w' => r = .returned (.slice A k c) ∧ EyeAt w' e E (cutA A c k) (n - k) (c - k) 0 ∧ Turn (fun i => i = e) w w' := by
  obtain ⟨c0, c1, c2, z0, z1, z2⟩ := h.cells
  have HE := Lib.hid (fun w => ended_any e E A n c 0 w)
  have r1 := slice_hi64 A n c k hk hc
  have r2 := slice_lo64 A n c k hk
  have HH := Lib.hid h
  clear h
  go_enter Try.func66, Try.ntmps66
  go_wp2_with (go_at_call 45; refine (HE.out _ HH.out).mono ?_; rintro r w' ⟨rfl, rfl⟩)
  go_ret
  exact ⟨rfl, HH.out.set _ _ _, (Turn.refl _ _).setCell _ _ (fun _ => rfl)⟩
end Go.Proofs.Ytmkpoodhhpfgpaa
