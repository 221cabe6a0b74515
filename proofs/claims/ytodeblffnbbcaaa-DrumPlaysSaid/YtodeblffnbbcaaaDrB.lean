/- The document's drum in memory: its block; 'fails'. -/
import Derived.Test.YtodeblffnbbcaaaDrA
import Derived.Test.YtodeblffnbbcaaaAllWalks
import Derived.Test.YtodeblffnbbcaaaByt
import Derived.Test.YtodeblffnbbcaaaTail
import Derived.Test.YtodeblffnbbcaaaCls
import Derived.Deep.MidRow
import Derived.Deep.RegionLaw
import Derived.Laws.Rows
set_option linter.unusedVariables false
namespace Go.Proofs.Ytodeblffnbbcaaa
open Go.RowKit

/-- The block of the document's Drum. -/
def RBox (w : World) (g : Nat) (Lv Wv : Value) (f : Nat) (o : Bool) : Prop := w.heap[g]? = some (.cells #[Lv, Wv, .int .i64 (f : Int), .bool o] 40 (0, 0))
section
variable {w w' : World} {g f : Nat} {Lv Wv : Value} {o : Bool}
theorem RBox.cells (h : RBox w g Lv Wv f o) : w.cell? ⟨g, 0, none⟩ = some Lv ∧ w.cell? ⟨g, 1, none⟩ = some Wv ∧ w.cell? ⟨g, 2, none⟩ = some (.int .i64 (f : Int)) ∧ w.cell? ⟨g, 3, none⟩ = some (.bool o) ∧
    w.frozen? ⟨g, 0, none⟩ = false ∧ w.frozen? ⟨g, 1, none⟩ = false ∧ w.frozen? ⟨g, 2, none⟩ = false ∧ w.frozen? ⟨g, 3, none⟩ = false :=
  ⟨by rw [cell_of_row w g 0 _ _ _ h]; rfl, by rw [cell_of_row w g 1 _ _ _ h]; rfl, by rw [cell_of_row w g 2 _ _ _ h]; rfl, by rw [cell_of_row w g 3 _ _ _ h]; rfl,
   frozen_of_row w g 0 _ _ h, frozen_of_row w g 1 _ _ h, frozen_of_row w g 2 _ _ h, frozen_of_row w g 3 _ _ h⟩
theorem RBox.lt (h : RBox w g Lv Wv f o) : g < w.heap.size := lt_of_block h
theorem RBox.turn {S : Nat → Prop} (h : RBox w g Lv Wv f o) (t : Turn S w w') (hS : ¬ S g) : RBox w' g Lv Wv f o := t.heap h hS
theorem RBox.setL (h : RBox w g Lv Wv f o) (v : Value) : RBox (w.setCell ⟨g, 0, none⟩ v) g v Wv f o := by
  unfold RBox; rw [heap_setCell_same _ g 0 _ _ _ h]; rfl
theorem RBox.setW (h : RBox w g Lv Wv f o) (v : Value) : RBox (w.setCell ⟨g, 1, none⟩ v) g Lv v f o := by
  unfold RBox; rw [heap_setCell_same _ g 1 _ _ _ h]; rfl
theorem RBox.setF (h : RBox w g Lv Wv f o) (n : Nat) : RBox (w.setCell ⟨g, 2, none⟩ (.int .i64 (n : Int))) g Lv Wv n o := by
  unfold RBox; rw [heap_setCell_same _ g 2 _ _ _ h]; rfl
theorem RBox.setO (h : RBox w g Lv Wv f o) (b : Bool) : RBox (w.setCell ⟨g, 3, none⟩ (.bool b)) g Lv Wv f b := by
  unfold RBox; rw [heap_setCell_same _ g 3 _ _ _ h]; rfl
end
set_option maxRecDepth 100000 in
theorem rfails_any (g f : Nat) (Lv Wv : Value) (o : Bool) (w : World) (h : RBox w g Lv Wv f o) (hf : f < 9223372036854775808) :
    Calls Try.prog 27 #[.pointer (some ⟨g, 0, none⟩)] w fun r w' => r = .returned (.bool (f == 1)) ∧ RBox w' g Lv Wv (f - 1) (o || f == 1) ∧ Turn (fun i => i = g) w w' := by
  obtain ⟨c0, c1, c2, c3, z0, z1, z2, z3⟩ := h.cells
  have HH := Lib.hid h
  by_cases h0 : f = 0
  · subst h0
    clear h hf
    go_enter Try.func27, Try.ntmps27
    go_wp2
    first | go_ret | trace_state
    exact ⟨rfl, by simpa using HH.out, Turn.refl _ _⟩
  by_cases h1 : f = 1
  · subst h1
    clear h hf h0
    go_enter Try.func27, Try.ntmps27
    go_wp2
    first | go_ret | trace_state
    refine ⟨rfl, ?_, ?_⟩
    · simpa using (HH.out.setF 0).setO true
    · exact ((Turn.refl (fun i => i = g) w).setCell ⟨g, 2, none⟩ _ (fun _ => rfl)).setCell ⟨g, 3, none⟩ _ (fun _ => rfl)
  · obtain ⟨n, rfl⟩ : ∃ n, f = n + 2 := ⟨f - 2, by omega⟩
    have hw : wrap64 ((n : Int) + 2 - 1) = ((n + 1 : Nat) : Int) := by unfold wrap64; omega
    have HW := Lib.hid hw
    clear h h0 h1 hf hw
    go_enter Try.func27, Try.ntmps27
    go_wp2
    · rename_i hx; rw [HW.out] at hx; simp at hx; omega
    · first | go_ret | (refine bodyPost_ret (results_none rfl _ _ _) rfl ?_) | (refine bodyPost_ret (results_tmp rfl _ _ _) rfl ?_)
      refine ⟨by simp, ?_, ?_⟩
      · rw [HW.out]; simpa using HH.out.setF (n + 1)
      · exact (Turn.refl (fun i => i = g) w).setCell ⟨g, 2, none⟩ _ (fun _ => rfl)
end Go.Proofs.Ytodeblffnbbcaaa
