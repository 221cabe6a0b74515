/- Merged: The landed drum in memory: its block; On, Len, reach, burns, Fuse, Fail. -/
import Derived.Test.YtajdcekkmikbcaaDoorM18
import Derived.Test.YtajdcekkmikbcaaDoorM12
namespace Go.Proofs.YtajdcekkmikbcaaDoor
section
set_option linter.unusedVariables false
open Go.RowKit

/-- The block of the landed Drum. -/
def LBox (w : World) (g : Nat) (Sv Wv : Value) (f : Nat) (o : Bool) : Prop := w.heap[g]? = some (.cells #[Sv, Wv, .int .i64 (f : Int), .bool (!o)] 71 (0, 0))
section
variable {w w' : World} {g f : Nat} {Sv Wv : Value} {o : Bool}
set_option maxRecDepth 100000 in
theorem LBox.cells (h : LBox w g Sv Wv f o) : w.cell? ⟨g, 0, none⟩ = some Sv ∧ w.cell? ⟨g, 1, none⟩ = some Wv ∧ w.cell? ⟨g, 2, none⟩ = some (.int .i64 (f : Int)) ∧ w.cell? ⟨g, 3, none⟩ = some (.bool (!o)) ∧
    w.frozen? ⟨g, 0, none⟩ = false ∧ w.frozen? ⟨g, 1, none⟩ = false ∧ w.frozen? ⟨g, 2, none⟩ = false ∧ w.frozen? ⟨g, 3, none⟩ = false :=
  ⟨by rw [cell_of_row w g 0 _ _ _ h]; rfl, by rw [cell_of_row w g 1 _ _ _ h]; rfl, by rw [cell_of_row w g 2 _ _ _ h]; rfl, by rw [cell_of_row w g 3 _ _ _ h]; rfl,
   frozen_of_row w g 0 _ _ h, frozen_of_row w g 1 _ _ h, frozen_of_row w g 2 _ _ h, frozen_of_row w g 3 _ _ h⟩
set_option maxRecDepth 100000 in
theorem LBox.lt (h : LBox w g Sv Wv f o) : g < w.heap.size := lt_of_block h
set_option maxRecDepth 100000 in
theorem LBox.turn {S : Nat → Prop} (h : LBox w g Sv Wv f o) (t : Turn S w w') (hS : ¬ S g) : LBox w' g Sv Wv f o := t.heap h hS
set_option maxRecDepth 100000 in
theorem LBox.setW (h : LBox w g Sv Wv f o) (v : Value) : LBox (w.setCell ⟨g, 1, none⟩ v) g Sv v f o := by
  unfold LBox; rw [heap_setCell_same _ g 1 _ _ _ h]; rfl
set_option maxRecDepth 100000 in
theorem LBox.setF (h : LBox w g Sv Wv f o) (n : Nat) : LBox (w.setCell ⟨g, 2, none⟩ (.int .i64 (n : Int))) g Sv Wv n o := by
  unfold LBox; rw [heap_setCell_same _ g 2 _ _ _ h]; rfl
set_option maxRecDepth 100000 in
theorem LBox.setO (h : LBox w g Sv Wv f o) (b : Bool) : LBox (w.setCell ⟨g, 3, none⟩ (.bool (!b))) g Sv Wv f b := by
  unfold LBox; rw [heap_setCell_same _ g 3 _ _ _ h]; rfl
end
set_option maxRecDepth 100000 in
theorem on_any (g f : Nat) (Sv Wv : Value) (o : Bool) (w : World) (h : LBox w g Sv Wv f o) :
    Calls Tryd.prog 29 #[.pointer (some ⟨g, 0, none⟩)] w fun r w' => r = .returned (.bool (!o)) ∧ w' = w := by
  obtain ⟨c0, c1, c2, c3, z0, z1, z2, z3⟩ := h.cells
  clear h c0 c1 c2 z0 z1 z2 z3
  go_enter Tryd.func29, Tryd.ntmps29
  go_wp2
  first | go_ret | trace_state
  exact ⟨rfl, rfl⟩
set_option maxRecDepth 100000 in
theorem len_any (g f n c : Nat) (A : Option Addr) (Wv : Value) (o : Bool) (w : World) (h : LBox w g (.slice A n c) Wv f o) :
    Calls Tryd.prog 31 #[.pointer (some ⟨g, 0, none⟩)] w fun r w' => r = .returned (.int .i64 (n : Int)) ∧ w' = w := by
  obtain ⟨c0, c1, c2, c3, z0, z1, z2, z3⟩ := h.cells
  clear h c1 c2 c3 z0 z1 z2 z3
  go_enter Tryd.func31, Tryd.ntmps31
  go_wp2
  first | go_ret | trace_state
  exact ⟨rfl, rfl⟩
set_option maxRecDepth 100000 in
theorem reach_any (g f n c : Nat) (A : Option Addr) (Wv : Value) (o : Bool) (a : Int) (w : World) (h : LBox w g (.slice A n c) Wv f o) :
    Calls Tryd.prog 50 #[.pointer (some ⟨g, 0, none⟩), .int .i64 a] w fun r w' => r = .returned (.int .i64 ((if o = true then 21 else if 0 ≤ a ∧ a < (n : Int) then 0 else 5 : Nat) : Int)) ∧ w' = w := by
  have HC := Lib.hid (on_any g f _ Wv o w h)
  have HL := Lib.hid (len_any g f n c A Wv o w h)
  clear h
  cases o with
  | true =>
    go_enter Tryd.func50, Tryd.ntmps50
    go_wp2_with (go_at_call 29; refine HC.out.mono ?_; rintro r w1 ⟨rfl, rfl⟩)
    go_ret
    exact ⟨rfl, rfl⟩
  | false =>
    by_cases ha : a < 0
    · go_enter Tryd.func50, Tryd.ntmps50
      go_wp2_with (go_at_call 29; refine HC.out.mono ?_; rintro r w1 ⟨rfl, rfl⟩)
      go_ret
      exact ⟨rfl, rfl⟩
    · by_cases hb : (n : Int) ≤ a
      · go_enter Tryd.func50, Tryd.ntmps50
        go_wp2_with (first | (go_at_call 29; refine HC.out.mono ?_; rintro r w1 ⟨rfl, rfl⟩) | (go_at_call 31; refine HL.out.mono ?_; rintro r w1 ⟨rfl, rfl⟩))
        go_ret
        exact ⟨rfl, rfl⟩
      · go_enter Tryd.func50, Tryd.ntmps50
        go_wp2_with (first | (go_at_call 29; refine HC.out.mono ?_; rintro r w1 ⟨rfl, rfl⟩) | (go_at_call 31; refine HL.out.mono ?_; rintro r w1 ⟨rfl, rfl⟩))
        go_ret
        exact ⟨rfl, rfl⟩
set_option maxRecDepth 100000 in
theorem burns_any (g f : Nat) (Sv Wv : Value) (w : World) (h : LBox w g Sv Wv f false) (hf : f < 9223372036854775808) :
    Calls Tryd.prog 51 #[.pointer (some ⟨g, 0, none⟩)] w fun r w' => r = .returned (.bool (f == 1)) ∧ LBox w' g Sv Wv (f - 1) (f == 1) ∧ Turn (fun i => i = g) w w' := by
  obtain ⟨c0, c1, c2, c3, z0, z1, z2, z3⟩ := h.cells
  have HH := Lib.hid h
  by_cases h0 : f = 0
  · subst h0
    clear h hf
    go_enter Tryd.func51, Tryd.ntmps51
    go_wp2
    first | go_ret | trace_state
    exact ⟨rfl, by simpa using HH.out, Turn.refl _ _⟩
  by_cases h1 : f = 1
  · subst h1
    clear h hf h0
    go_enter Tryd.func51, Tryd.ntmps51
    go_wp2
    first | go_ret | trace_state
    refine ⟨rfl, ?_, ?_⟩
    · simpa using (HH.out.setF 0).setO true
    · exact ((Turn.refl (fun i => i = g) w).setCell ⟨g, 2, none⟩ _ (fun _ => rfl)).setCell ⟨g, 3, none⟩ _ (fun _ => rfl)
  · obtain ⟨n, rfl⟩ : ∃ n, f = n + 2 := ⟨f - 2, by omega⟩
    have hw : wrap64 ((n : Int) + 2 - 1) = ((n + 1 : Nat) : Int) := by unfold wrap64; omega
    have HW := Lib.hid hw
    clear h h0 h1 hf hw
    go_enter Tryd.func51, Tryd.ntmps51
    go_wp2
    · first | go_ret | (refine bodyPost_ret (results_none rfl _ _ _) rfl ?_) | (refine bodyPost_ret (results_tmp rfl _ _ _) rfl ?_)
      refine ⟨by simp, ?_, ?_⟩
      · rw [HW.out]; simpa using HH.out.setF (n + 1)
      · exact (Turn.refl (fun i => i = g) w).setCell ⟨g, 2, none⟩ _ (fun _ => rfl)
    · rename_i hx; rw [HW.out] at hx; simp at hx; omega
set_option maxRecDepth 100000 in
theorem fuse_any (g f : Nat) (Sv Wv : Value) (o : Bool) (n : Int) (w : World) (h : LBox w g Sv Wv f o) :
    Calls Tryd.prog 20 #[.pointer (some ⟨g, 0, none⟩), .int .i64 n] w fun r w' => (∃ v, r = .returned v) ∧ LBox w' g Sv Wv (if o = true then f else n.toNat) o ∧ Turn (fun i => i = g) w w' := by
  obtain ⟨c0, c1, c2, c3, z0, z1, z2, z3⟩ := h.cells
  have HH := Lib.hid h
  have HC := Lib.hid (on_any g f _ Wv o w h)
  clear h
  cases o with
  | true =>
    go_enter Tryd.func20, Tryd.ntmps20
    go_wp2_with (go_at_call 29; refine HC.out.mono ?_; rintro r w1 ⟨rfl, rfl⟩)
    go_end0
    exact ⟨⟨_, rfl⟩, HH.out, Turn.refl _ _⟩
  | false =>
    go_enter Tryd.func20, Tryd.ntmps20
    go_wp2_with (go_at_call 29; refine HC.out.mono ?_; rintro r w1 ⟨rfl, rfl⟩)
    all_goals go_end0
    · rename_i hn
      have e : n.toNat = 0 := by omega
      rw [e]
      exact ⟨⟨_, rfl⟩, HH.out.setF 0, (Turn.refl (fun i => i = g) _).setCell ⟨g, 2, none⟩ _ (fun _ => rfl)⟩
    · rename_i hn
      obtain ⟨m, rfl⟩ : ∃ m : Nat, n = (m : Int) := ⟨n.toNat, by omega⟩
      exact ⟨⟨_, rfl⟩, HH.out.setF m, (Turn.refl (fun i => i = g) _).setCell ⟨g, 2, none⟩ _ (fun _ => rfl)⟩
end
end Go.Proofs.YtajdcekkmikbcaaDoor
