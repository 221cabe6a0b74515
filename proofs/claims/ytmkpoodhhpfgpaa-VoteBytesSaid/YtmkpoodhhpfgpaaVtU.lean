/- 'Put' of the code, and the form that it answers. -/
import Derived.Test.YtmkpoodhhpfgpaaVtD
import Derived.Test.YtmkpoodhhpfgpaaFldH
import Derived.Test.YtmkpoodhhpfgpaaFldK
set_option linter.unusedVariables false
set_option linter.unusedSimpArgs false
namespace Go.Proofs.Ytmkpoodhhpfgpaa
open Go.RowKit
/-- A block that no writing of the pen turns. -/
def PenFree (w : World) (p : Nat) (v : Value) (g : Nat) : Prop := g ≠ p ∧ v.ownBlock ≠ some g ∧ g < w.heap.size
theorem PenFree.step {w w' : World} {p g : Nat} {v v' : Value} (h : PenFree w p v g) (s : PenStep w w' p v v') : PenFree w' p v' g := by
  obtain ⟨h1, h2, h3⟩ := h
  refine ⟨h1, ?_, Nat.lt_of_lt_of_le h3 s.1.size⟩
  rcases s.2 with e | ⟨k, e, hk⟩
  · rw [e]; exact h2
  · rw [e]; intro x; injection x with x; omega
theorem PenFree.not {w : World} {p g : Nat} {v : Value} (h : PenFree w p v g) : ¬ (g = p ∨ some g = v.ownBlock) := fun x => x.elim h.1 (fun x => h.2.1 x.symm)
theorem PenStep.heap {w w' : World} {p g : Nat} {v v' : Value} {o : Obj} (s : PenStep w w' p v v') (h : PenFree w p v g) (hg : w.heap[g]? = some o) : w'.heap[g]? = some o := s.1.heap hg h.not
def formB (t f : Int) : List B8 := numB t.toNat ++ numB (f + 1).toNat
theorem okB_nat {t f : Int} (h : okB t f = true) : ∃ T F : Nat, t = (T : Int) ∧ f + 1 = (F : Int) ∧ T ≤ 1099511627776 ∧ F ≤ 7 ∧ formB t f = numB T ++ numB F := by
  unfold okB at h
  simp only [Bool.and_eq_true, decide_eq_true_eq] at h
  refine ⟨t.toNat, (f + 1).toNat, by omega, by omega, by omega, by omega, rfl⟩
set_option maxRecDepth 100000 in
set_option maxHeartbeats 4000000 in
theorem put_yes (t f : Int) (w : World) (hok : okB t f = true) :
    Calls Try.prog 19 #[blV t f] w fun r w' => ∃ u, r = .returned (.tuple #[u, .bool true]) ∧ w'.ownsRow w.heap.size 5 1 u (formB t f).length ((formB t f).map bv) ∧ Turn (fun _ => False) w w' := by
  have T := right_any t f
  rw [hok] at T
  have T := Lib.hid T
  obtain ⟨T0, F0, rfl, hf, hT, hF, hfm⟩ := okB_nat hok
  rw [hfm]
  obtain ⟨w2, hw2⟩ : ∃ w2, w2 = w.alloc (.cells (blC (T0 : Int) f) 23) := ⟨_, rfl⟩
  have t2 : Turn (fun _ => False) w w2 := by rw [hw2]; exact (Turn.refl _ _).alloc _
  have e2 : BBx w2 w.heap.size (T0 : Int) f := by rw [hw2]; exact BBx.new _ _ _
  have n1 := numB_le (n := T0) (by omega)
  have n2 := numB_le (n := F0) (by omega)
  have hf0 : -1 ≤ f ∧ f ≤ 6 := by omega
  have T2 := Lib.hid t2
  have E2 := Lib.hid e2
  obtain ⟨⟨c0, c1⟩, -⟩ := e2.cells
  have hb2 : w.heap.size < w2.heap.size := lt_of_block e2
  clear t2 e2 hok hfm
  go_enter Try.func19, Try.ntmps19
  go_upto_region 1 with fail
  change Code.wp _ _ _ _ (w.alloc (.cells (blC (T0 : Int) f) 23))
  rw [← hw2]
  clear hw2
  go_upto_region 4 with (go_at_call 21; refine (T.out _).mono ?_; rintro r w1 ⟨rfl, t1⟩; have HT1 := Lib.hid t1; clear t1 c0 c1)
  obtain ⟨w3, hw3⟩ : ∃ w3, w3 = w1.alloc (.cells #[.slice none 0 0] 61) := ⟨_, rfl⟩
  have hws : w.heap.size < w1.heap.size := by have := HT1.out.size; omega
  have hp3 : PenAt w3 w1.heap.size (w1.heap.size + 1) (.slice none 0 0) [] := by rw [hw3]; exact ⟨heap_alloc_new _ _, World.ownsRow_nil _ _ _ _, by omega, by simp⟩
  have hf3 : PenFree w3 w1.heap.size (.slice none 0 0) w.heap.size := ⟨by omega, by (intro e; cases e), by rw [hw3]; simp; omega⟩
  have ht3 : Turn (fun _ => False) w w3 := by rw [hw3]; exact (T2.out.trans HT1.out (fun _ _ h => h)).alloc _
  have E3 := Lib.hid (show BBx w3 w.heap.size (T0 : Int) f by rw [hw3]; exact (E2.out.turn HT1.out (fun h => h)).turn ((Turn.refl (fun _ => False) _).alloc _) (fun h => h))
  change Code.wp _ _ _ _ (w1.alloc (.cells #[.slice none 0 0] 61))
  rw [← hw3]
  have hwp : w.heap.size < w1.heap.size := hws
  have HT3 := Lib.hid ht3
  have HF3 := Lib.hid hf3
  have HPS3 := Lib.hid (PenStep.refl w3 w1.heap.size (.slice none 0 0))
  have HP3 := Lib.hid hp3
  generalize w1.heap.size = q at *
  clear hw3 hp3 hf3 ht3 hws E2 T2 HT1 w2 hb2 w1 T
  obtain ⟨⟨c0, c1⟩, -⟩ := E3.out.cells
  have TF := Lib.hid (pnum_any q _ _ _ T0 w3 HP3.out (by omega) (by simp only [List.length_append, List.length_nil]; omega))
  go_wp2_with fail
  refine TF.out.mono ?_
  rintro r w4 ⟨rfl, v4, hp4, st4⟩
  have E4 := Lib.hid (show BBx w4 w.heap.size (T0 : Int) f from st4.heap HF3.out E3.out)
  have HF4 := Lib.hid (HF3.out.step st4)
  have HPS4 := Lib.hid (HPS3.out.trans st4)
  have HP4 := Lib.hid hp4
  clear hp4 st4 TF c0 c1 E3 HF3 HPS3 HP3
  obtain ⟨⟨c0, c1⟩, -⟩ := E4.out.cells
  have TF := Lib.hid (pnum_any q _ _ _ F0 w4 HP4.out (by omega) (by simp only [List.length_append, List.length_nil]; omega))
  go_wp2_with fail
  refine TF.out.mono ?_
  rintro r w9 ⟨rfl, v9, hp9, st9⟩
  have HPS9 := Lib.hid (HPS4.out.trans st9)
  have HP9 := Lib.hid hp9
  clear hp9 st9 TF c0 c1 E4 HF4 HPS4 HP4
  have TB := Lib.hid (pbytes_any q _ _ _ w9 HP9.out (by simp only [List.length_append, List.length_nil]; omega))
  go_wp2_with fail
  refine TB.out.mono ?_
  rintro r w10 ⟨u, rfl, own10, t10⟩
  have HO10 := Lib.hid own10
  have HT10 := Lib.hid t10
  clear own10 t10 TB
  go_wp2
  refine bodyPost_ret (results_tmp2 rfl _ _ _) rfl ?_
  refine ⟨u, rfl, ?_, ?_⟩
  · have h := own_more HO10.out (base' := w.heap.size) (by have := HT3.out.size; have := HPS9.out.1.size; omega)
    simp only [List.append_assoc, List.nil_append] at h ⊢
    exact h
  · refine (HT3.out.trans HPS9.out.1 (fun i hi h => ?_)).trans HT10.out (fun _ _ h => h)
    rcases h with h | h
    · omega
    · cases h
set_option maxRecDepth 100000 in
theorem put_no (t f : Int) (w : World) (hok : okB t f = false) :
    Calls Try.prog 19 #[blV t f] w fun r w' => r = .returned (.tuple #[.slice none 0 0, .bool false]) ∧ Turn (fun _ => False) w w' := by
  have T := right_any t f
  rw [hok] at T
  have T := Lib.hid T
  have T2 := Lib.hid (show Turn (fun _ => False) w (w.alloc (.cells (blC t f) 23)) from (Turn.refl _ _).alloc _)
  clear hok
  go_enter Try.func19, Try.ntmps19
  go_wp2_with (go_at_call 21; refine (T.out _).mono ?_; rintro r w1 ⟨rfl, t1⟩; have HT1 := Lib.hid t1; clear t1)
  refine bodyPost_ret (results_tmp2 rfl _ _ _) rfl ?_
  exact ⟨rfl, T2.out.trans HT1.out (fun _ _ h => h)⟩
end Go.Proofs.Ytmkpoodhhpfgpaa
