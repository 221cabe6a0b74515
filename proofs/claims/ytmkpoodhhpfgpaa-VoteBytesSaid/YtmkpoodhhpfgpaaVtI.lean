/- 'awake': the document's examples. -/
import Derived.Test.YtmkpoodhhpfgpaaVtG
import Derived.Test.YtmkpoodhhpfgpaaVtH
set_option linter.unusedVariables false
set_option linter.unusedSimpArgs false
namespace Go.Proofs.Ytmkpoodhhpfgpaa
open Go.RowKit
theorem ag_awake : agV [4, 9, 7] = 7 ∧ agO [4, 9, 7] = true :=
  ⟨(ag_unique [4, 9, 7] (by decide) 7 (by decide) (by decide) (by decide)).symm, by decide⟩
theorem sl_lit {w : World} {g : Nat} {L : List Value} {t : TypeId} (h : w.heap[g]? = some (.cells L.toArray t (0, 0))) : Sl w w.heap.size (some ⟨g, 0, none⟩) L := fun j u hu => by
  refine ⟨_, rfl, lt_of_block h, ?_⟩
  rw [show (⟨g, 0, none⟩ : Addr).add j = ⟨g, j, none⟩ by unfold Addr.add; by_cases hj : j = 0 <;> simp [hj]]
  rw [cell_of_row w g _ _ _ _ h, List.getElem?_toArray]
  exact hu
theorem agreed_turn (A : Option Addr) (c : Nat) (zs : List Int) (w : World) (hs : Sl w w.heap.size A (i64s zs)) (hm : zs.length ≤ maxLen) :
    Calls Try.prog 17 #[.slice A zs.length c] w fun r w' => r = .returned (.tuple #[.int .i64 (agV zs), .bool (agO zs)]) ∧ Turn (fun _ => False) w w' :=
  (agreed_any A c zs w hs hm).mono fun _ _ ⟨h1, h2⟩ => ⟨h1, Turn.of_below h2⟩
set_option maxRecDepth 100000 in
set_option maxHeartbeats 4000000 in
theorem awake16_any (w : World) : Calls Try.prog 16 #[] w fun r w' => r = .returned (.bool true) ∧ Turn (fun _ => False) w w' := by
  obtain ⟨f1, f2⟩ := ag_awake
  have AG := agreed_turn (some ⟨w.heap.size, 0, none⟩) 3 [4, 9, 7] (w.alloc (.cells #[.int .i64 4, .int .i64 9, .int .i64 7] 3)) (sl_lit (heap_alloc_new w (.cells #[.int .i64 4, .int .i64 9, .int .i64 7] 3))) (by decide)
  rw [f1, f2] at AG
  have AG := Lib.hid AG
  have GR := Lib.hid (grant_any 2 (-1) 1 2 true)
  have g1 : grT 2 (-1) 1 2 true = 2 ∧ grF 2 (-1) 1 2 true = 1 ∧ grB 2 (-1) 1 2 true = true := by decide
  have HGR := Lib.hid g1
  have CE := Lib.hid (enough_any 5)
  have HE := Lib.hid (show enN 5 = 3 by decide)
  have RT := Lib.hid (right_any 2 1)
  have HR := Lib.hid (show okB 2 1 = true by decide)
  have AS := Lib.hid (asnew_any 1 1 1 1)
  have HA := Lib.hid (show asN 1 1 1 1 = true by decide)
  have T0 := Lib.hid (show Turn (fun _ => False) w (w.alloc (.cells #[.int .i64 4, .int .i64 9, .int .i64 7] 3)) from (Turn.refl _ _).alloc _)
  clear f1 f2 g1
  go_enter Try.func16, Try.ntmps16
  go_wp2_with (go_at_call 17; refine stop ?_)
  unfold Stop
  refine AG.out.mono ?_
  rintro r w1 ⟨rfl, t1⟩
  have HT1 := Lib.hid (T0.out.trans t1 (fun _ _ h => h))
  clear t1 T0 AG
  go_wp2_with (go_at_call 9; refine stop ?_)
  unfold Stop
  refine (GR.out w1).mono ?_
  rintro r w2 ⟨rfl, t2⟩
  rw [HGR.out.1, HGR.out.2.1, HGR.out.2.2]
  have HT2 := Lib.hid (HT1.out.trans t2 (fun _ _ h => h))
  clear t2 HT1
  go_upto_region 3 with fail
  obtain ⟨w3, hw3⟩ : ∃ w3, w3 = w2.alloc (.cells (blC 2 1) 23) := ⟨_, rfl⟩
  have t3 : Turn (fun _ => False) w2 w3 := by rw [hw3]; exact (Turn.refl _ _).alloc _
  have g3 : BBx w3 w2.heap.size 2 1 := by rw [hw3]; exact BBx.new _ _ _
  have HT3 := Lib.hid (HT2.out.trans t3 (fun _ _ h => h))
  change Code.wp _ _ _ _ (w2.alloc (.cells (blC 2 1) 23))
  rw [← hw3]
  clear hw3 t3
  generalize w2.heap.size = p at *
  obtain ⟨⟨c0, c1⟩, -⟩ := g3.cells
  clear g3
  go_wp2_with (first
    | (go_at_call 12; refine (CE.out _).mono ?_; rintro r w9 ⟨rfl, hw9⟩; rw [hw9, HE.out]; clear hw9 w9)
    | (go_at_call 21; refine stop ?_))
  unfold Stop
  refine (RT.out w3).mono ?_
  rintro r w4 ⟨rfl, t4⟩
  rw [HR.out]
  have HT4 := Lib.hid (HT3.out.trans t4 (fun _ _ h => h))
  clear t4 c0 c1
  go_wp2_with (go_at_call 14; refine (AS.out _).mono ?_; rintro r w9 ⟨rfl, hw9⟩; rw [hw9, HA.out]; clear hw9 w9)
  go_ret
  exact ⟨rfl, HT4.out⟩
end Go.Proofs.Ytmkpoodhhpfgpaa
