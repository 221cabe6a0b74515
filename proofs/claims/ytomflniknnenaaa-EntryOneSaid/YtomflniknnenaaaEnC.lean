/- The document's 'Right', and 'Decides'. -/
import Derived.Test.YtomflniknnenaaaEnB
set_option linter.unusedVariables false
set_option linter.unusedSimpArgs false
namespace Go.Proofs.Ytomflniknnenaaa
open Go.RowKit
attribute [local go_sem ↓] loadAt_en loadAt_id
attribute [local go_sem] run_enLoad run_idLoad rowOf_drew rowOf_drewN
set_option maxRecDepth 100000 in
set_option maxHeartbeats 4000000 in
theorem rright_any (e : Ent) (w : World) (hd : e.d.length = 32) : Calls Try.prog 7 #[.agg e.cells.toArray] w fun r w' => r = .returned (.bool (decide (okB e))) ∧ Turn (fun _ => False) w w' := by
  obtain ⟨C, hC⟩ : ∃ C, C = e.cells.toArray := ⟨_, rfl⟩
  rw [← hC]
  obtain ⟨w2, hw2⟩ : ∃ w2, w2 = w.alloc (.cells C 26) := ⟨_, rfl⟩
  have t2 : Turn (fun _ => False) w w2 := by rw [hw2]; exact (Turn.refl _ _).alloc _
  have e2 : EAt w2 w.heap.size e := by rw [hw2, hC]; exact heap_alloc_new _ _
  obtain ⟨c0, c1, c2, c3, c4⟩ := e2.c hd
  have T2 := Lib.hid t2
  clear t2 e2 hC hd
  go_enter Try.func7, Try.ntmps7
  go_upto_region 1 with fail
  change Code.wp _ _ _ _ (w.alloc (.cells C 26))
  rw [← hw2]
  clear hw2
  go_wp2
  all_goals
    go_ret
    refine ⟨?_, T2.out⟩
    clear c0 c1 c2 c3 c4
    first
      | (have hb : decide (okB e) = false := decide_eq_false (by unfold okB; omega)
         rw [hb]; rfl)
      | (have hb : decide (okB e) = decide (e.p ≤ 1099511627776) := by
           rw [decide_eq_decide]; unfold okB; omega
         rw [hb]; rfl)
set_option maxRecDepth 100000 in
set_option maxHeartbeats 4000000 in
theorem decides_any (e : Ent) (w : World) (hd : e.d.length = 32) : Calls Try.prog 9 #[.agg e.cells.toArray] w fun r w' => r = .returned (.bool (decide (okB e ∧ e.k < 3))) ∧ Turn (fun _ => False) w w' := by
  have T := Lib.hid (fun w => right_any e w hd)
  obtain ⟨C, hC⟩ : ∃ C, C = e.cells.toArray := ⟨_, rfl⟩
  rw [← hC] at T ⊢
  obtain ⟨w2, hw2⟩ : ∃ w2, w2 = w.alloc (.cells C 26) := ⟨_, rfl⟩
  have t2 : Turn (fun _ => False) w w2 := by rw [hw2]; exact (Turn.refl _ _).alloc _
  have e2 : EAt w2 w.heap.size e := by rw [hw2, hC]; exact heap_alloc_new _ _
  have r2 : rowOf w2 w.heap.size 0 37 = some C := by rw [hC]; exact e2.row hd
  have T2 := Lib.hid t2
  have E2 := Lib.hid e2
  have HD := Lib.hid hd
  clear t2 e2 hC hd
  by_cases hok : okB e
  · have hb : decide (okB e) = true := decide_eq_true hok
    rw [hb] at T
    have HOK := Lib.hid hok
    clear hok hb
    go_enter Try.func9, Try.ntmps9
    go_upto_region 1 with fail
    change Code.wp _ _ _ _ (w.alloc (.cells C 26))
    rw [← hw2]
    clear hw2
    go_wp2_with (go_at_call 8; refine (T.out _).mono ?_; rintro r w9 ⟨rfl, t9⟩; have c9 := ((E2.out.turn t9 (fun h => h)).c HD.out).1; have T9 := Lib.hid t9; clear t9 r2)
    all_goals
      go_ret
      refine ⟨?_, T2.out.trans T9.out (fun _ _ h => h)⟩
      clear c9
      have hk := HOK.out
      unfold okB at hk
      first
        | (have hb : decide (okB e ∧ e.k < 3) = true := decide_eq_true ⟨HOK.out, by omega⟩
           rw [hb]; rfl)
        | (have hb : decide (okB e ∧ e.k < 3) = (e.k == 1 || e.k == 2) := by
             have h1 := HOK.out
             rw [Bool.eq_iff_iff]; simp only [h1, true_and, decide_eq_true_eq, Bool.or_eq_true, beq_iff_eq]; omega
           rw [hb]; rfl)
  · have hb : decide (okB e) = false := decide_eq_false hok
    rw [hb] at T
    have HOK := Lib.hid (show decide (okB e ∧ e.k < 3) = false from decide_eq_false (fun h => hok h.1))
    clear hok hb
    go_enter Try.func9, Try.ntmps9
    go_upto_region 1 with fail
    change Code.wp _ _ _ _ (w.alloc (.cells C 26))
    rw [← hw2]
    clear hw2
    go_wp2_with (go_at_call 8; refine (T.out _).mono ?_; rintro r w9 ⟨rfl, t9⟩; have T9 := Lib.hid t9; clear t9 r2)
    go_ret
    refine ⟨by rw [HOK.out]; rfl, T2.out.trans T9.out (fun _ _ h => h)⟩
end Go.Proofs.Ytomflniknnenaaa
