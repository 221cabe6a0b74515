/- 'between', 'bounded', 'Right', 'Decides', and the document's 'Right': their contracts. -/
import Derived.Test.YtomflniknnenaaaEnA
set_option linter.unusedVariables false
set_option linter.unusedSimpArgs false
namespace Go.Proofs.Ytomflniknnenaaa
open Go.RowKit
set_option maxRecDepth 100000 in
theorem between_any (n l m : Int) (w : World) : Calls Try.prog 27 #[.int .i64 n, .int .i64 l, .int .i64 m] w fun r w' => r = .returned (.int .i64 (min (max n l) m)) ∧ w' = w := by
  go_enter Try.func27, Try.ntmps27
  go_wp2
  go_ret
  exact ⟨rfl, rfl⟩
section
variable {w : World} {b : Nat} {e : Ent}
set_option maxRecDepth 100000 in
theorem EAt.set0 (h : EAt w b e) (z : Int) : EAt (w.setCell ⟨b, 0, none⟩ (.int .i64 z)) b { e with k := z } ∧ Turn (fun i => i = b) w (w.setCell ⟨b, 0, none⟩ (.int .i64 z)) := by
  refine ⟨?_, (Turn.refl _ _).setCell _ _ (fun _ => rfl)⟩
  unfold EAt
  rw [heap_setCell_same w b 0 _ _ _ h]; rfl
set_option maxRecDepth 100000 in
theorem EAt.set1 (h : EAt w b e) (z : Int) : EAt (w.setCell ⟨b, 1, none⟩ (.int .i64 z)) b { e with s := z } ∧ Turn (fun i => i = b) w (w.setCell ⟨b, 1, none⟩ (.int .i64 z)) := by
  refine ⟨?_, (Turn.refl _ _).setCell _ _ (fun _ => rfl)⟩
  unfold EAt
  rw [heap_setCell_same w b 1 _ _ _ h]; rfl
theorem set_far (D r : List Value) (v : Value) (i : Nat) (hD : D.length = 32) (u0 u1 : Value) : ([u0, u1] ++ (D ++ r)).toArray.setIfInBounds (34 + i) v = ([u0, u1] ++ (D ++ r.set i v)).toArray := by
  rw [List.setIfInBounds_toArray]
  congr 1
  rw [List.set_append, if_neg (by simp; omega), List.set_append, if_neg (by simp; omega)]
  congr 3
  simp [hD]; omega
set_option maxRecDepth 100000 in
theorem EAt.set34 (h : EAt w b e) (hd : e.d.length = 32) (z : Nat) : EAt (w.setCell ⟨b, 34, none⟩ (.int .u64 (z : Int))) b { e with a := z } ∧ Turn (fun i => i = b) w (w.setCell ⟨b, 34, none⟩ (.int .u64 (z : Int))) := by
  refine ⟨?_, (Turn.refl _ _).setCell _ _ (fun _ => rfl)⟩
  unfold EAt
  rw [heap_setCell_same w b 34 _ _ _ h]
  exact congrArg (fun c => some (Obj.cells c _ _)) (set_far (e.d.map bv) _ _ 0 (by simp [hd]) _ _)
set_option maxRecDepth 100000 in
theorem EAt.set35 (h : EAt w b e) (hd : e.d.length = 32) (z : Int) : EAt (w.setCell ⟨b, 35, none⟩ (.int .i64 z)) b { e with y := z } ∧ Turn (fun i => i = b) w (w.setCell ⟨b, 35, none⟩ (.int .i64 z)) := by
  refine ⟨?_, (Turn.refl _ _).setCell _ _ (fun _ => rfl)⟩
  unfold EAt
  rw [heap_setCell_same w b 35 _ _ _ h]
  exact congrArg (fun c => some (Obj.cells c _ _)) (set_far (e.d.map bv) _ _ 1 (by simp [hd]) _ _)
set_option maxRecDepth 100000 in
theorem EAt.set36 (h : EAt w b e) (hd : e.d.length = 32) (z : Int) : EAt (w.setCell ⟨b, 36, none⟩ (.int .i64 z)) b { e with p := z } ∧ Turn (fun i => i = b) w (w.setCell ⟨b, 36, none⟩ (.int .i64 z)) := by
  refine ⟨?_, (Turn.refl _ _).setCell _ _ (fun _ => rfl)⟩
  unfold EAt
  rw [heap_setCell_same w b 36 _ _ _ h]
  exact congrArg (fun c => some (Obj.cells c _ _)) (set_far (e.d.map bv) _ _ 2 (by simp [hd]) _ _)
end
/-- The entry with all its numbers brought within their bounds. -/
def bnd (e : Ent) : Ent := ⟨min (max e.k 1) 3, min (max e.s 0) 63, e.d, min e.a 4611686018427387904, min (max e.y 0) 63, min (max e.p 0) 1099511627776⟩
def EZ : Ent := ⟨0, 0, zeros 32, 0, 0, 0⟩
abbrev Z37E : Array Value := #[.int .i64 0, .int .i64 0, .int .u8 0, .int .u8 0, .int .u8 0, .int .u8 0, .int .u8 0, .int .u8 0, .int .u8 0, .int .u8 0, .int .u8 0, .int .u8 0, .int .u8 0, .int .u8 0, .int .u8 0, .int .u8 0, .int .u8 0, .int .u8 0, .int .u8 0, .int .u8 0, .int .u8 0, .int .u8 0, .int .u8 0, .int .u8 0, .int .u8 0, .int .u8 0, .int .u8 0, .int .u8 0, .int .u8 0, .int .u8 0, .int .u8 0, .int .u8 0, .int .u8 0, .int .u8 0, .int .u64 0, .int .i64 0, .int .i64 0]
set_option maxRecDepth 100000 in
theorem EZ_eq : EZ.cells.toArray = Z37E := rfl
set_option maxRecDepth 100000 in
theorem en_zero (w : World) : (zeroValue 26).run Try.prog w = .ok (.agg Z37E) w := by kernel_rfl
attribute [local go_sem ↓] loadAt_en loadAt_id
attribute [local go_sem] run_enLoad run_idLoad rowOf_drew rowOf_drewN
set_option maxRecDepth 100000 in
set_option maxHeartbeats 4000000 in
theorem bounded_any (e : Ent) (w : World) (hd : e.d.length = 32) : Calls Try.prog 18 #[.agg e.cells.toArray] w fun r w' => r = .returned (.agg (bnd e).cells.toArray) ∧ Turn (fun _ => False) w w' := by
  obtain ⟨C, hC⟩ : ∃ C, C = e.cells.toArray := ⟨_, rfl⟩
  rw [← hC]
  obtain ⟨w2, hw2⟩ : ∃ w2, w2 = (w.alloc (.cells C 26)).alloc (.cells Z37E 26) := ⟨_, rfl⟩
  have t2 : Turn (fun _ => False) w w2 := by rw [hw2]; exact ((Turn.refl _ _).alloc _).alloc _
  have e2 : EAt w2 w.heap.size e := by rw [hw2, hC]; exact heap_alloc2_old _ _ _
  have r2 : w2.heap[w.heap.size + 1]? = some (.cells Z37E 26 (0, 0)) := by rw [hw2]; exact heap_alloc2_new _ _ _
  have T := Lib.hid between_any
  have E2 := Lib.hid e2
  have R2 := Lib.hid r2
  have T2 := Lib.hid t2
  have HD := Lib.hid hd
  have hzd := en_zero
  clear t2 r2 hd hC
  go_enter Try.func18, Try.ntmps18
  go_upto_region 1 with fail
  change Code.wp _ _ _ _ ((w.alloc (.cells C 26)).alloc (.cells Z37E 26))
  rw [← hw2]
  clear hw2
  obtain ⟨c0, c1, c2, c3, c4⟩ := e2.c HD.out
  have z0 := e2.f 0
  clear e2
  go_upto_region 2 with (go_at_call 27; refine (T.out _ _ _ _).mono ?_; rintro r w9 ⟨rfl, hw9⟩; rw [hw9]; clear hw9 w9)
  obtain ⟨e3, t3⟩ := E2.out.set0 (min (max e.k 1) 3)
  obtain ⟨w3, hw3⟩ : ∃ w3, w3 = w2.setCell ⟨w.heap.size, 0, none⟩ (.int .i64 (min (max e.k 1) 3)) := ⟨_, rfl⟩
  rw [← hw3] at e3 t3
  have E3 := Lib.hid e3
  have T3 := Lib.hid (T2.out.trans t3 (fun i hi h => absurd hi (by have h' : i = w.heap.size := h; omega)))
  have R3 := Lib.hid (t3.heap R2.out (by omega))
  change Code.wp _ _ _ _ (w2.setCell ⟨w.heap.size, 0, none⟩ (.int .i64 (min (max e.k 1) 3)))
  rw [← hw3]
  clear hw3 e3 t3 E2 T2 R2 c0 c1 c2 c3 c4 z0
  obtain ⟨c0, c1, c2, c3, c4⟩ := E3.out.c HD.out
  have z0 := E3.out.f 1
  go_upto_region 3 with (go_at_call 27; refine (T.out _ _ _ _).mono ?_; rintro r w9 ⟨rfl, hw9⟩; rw [hw9]; clear hw9 w9)
  obtain ⟨e4, t4⟩ := E3.out.set1 (min (max e.s 0) 63)
  obtain ⟨w4, hw4⟩ : ∃ w4, w4 = w3.setCell ⟨w.heap.size, 1, none⟩ (.int .i64 (min (max e.s 0) 63)) := ⟨_, rfl⟩
  rw [← hw4] at e4 t4
  have E4 := Lib.hid e4
  have T4 := Lib.hid (T3.out.trans t4 (fun i hi h => absurd hi (by have h' : i = w.heap.size := h; omega)))
  have R4 := Lib.hid (t4.heap R3.out (by omega))
  change Code.wp _ _ _ _ (w3.setCell ⟨w.heap.size, 1, none⟩ (.int .i64 (min (max e.s 0) 63)))
  rw [← hw4]
  clear hw4 e4 t4 E3 T3 R3 c0 c1 c2 c3 c4 z0
  obtain ⟨c0, c1, c2, c3, c4⟩ := E4.out.c HD.out
  have z0 := E4.out.f 34
  go_upto_region 4 with (go_at_call 27; refine (T.out _ _ _ _).mono ?_; rintro r w9 ⟨rfl, hw9⟩; rw [hw9]; clear hw9 w9)
  rw [show (min (e.a : Int) 4611686018427387904) = ((min e.a 4611686018427387904 : Nat) : Int) by omega]
  obtain ⟨e5, t5⟩ := E4.out.set34 HD.out (min e.a 4611686018427387904)
  obtain ⟨w5, hw5⟩ : ∃ w5, w5 = w4.setCell ⟨w.heap.size, 34, none⟩ (.int .u64 ((min e.a 4611686018427387904 : Nat) : Int)) := ⟨_, rfl⟩
  rw [← hw5] at e5 t5
  have E5 := Lib.hid e5
  have T5 := Lib.hid (T4.out.trans t5 (fun i hi h => absurd hi (by have h' : i = w.heap.size := h; omega)))
  have R5 := Lib.hid (t5.heap R4.out (by omega))
  change Code.wp _ _ _ _ (w4.setCell ⟨w.heap.size, 34, none⟩ (.int .u64 ((min e.a 4611686018427387904 : Nat) : Int)))
  rw [← hw5]
  clear hw5 e5 t5 E4 T4 R4 c0 c1 c2 c3 c4 z0
  obtain ⟨c0, c1, c2, c3, c4⟩ := E5.out.c HD.out
  have z0 := E5.out.f 35
  go_upto_region 5 with (go_at_call 27; refine (T.out _ _ _ _).mono ?_; rintro r w9 ⟨rfl, hw9⟩; rw [hw9]; clear hw9 w9)
  obtain ⟨e6, t6⟩ := E5.out.set35 HD.out (min (max e.y 0) 63)
  obtain ⟨w6, hw6⟩ : ∃ w6, w6 = w5.setCell ⟨w.heap.size, 35, none⟩ (.int .i64 (min (max e.y 0) 63)) := ⟨_, rfl⟩
  rw [← hw6] at e6 t6
  have E6 := Lib.hid e6
  have T6 := Lib.hid (T5.out.trans t6 (fun i hi h => absurd hi (by have h' : i = w.heap.size := h; omega)))
  have R6 := Lib.hid (t6.heap R5.out (by omega))
  change Code.wp _ _ _ _ (w5.setCell ⟨w.heap.size, 35, none⟩ (.int .i64 (min (max e.y 0) 63)))
  rw [← hw6]
  clear hw6 e6 t6 E5 T5 R5 c0 c1 c2 c3 c4 z0
  obtain ⟨c0, c1, c2, c3, c4⟩ := E6.out.c HD.out
  have z0 := E6.out.f 36
  go_upto_region 6 with (go_at_call 27; refine (T.out _ _ _ _).mono ?_; rintro r w9 ⟨rfl, hw9⟩; rw [hw9]; clear hw9 w9)
  obtain ⟨e7, t7⟩ := E6.out.set36 HD.out (min (max e.p 0) 1099511627776)
  obtain ⟨w7, hw7⟩ : ∃ w7, w7 = w6.setCell ⟨w.heap.size, 36, none⟩ (.int .i64 (min (max e.p 0) 1099511627776)) := ⟨_, rfl⟩
  rw [← hw7] at e7 t7
  have E7 := Lib.hid e7
  have T7 := Lib.hid (T6.out.trans t7 (fun i hi h => absurd hi (by have h' : i = w.heap.size := h; omega)))
  have R7 := Lib.hid (t7.heap R6.out (by omega))
  change Code.wp _ _ _ _ (w6.setCell ⟨w.heap.size, 36, none⟩ (.int .i64 (min (max e.p 0) 1099511627776)))
  rw [← hw7]
  clear hw7 e7 t7 E6 T6 R6 c0 c1 c2 c3 c4 z0
  obtain ⟨c0, c1, c2, c3, c4⟩ := E7.out.c HD.out
  have z0 := E7.out.f 0
  have hrow := E7.out.row HD.out
  change rowOf w7 w.heap.size 0 37 = some (bnd e).cells.toArray at hrow
  obtain ⟨D, hDD⟩ : ∃ D, D = (bnd e).cells.toArray := ⟨_, rfl⟩
  rw [← hDD] at hrow
  have HDD := Lib.hid hDD
  have sD : D.size = 37 := by rw [hDD, List.size_toArray, Ent.len]; exact HD.out
  have K1 := Lib.hid (show (Try.prog.info? 26).map (·.size) = some D.size by rw [sD]; exact en_info)
  have K2 := Lib.hid (show Z37E.size = D.size by rw [sD]; rfl)
  have K3 := Lib.hid (show D.all (·.oneCell') = true by rw [hDD]; exact Ent.one _)
  clear hDD sD c0 c1 c2 c3 c4
  go_wp2_with (refine wpList_store_row rfl _ _ _ rfl (w.heap.size + 1) D rfl rfl 26 Z37E R7.out K1.out K2.out K3.out ?_)
  have h3 := setRow_heap w7 (w.heap.size + 1) Z37E D 26 (0, 0) R7.out
  refine bodyPost_ret (v := .agg D) ?_ rfl ⟨by rw [HDD.out], (T7.out.trans ((Turn.refl (fun i => i = w.heap.size + 1) _).setRow _ _ (fun _ => rfl)) (fun i hi h => by have h' : i = w.heap.size + 1 := h; omega))⟩
  exact results_cell_row Try.results18 _ _ (w.heap.size + 1) _ D (0, 0) _ rfl h3 Try.underlying26 rfl K1.out
def okB (e : Ent) : Prop := 1 ≤ e.k ∧ e.k ≤ 3 ∧ 0 ≤ e.s ∧ e.s ≤ 63 ∧ e.a ≤ 4611686018427387904 ∧ 0 ≤ e.y ∧ e.y ≤ 63 ∧ 0 ≤ e.p ∧ e.p ≤ 1099511627776
instance (e : Ent) : Decidable (okB e) := by unfold okB; infer_instance
theorem okB_bnd (e : Ent) : decide (e = bnd e) = decide (okB e) := by
  rw [decide_eq_decide]
  unfold okB bnd
  cases e
  simp only [Ent.mk.injEq, true_and]
  omega
set_option maxRecDepth 100000 in
set_option maxHeartbeats 4000000 in
theorem right_any (e : Ent) (w : World) (hd : e.d.length = 32) : Calls Try.prog 8 #[.agg e.cells.toArray] w fun r w' => r = .returned (.bool (decide (okB e))) ∧ Turn (fun _ => False) w w' := by
  have T := Lib.hid (fun w => bounded_any e w hd)
  have Q := fun w => eql_in_ent e (bnd e) hd hd w
  rw [okB_bnd] at Q
  obtain ⟨C, hC⟩ : ∃ C, C = e.cells.toArray := ⟨_, rfl⟩
  obtain ⟨D, hD⟩ : ∃ D, D = (bnd e).cells.toArray := ⟨_, rfl⟩
  rw [← hC]
  rw [← hC, ← hD] at Q
  rw [← hC, ← hD] at T
  obtain ⟨ok, hok⟩ : ∃ ok, ok = decide (okB e) := ⟨_, rfl⟩
  rw [← hok] at Q ⊢
  obtain ⟨w2, hw2⟩ : ∃ w2, w2 = w.alloc (.cells C 26) := ⟨_, rfl⟩
  have t2 : Turn (fun _ => False) w w2 := by rw [hw2]; exact (Turn.refl _ _).alloc _
  have e2 : EAt w2 w.heap.size e := by rw [hw2, hC]; exact heap_alloc_new _ _
  have r2 : rowOf w2 w.heap.size 0 37 = some C := by rw [hC]; exact e2.row hd
  have T2 := Lib.hid t2
  clear t2 e2 hD hC hd hok
  go_enter Try.func8, Try.ntmps8
  go_upto_region 1 with fail
  change Code.wp _ _ _ _ (w.alloc (.cells C 26))
  rw [← hw2]
  clear hw2
  go_region_with (go_at_call 18; refine (T.out _).mono ?_; rintro r w9 ⟨rfl, t9⟩; have r9 := rowOf_turn t9 (show rowOf _ w.heap.size 0 37 = some C from r2) (fun h => h); have T9 := Lib.hid t9; clear t9)
  all_goals
    go_wp2
    go_ret
    exact ⟨rfl, T2.out.trans ((Turn.refl _ _).drew.trans T9.out (fun _ _ h => h)) (fun _ _ h => h)⟩
end Go.Proofs.Ytomflniknnenaaa
