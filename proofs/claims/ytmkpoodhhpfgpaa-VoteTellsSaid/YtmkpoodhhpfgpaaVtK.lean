/- 'VoteTells': its walk. -/
import Derived.Test.YtmkpoodhhpfgpaaVtJ
set_option linter.unusedVariables false
set_option linter.unusedSimpArgs false
namespace Go.Proofs.Ytmkpoodhhpfgpaa
open Go.RowKit
set_option maxRecDepth 100000 in
set_option maxHeartbeats 8000000 in
theorem voteTells_any (n last x own ownT t f from' : Int) (asNew : Bool) (w : World) :
    Calls Try.prog 3 #[.int .i64 n, .int .i64 last, .int .i64 x, .int .i64 own, .int .i64 ownT, blV t f, .int .i64 from', .bool asNew] w fun r w' => r = .returned (.bool true) ∧ Turn (fun _ => False) w w' := by
  have AW := Lib.hid awake16_any
  have G1 := grant_any t f from' x asNew
  have G2 := rgrant_any t f from' x asNew
  unfold GPost at G1 G2
  have QG := eql_bl (grT t f from' x asNew) (grF t f from' x asNew) (grT t f from' x asNew) (grF t f from' x asNew)
  rw [decide_eq_true ⟨rfl, rfl⟩] at QG
  generalize grT t f from' x asNew = gt at *
  generalize grF t f from' x asNew = gf at *
  generalize grB t f from' x asNew = gb at *
  have ST := step_any t f x
  have E1 := enough_any n
  have E2 := renough_any n
  generalize enN n = e at *
  have A1 := asnew_any last x own ownT
  have A2 := rasnew_any last x own ownT
  generalize asN last x own ownT = an at *
  obtain ⟨g, hg⟩ : ∃ g, g = w.heap.size := ⟨_, rfl⟩
  obtain ⟨w0, hw0⟩ : ∃ w0, w0 = w.alloc (.cells (blC t f) 23) := ⟨_, rfl⟩
  have t0 : Turn (fun _ => False) w w0 := by rw [hw0]; exact (Turn.refl _ _).alloc _
  have g0 : BBx w0 g t f := by rw [hw0, hg]; exact BBx.new _ _ _
  have HB := Lib.hid (fun (w' : World) (k : Turn (fun _ => False) w0 w') => (g0.turn k (fun h => h)).cells)
  have TW := Lib.hid t0
  have T0 := Lib.hid (Turn.refl (fun _ => False) w0)
  have G1 := Lib.hid G1
  have G2 := Lib.hid G2
  have ST := Lib.hid ST
  have E1 := Lib.hid E1
  have E2 := Lib.hid E2
  have A1 := Lib.hid A1
  have A2 := Lib.hid A2
  have QGH := Lib.hid QG
  clear t0 g0 QG
  go_enter Try.func3, Try.ntmps3
  go_upto_region 1 with fail
  change Code.wp _ _ _ _ (w.alloc (.cells (blC t f) 23))
  rw [← hw0, ← hg]
  clear hw0 hg
  obtain ⟨⟨c0, c1⟩, -⟩ := HB.out w0 T0.out
  go_wp2_with (go_at_call 9; refine stop ?_)
  unfold Stop
  refine (G1.out w0).mono ?_
  rintro r w1 ⟨rfl, t1⟩
  have T1 := Lib.hid (T0.out.trans t1 (fun _ _ h => h))
  clear t1 c0 c1
  go_upto_region 2 with fail
  obtain ⟨w2, hw2⟩ : ∃ z, z = w1.alloc (.cells (blC gt gf) 23) := ⟨_, rfl⟩
  have t2 : Turn (fun _ => False) w1 w2 := by rw [hw2]; exact (Turn.refl _ _).alloc _
  have Gp1 := Lib.hid (show BBx w2 w1.heap.size gt gf by rw [hw2]; exact BBx.new _ _ _)
  have T2 := Lib.hid (T1.out.trans t2 (fun _ _ h => h))
  have X2 := Lib.hid t2
  change Code.wp _ _ _ _ (w1.alloc (.cells (blC gt gf) 23))
  rw [← hw2]
  clear hw2 t2
  generalize w1.heap.size = p1 at *
  obtain ⟨⟨c0, c1⟩, -⟩ := HB.out w2 T2.out
  go_wp2_with (go_at_call 10; refine stop ?_)
  unfold Stop
  refine (G2.out w2).mono ?_
  rintro r w3 ⟨rfl, t3⟩
  have T3 := Lib.hid (T2.out.trans t3 (fun _ _ h => h))
  have Gp1_3 := Lib.hid (Gp1.out.turn t3 (fun h => h))
  clear t3 c0 c1 Gp1
  go_upto_region 3 with fail
  obtain ⟨w4, hw4⟩ : ∃ z, z = w3.alloc (.cells (blC gt gf) 23) := ⟨_, rfl⟩
  have t4 : Turn (fun _ => False) w3 w4 := by rw [hw4]; exact (Turn.refl _ _).alloc _
  have Gp2 := Lib.hid (show BBx w4 w3.heap.size gt gf by rw [hw4]; exact BBx.new _ _ _)
  have T4 := Lib.hid (T3.out.trans t4 (fun _ _ h => h))
  have X4 := Lib.hid t4
  change Code.wp _ _ _ _ (w3.alloc (.cells (blC gt gf) 23))
  rw [← hw4]
  clear hw4 t4
  generalize w3.heap.size = p2 at *
  have Gp1_4 := Lib.hid (Gp1_3.out.turn X4.out (fun h => h))
  clear Gp1_3
  obtain ⟨⟨c0, c1⟩, -⟩ := HB.out w4 T4.out
  go_wp2_with (go_at_call 11; refine stop ?_)
  unfold Stop
  refine (ST.out w4).mono ?_
  rintro r w5 ⟨rfl, t5⟩
  have T5 := Lib.hid (T4.out.trans t5 (fun _ _ h => h))
  have Gp1_5 := Lib.hid (Gp1_4.out.turn t5 (fun h => h))
  have Gp2_5 := Lib.hid (Gp2.out.turn t5 (fun h => h))
  clear t5 c0 c1 Gp1_4 Gp2 X4
  go_upto_region 4 with fail
  obtain ⟨w6, hw6⟩ : ∃ z, z = w5.alloc (.cells (blC (stepT t x) (stepF t f x)) 23) := ⟨_, rfl⟩
  have t6 : Turn (fun _ => False) w5 w6 := by rw [hw6]; exact (Turn.refl _ _).alloc _
  have Gp3 := Lib.hid (show BBx w6 w5.heap.size (stepT t x) (stepF t f x) by rw [hw6]; exact BBx.new _ _ _)
  have T6 := Lib.hid (T5.out.trans t6 (fun _ _ h => h))
  have X6 := Lib.hid t6
  change Code.wp _ _ _ _ (w5.alloc (.cells (blC (stepT t x) (stepF t f x)) 23))
  rw [← hw6]
  clear hw6 t6
  generalize w5.heap.size = p3 at *
  have Gp1_6 := Lib.hid (Gp1_5.out.turn X6.out (fun h => h))
  have Gp2_6 := Lib.hid (Gp2_5.out.turn X6.out (fun h => h))
  clear Gp1_5 Gp2_5 X6 ST G1 G2
  obtain ⟨⟨c0, c1⟩, -⟩ := HB.out w6 T6.out
  obtain ⟨⟨d0, d1⟩, -⟩ := Gp3.out.cells
  obtain ⟨⟨a0, a1⟩, -⟩ := Gp1_6.out.cells
  obtain ⟨⟨b0, b1⟩, -⟩ := Gp2_6.out.cells
  have QS := eql_bl (stepT t x) (stepF t f x) t f
  have QG := QGH.out
  have HTW := Lib.hid (TW.out.trans T6.out (fun _ _ h => h))
  clear TW T6 T4 T2 T0 T1 T3 T5 HB Gp1_6 Gp2_6 Gp3
  by_cases hx : x ≤ t
  · have e1 : stepT t x = t := if_pos hx
    have e2 : stepF t f x = f := if_pos hx
    rw [e1] at d0 QS ⊢
    rw [e2] at d1 QS ⊢
    rw [decide_eq_true ⟨rfl, rfl⟩] at QS
    have dx : decide (t < x) = false := decide_eq_false (by omega)
    clear hx e1 e2
    go_wp2_with (first
      | (go_at_call 12; refine (E1.out _).mono ?_; rintro r w9 ⟨rfl, hw9⟩; rw [hw9]; clear hw9 w9)
      | (go_at_call 13; refine (E2.out _).mono ?_; rintro r w9 ⟨rfl, hw9⟩; rw [hw9]; clear hw9 w9)
      | (go_at_call 14; refine (A1.out _).mono ?_; rintro r w9 ⟨rfl, hw9⟩; rw [hw9]; clear hw9 w9)
      | (go_at_call 15; refine (A2.out _).mono ?_; rintro r w9 ⟨rfl, hw9⟩; rw [hw9]; clear hw9 w9)
      | (go_at_call 16; refine stop ?_))
    unfold Stop
    refine (AW.out w6).mono ?_
    rintro r w9 ⟨rfl, t9⟩
    have T9 := Lib.hid t9
    clear t9 a0 a1 b0 b1 c0 c1 d0 d1
    go_wp2
    go_ret
    exact ⟨rfl, HTW.out.trans T9.out (fun _ _ h => h)⟩
  · have e1 : stepT t x = x := if_neg hx
    have e2 : stepF t f x = -1 := if_neg hx
    rw [e1] at d0 QS ⊢
    rw [e2] at d1 QS ⊢
    generalize decide (x = t ∧ -1 = f) = qq at *
    have dx : decide (t < x) = true := decide_eq_true (by omega)
    clear hx e1 e2
    go_wp2_with (first
      | (go_at_call 12; refine (E1.out _).mono ?_; rintro r w9 ⟨rfl, hw9⟩; rw [hw9]; clear hw9 w9)
      | (go_at_call 13; refine (E2.out _).mono ?_; rintro r w9 ⟨rfl, hw9⟩; rw [hw9]; clear hw9 w9)
      | (go_at_call 14; refine (A1.out _).mono ?_; rintro r w9 ⟨rfl, hw9⟩; rw [hw9]; clear hw9 w9)
      | (go_at_call 15; refine (A2.out _).mono ?_; rintro r w9 ⟨rfl, hw9⟩; rw [hw9]; clear hw9 w9)
      | (go_at_call 16; refine stop ?_))
    unfold Stop
    refine (AW.out w6).mono ?_
    rintro r w9 ⟨rfl, t9⟩
    have T9 := Lib.hid t9
    clear t9 a0 a1 b0 b1 c0 c1 d0 d1
    go_wp2
    go_ret
    exact ⟨rfl, HTW.out.trans T9.out (fun _ _ h => h)⟩
theorem voteTells_walk (n last x own ownT t f from' : Int) (asNew : Bool) (w : World) :
    Calls Try.prog 3 #[.int .i64 n, .int .i64 last, .int .i64 x, .int .i64 own, .int .i64 ownT, blV t f, .int .i64 from', .bool asNew] w fun r w' => r = .returned (.bool true) ∧ Below w.heap.size w w' :=
  (voteTells_any n last x own ownT t f from' asNew w).mono fun _ _ ⟨h1, h2⟩ => ⟨h1, below_of h2⟩
end Go.Proofs.Ytmkpoodhhpfgpaa
