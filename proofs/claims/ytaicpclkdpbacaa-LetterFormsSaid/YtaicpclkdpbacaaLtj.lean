/- 'LetterReads': its walk. -/
import Derived.Test.YtaicpclkdpbacaaLthX
set_option linter.unusedVariables false
set_option linter.unusedSimpArgs false
namespace Go.Proofs.Ytaicpclkdpbacaa
open Go.RowKit
set_option maxRecDepth 100000 in
set_option maxHeartbeats 4000000 in
theorem letterReads_any (A : Option Addr) (c : Nat) (b : List B8) (w : World) (hs : Sl w w.heap.size A (b.map bv)) (hA : A = none → c = 0) (hc : b.length ≤ c) (hm : b.length ≤ maxLen) :
    Calls Try.prog 4 #[.slice A b.length c] w fun e w' => e = .returned (.bool true) ∧ Turn (fun _ => False) w w' := by
  have AW := Lib.hid awake15_any
  by_cases h1 : 500 < b.length
  · have t0 : decide (500 < (b.length : Int)) = true := by rw [decide_eq_true_eq]; omega
    go_enter Try.func4, Try.ntmps4
    go_wp2_with (go_at_call 8; refine (AW.out _).mono ?_; rintro r w9 ⟨rfl, t9⟩)
    go_ret
    exact ⟨rfl, t9⟩
  have t0 : decide (500 < (b.length : Int)) = false := by rw [decide_eq_false_iff_not]; omega
  have T1 := lread15_any A c b w hs hA hc (by omega)
  have T2 := fun w' (k : Turn (fun _ => False) w w') => rlread_any A c b w' ((k.sl hs (fun _ _ h => h)).more k.size) hA hc (by omega)
  unfold LPost at T1 T2
  have SS := fun A1 a1 S1 s1 A2 a2 S2 s2 w' h1 h2 => rsame_any A1 S1 A2 S2 a1 s1 a2 s2 (fun _ => False) (rdV b) (rdV b) w' h1 h2
  rw [sameL_self] at SS
  generalize rdV b = v at *
  generalize rdE b = E at *
  generalize b.length = bl at *
  have T1 := Lib.hid T1
  have T2 := Lib.hid T2
  have SS := Lib.hid SS
  clear hs hA hc hm h1
  go_enter Try.func4, Try.ntmps4
  go_wp2_with fail
  refine T1.out.mono ?_
  rintro r w1 ⟨A1, a1, S1, s1, rfl, L1, t1⟩
  have HT1 := Lib.hid t1
  have HL1 := Lib.hid L1
  clear t1 L1 T1
  go_upto_region 4 with fail
  obtain ⟨w2, hw2⟩ : ∃ w2, w2 = w1.alloc (.cells (ltC A1 a1 S1 s1 v) 25) := ⟨_, rfl⟩
  have t2 : Turn (fun _ => False) w1 w2 := by rw [hw2]; exact (Turn.refl _ _).alloc _
  have HG2 := Lib.hid (show LBx w2 w1.heap.size A1 a1 S1 s1 v by rw [hw2]; exact LBx.new _ _ _ _ _ _)
  have HT2 := Lib.hid (HT1.out.trans t2 (fun _ _ h => h))
  have HL2 := Lib.hid (HL1.out.quiet t2)
  change Code.wp _ _ _ _ (w1.alloc (.cells (ltC A1 a1 S1 s1 v) 25))
  rw [← hw2]
  clear hw2 t2 HT1 HL1
  generalize w1.heap.size = p1 at *
  go_wp2_with fail
  refine (T2.out w2 HT2.out).mono ?_
  rintro r w3 ⟨A3, a3, S3, s3, rfl, L3, t3⟩
  have HT3 := Lib.hid t3
  have HL3 := Lib.hid L3
  clear t3 L3 T2
  go_upto_region 5 with fail
  obtain ⟨w4, hw4⟩ : ∃ w4, w4 = w3.alloc (.cells (ltC A3 a3 S3 s3 v) 25) := ⟨_, rfl⟩
  have t4 : Turn (fun _ => False) w3 w4 := by rw [hw4]; exact (Turn.refl _ _).alloc _
  have t24 := HT3.out.trans t4 (fun _ _ h => h)
  have G4 : LBx w4 w3.heap.size A3 a3 S3 s3 v := by rw [hw4]; exact LBx.new _ _ _ _ _ _
  have G2 : LBx w4 p1 A1 a1 S1 s1 v := HG2.out.turn t24 (fun h => h)
  have HT4 := Lib.hid (HT2.out.trans t24 (fun _ _ h => h))
  have HL4 := Lib.hid (And.intro (HL2.out.quiet t24) (HL3.out.quiet t4))
  change Code.wp _ _ _ _ (w3.alloc (.cells (ltC A3 a3 S3 s3 v) 25))
  rw [← hw4]
  clear hw4 t4 t24 HT2 HL2 HL3 HT3 HG2
  generalize w3.heap.size = p3 at *
  obtain ⟨c0, c1, c2, c3, c4, c5, c6, c7⟩ := G2.cells
  obtain ⟨d0, d1, d2, d3, d4, d5, d6, d7⟩ := G4.cells
  clear G2 G4
  go_wp2_with (go_at_call 15; refine stop ?_)
  unfold Stop
  refine (SS.out A1 a1 S1 s1 A3 a3 S3 s3 w4 HL4.out.1 HL4.out.2).mono ?_
  rintro r w5 ⟨rfl, t5⟩
  have HT5 := Lib.hid (HT4.out.trans t5 (fun _ _ h => h))
  clear t5 c0 c1 c2 c3 c4 c5 c6 c7 d0 d1 d2 d3 d4 d5 d6 d7
  go_wp2_with (go_at_call 8; refine stop ?_)
  unfold Stop
  refine (AW.out w5).mono ?_
  rintro r w9 ⟨rfl, t9⟩
  have T9 := Lib.hid t9
  clear t9
  go_wp2
  go_ret
  exact ⟨rfl, HT5.out.trans T9.out (fun _ _ h => h)⟩
theorem letterReads_walk (A : Option Addr) (c : Nat) (b : List B8) (w : World) (hs : Sl w w.heap.size A (b.map bv)) (hA : A = none → c = 0) (hc : b.length ≤ c) (hm : b.length ≤ maxLen) :
    Calls Try.prog 4 #[.slice A b.length c] w fun e w' => e = .returned (.bool true) ∧ Below w.heap.size w w' :=
  (letterReads_any A c b w hs hA hc hm).mono fun _ _ ⟨h1, h2⟩ => ⟨h1, turn_stp' h2⟩
end Go.Proofs.Ytaicpclkdpbacaa
