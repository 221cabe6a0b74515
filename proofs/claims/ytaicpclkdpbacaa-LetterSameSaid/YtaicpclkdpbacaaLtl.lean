/- 'LetterForms': its walk. -/
import Derived.Test.YtaicpclkdpbacaaLtk
set_option linter.unusedVariables false
set_option linter.unusedSimpArgs false
namespace Go.Proofs.Ytaicpclkdpbacaa
open Go.RowKit
theorem formL_le {l : Ltr} (h : okL l = true) : (formL l).length ≤ 1000000 := by
  obtain ⟨⟨k1, k5, pt, px, py, pz, n16, nb⟩, hits, us⟩ := okL_parts h
  unfold inP at pt px py pz
  have m0 := numB_le (n := l.k.toNat) (by omega)
  have m1 := numB_le (n := l.t.toNat) (by omega)
  have m2 := numB_le (n := l.x.toNat) (by omega)
  have m3 := numB_le (n := l.y.toNat) (by omega)
  have m4 := numB_le (n := l.z.toNat) (by omega)
  have m5 := numB_le (n := l.its.length) (by omega)
  have m6 := numB_le (n := l.b.length) (by omega)
  have m7 := numB_le (n := yesN l.s) (by unfold yesN; split <;> omega)
  have m8 := itsF_le hits
  unfold formL headF
  split
  · simp only [List.length_append]; omega
  split
  · simp only [List.length_append]; omega
  split
  · simp only [List.length_append]; omega
  split
  · simp only [List.length_append]; omega
  · simp only [List.length_append]; omega
set_option maxRecDepth 100000 in
set_option maxHeartbeats 4000000 in
theorem letterForms_any (A : Option Addr) (cA : Nat) (S : Option Addr) (cS : Nat) (l : Ltr) (w : World) (h : LtN w (fun _ => False) A cA S cS l) :
    Calls Try.prog 3 #[ltV A cA S cS l] w fun e w' => e = .returned (.bool true) ∧ Turn (fun _ => False) w w' := by
  have AW := Lib.hid awake15_any
  obtain ⟨g, hg⟩ : ∃ g, g = w.heap.size := ⟨_, rfl⟩
  obtain ⟨w0, hw0⟩ : ∃ w0, w0 = w.alloc (.cells (ltC A cA S cS l) 25) := ⟨_, rfl⟩
  have hT0 : Turn (fun _ => False) w w0 := by rw [hw0]; exact (Turn.refl _ _).alloc _
  have hg0 : LBx w0 g A cA S cS l := by rw [hw0, hg]; exact LBx.new _ _ _ _ _ _
  have HL := Lib.hid (fun (w' : World) (t : Turn (fun _ => False) w0 w') => And.intro ((h.quiet hT0).quiet t) (LBx.cells (hg0.turn t (fun h => h))))
  have TW := Lib.hid hT0
  have HT0 := Lib.hid (Turn.refl (fun _ => False) w0)
  have G1 := great_any A S cA cS (fun _ => False) l
  have P1 := lput_any A S cA cS (fun _ => False) l
  have R1 := rright_any A S cA cS (fun _ => False) l
  have R2 := right_any A S cA cS (fun _ => False) l
  have P2 := rlput_any A S cA cS (fun _ => False) l
  have S1 := fun A1 a1 S1 s1 w' h1 h2 => rsame_any A1 S1 A S a1 s1 cA cS (fun _ => False) l l w' h1 h2
  have BY := fun A1 c1 A2 c2 w' (hn : (formL l).length ≤ maxLen) (hx : Sl w' w'.heap.size A1 ((formL l).map bv)) (hy : Sl w' w'.heap.size A2 ((formL l).map bv)) => rbytes_any A1 A2 c1 c2 _ _ (formL l) (formL l) w' hx hy hn hn
  have T1 := fun A1 c1 w' hs hA hc hl => lread15_any A1 c1 (formL l) w' hs hA hc hl
  have FR := form_read15 l
  have FL := @formL_le l
  rw [sameL_self] at S1
  simp only [decide_true] at BY
  unfold putL at P1
  unfold LPost at T1
  generalize greL l = gr at *
  generalize hq : okL l = ok at *
  clear h hg0 hT0
  have G1 := Lib.hid G1
  have S1 := Lib.hid S1
  have BY := Lib.hid BY
  cases gr with
  | true =>
    clear P1 R1 R2 P2 T1 FR FL hq
    go_enter Try.func3, Try.ntmps3
    go_upto_region 1 with fail
    change Code.wp _ _ _ _ (w.alloc (.cells (ltC A cA S cS l) 25))
    rw [← hw0, ← hg]
    clear hw0 hg
    obtain ⟨L0, c0, c1, c2, c3, c4, c5, c6, c7⟩ := HL.out w0 HT0.out
    have HL0 := Lib.hid L0
    clear L0
    go_wp2_with (go_at_call 7; refine stop ?_)
    unfold Stop
    refine (G1.out w0 HL0.out).mono ?_
    rintro r w1 ⟨rfl, t1⟩
    have HT1 := Lib.hid (TW.out.trans t1 (fun _ _ h => h))
    clear t1 c0 c1 c2 c3 c4 c5 c6 c7
    go_wp2_with (go_at_call 8; refine stop ?_)
    unfold Stop
    refine (AW.out w1).mono ?_
    rintro r w9 ⟨rfl, t9⟩
    have T9 := Lib.hid t9
    clear t9
    go_wp2
    go_ret
    exact ⟨rfl, HT1.out.trans T9.out (fun _ _ h => h)⟩
  | false =>
  cases ok with
  | false =>
    simp only [if_neg (show ¬ false = true by decide), Bool.false_eq_true, if_false, List.length_nil, List.map_nil] at P1
    have P1 := Lib.hid P1
    have R1 := Lib.hid R1
    have R2 := Lib.hid R2
    clear P2 T1 FR FL hq
    go_enter Try.func3, Try.ntmps3
    go_upto_region 1 with fail
    change Code.wp _ _ _ _ (w.alloc (.cells (ltC A cA S cS l) 25))
    rw [← hw0, ← hg]
    clear hw0 hg
    obtain ⟨L0, c0, c1, c2, c3, c4, c5, c6, c7⟩ := HL.out w0 HT0.out
    have HL0 := Lib.hid L0
    clear L0
    go_wp2_with (go_at_call 7; refine stop ?_)
    unfold Stop
    refine (G1.out w0 HL0.out).mono ?_
    rintro r w1 ⟨rfl, t1⟩
    have HT1 := Lib.hid (HT0.out.trans t1 (fun _ _ h => h))
    clear t1 c0 c1 c2 c3 c4 c5 c6 c7
    obtain ⟨L1, c0, c1, c2, c3, c4, c5, c6, c7⟩ := HL.out w1 HT1.out
    have HL1 := Lib.hid L1
    clear L1
    go_wp2_with (go_at_call 9; refine stop ?_)
    unfold Stop
    refine (P1.out w1 HL1.out).mono ?_
    rintro r w2 ⟨u, rfl, own2, t2⟩
    obtain ⟨A2, c2', rfl, hs2, -, hc2, ha2⟩ := own_sl own2
    have HT2 := Lib.hid (HT1.out.trans t2 (fun _ _ h => h))
    clear t2 own2 hs2 hc2 ha2 c0 c1 c2 c3 c4 c5 c6 c7
    obtain ⟨L2, c0, c1, c2, c3, c4, c5, c6, c7⟩ := HL.out w2 HT2.out
    have HL2 := Lib.hid L2
    clear L2
    go_wp2_with (go_at_call 10; refine stop ?_)
    unfold Stop
    refine (R1.out w2 HL2.out).mono ?_
    rintro r w3 ⟨rfl, t3⟩
    have HT3 := Lib.hid (HT2.out.trans t3 (fun _ _ h => h))
    clear t3 c0 c1 c2 c3 c4 c5 c6 c7
    obtain ⟨L3, c0, c1, c2, c3, c4, c5, c6, c7⟩ := HL.out w3 HT3.out
    have HL3 := Lib.hid L3
    clear L3
    go_wp2_with (go_at_call 11; refine stop ?_)
    unfold Stop
    refine (R2.out w3 HL3.out).mono ?_
    rintro r w4 ⟨rfl, t4⟩
    have HT4 := Lib.hid (TW.out.trans (HT3.out.trans t4 (fun _ _ h => h)) (fun _ _ h => h))
    clear t4 c0 c1 c2 c3 c4 c5 c6 c7
    go_wp2_with (go_at_call 8; refine stop ?_)
    unfold Stop
    refine (AW.out w4).mono ?_
    rintro r w9 ⟨rfl, t9⟩
    have T9 := Lib.hid t9
    clear t9
    go_wp2
    go_ret
    exact ⟨rfl, HT4.out.trans T9.out (fun _ _ h => h)⟩
  | true =>
    obtain ⟨fe, fv⟩ := FR rfl
    have fl := FL rfl
    simp only [if_true, fe, fv] at P1 T1
    generalize formL l = F at *
    generalize hbl : F.length = bl at *
    have P1 := Lib.hid P1
    have R1 := Lib.hid R1
    have R2 := Lib.hid R2
    have P2 := Lib.hid P2
    have T1 := Lib.hid T1
    have HFL := Lib.hid fl
    clear FR FL hq fe fv fl hbl
    go_enter Try.func3, Try.ntmps3
    go_upto_region 1 with fail
    change Code.wp _ _ _ _ (w.alloc (.cells (ltC A cA S cS l) 25))
    rw [← hw0, ← hg]
    clear hw0 hg
    obtain ⟨L0, c0, c1, c2, c3, c4, c5, c6, c7⟩ := HL.out w0 HT0.out
    have HL0 := Lib.hid L0
    clear L0
    go_wp2_with (go_at_call 7; refine stop ?_)
    unfold Stop
    refine (G1.out w0 HL0.out).mono ?_
    rintro r w1 ⟨rfl, t1⟩
    have HT1 := Lib.hid (HT0.out.trans t1 (fun _ _ h => h))
    clear t1 c0 c1 c2 c3 c4 c5 c6 c7
    obtain ⟨L1, c0, c1, c2, c3, c4, c5, c6, c7⟩ := HL.out w1 HT1.out
    have HL1 := Lib.hid L1
    clear L1
    go_wp2_with (go_at_call 9; refine stop ?_)
    unfold Stop
    refine (P1.out w1 HL1.out).mono ?_
    rintro r w2 ⟨u, rfl, own2, t2⟩
    obtain ⟨A2, c2', rfl, hs2, -, hc2, ha2⟩ := own_sl own2
    have HT2 := Lib.hid (HT1.out.trans t2 (fun _ _ h => h))
    have HS2 := Lib.hid (And.intro hs2 (And.intro ha2 hc2))
    clear t2 own2 hs2 hc2 ha2 c0 c1 c2 c3 c4 c5 c6 c7
    obtain ⟨L2, c0, c1, c2, c3, c4, c5, c6, c7⟩ := HL.out w2 HT2.out
    have HL2 := Lib.hid L2
    clear L2
    go_wp2_with (go_at_call 10; refine stop ?_)
    unfold Stop
    refine (R1.out w2 HL2.out).mono ?_
    rintro r w3 ⟨rfl, t3⟩
    have HT3 := Lib.hid (HT2.out.trans t3 (fun _ _ h => h))
    have HX3 := Lib.hid t3
    clear t3 c0 c1 c2 c3 c4 c5 c6 c7
    obtain ⟨L3, c0, c1, c2, c3, c4, c5, c6, c7⟩ := HL.out w3 HT3.out
    have HL3 := Lib.hid L3
    clear L3
    go_wp2_with (go_at_call 11; refine stop ?_)
    unfold Stop
    refine (R2.out w3 HL3.out).mono ?_
    rintro r w4 ⟨rfl, t4⟩
    have HT4 := Lib.hid (HT3.out.trans t4 (fun _ _ h => h))
    have HX4 := Lib.hid (HX3.out.trans t4 (fun _ _ h => h))
    clear t4 c0 c1 c2 c3 c4 c5 c6 c7
    go_wp2_with (go_at_call 12; refine stop ?_)
    unfold Stop
    refine (T1.out A2 c2' w4 ((HX4.out.sl HS2.out.1 (fun _ _ h => h)).more HX4.out.size) HS2.out.2.1 HS2.out.2.2 (by have := HFL.out; omega)).mono ?_
    rintro r w5 ⟨A5, a5, S5, s5, rfl, L5, t5⟩
    have HT5 := Lib.hid (HT4.out.trans t5 (fun _ _ h => h))
    have HX5 := Lib.hid (HX4.out.trans t5 (fun _ _ h => h))
    have HM5 := Lib.hid L5
    clear t5 L5 HT4 HX4 HT3 HX3 HT2 HT1
    go_upto_region 9 with fail
    obtain ⟨w6, hw6⟩ : ∃ w6, w6 = w5.alloc (.cells (ltC A5 a5 S5 s5 l) 25) := ⟨_, rfl⟩
    have t6 : Turn (fun _ => False) w5 w6 := by rw [hw6]; exact (Turn.refl _ _).alloc _
    have HG6 := Lib.hid (show LBx w6 w5.heap.size A5 a5 S5 s5 l by rw [hw6]; exact LBx.new _ _ _ _ _ _)
    have HT6 := Lib.hid (HT5.out.trans t6 (fun _ _ h => h))
    have HX6 := Lib.hid (HX5.out.trans t6 (fun _ _ h => h))
    have HM6 := Lib.hid (HM5.out.quiet t6)
    change Code.wp _ _ _ _ (w5.alloc (.cells (ltC A5 a5 S5 s5 l) 25))
    rw [← hw6]
    clear hw6 t6 HT5 HX5 HM5
    generalize w5.heap.size = p5 at *
    obtain ⟨L6, c0, c1, c2, c3, c4, c5, c6, c7⟩ := HL.out w6 HT6.out
    have HL6 := Lib.hid L6
    clear L6
    go_wp2_with (go_at_call 14; refine stop ?_)
    unfold Stop
    refine (P2.out w6 HL6.out trivial).mono ?_
    rintro r w7 ⟨u7, rfl, own7, t7⟩
    obtain ⟨A7, c7', rfl, hs7, -, hc7, ha7⟩ := own_sl own7
    have HT7 := Lib.hid (HT6.out.trans t7 (fun _ _ h => h))
    have HX7 := Lib.hid (HX6.out.trans t7 (fun _ _ h => h))
    have HS7 := Lib.hid hs7
    have HM7 := Lib.hid (HM6.out.quiet t7)
    have HG7 := Lib.hid (HG6.out.turn t7 (fun h => h))
    clear t7 own7 hs7 hc7 ha7 c0 c1 c2 c3 c4 c5 c6 c7 HT6 HX6 HM6 HG6
    go_wp2_with (go_at_call 13; refine stop ?_)
    unfold Stop
    refine (BY.out A2 c2' A7 c7' w7 (by have := HFL.out; unfold maxLen; omega) ((HX7.out.sl HS2.out.1 (fun _ _ h => h)).more HX7.out.size) HS7.out).mono ?_
    rintro r w8 ⟨rfl, n8, h8⟩
    have t8 : Turn (fun _ => False) w7 w8 := by rw [h8]; exact (Turn.refl _ _).drewN n8
    have HT8 := Lib.hid (HT7.out.trans t8 (fun _ _ h => h))
    have HM8 := Lib.hid (HM7.out.quiet t8)
    have G8 := HG7.out.turn t8 (fun h => h)
    clear t8 h8 HT7 HX7 HM7 HG7 HS7 HS2
    obtain ⟨d0, d1, d2, d3, d4, d5, d6, d7⟩ := G8.cells
    clear G8
    obtain ⟨L8, c0, c1, c2, c3, c4, c5, c6, c7⟩ := HL.out w8 HT8.out
    have HL8 := Lib.hid L8
    clear L8
    go_wp2_with (go_at_call 15; refine stop ?_)
    unfold Stop
    refine (S1.out A5 a5 S5 s5 w8 HM8.out HL8.out).mono ?_
    rintro r w10 ⟨rfl, t10⟩
    have HT10 := Lib.hid (TW.out.trans (HT8.out.trans t10 (fun _ _ h => h)) (fun _ _ h => h))
    clear t10 c0 c1 c2 c3 c4 c5 c6 c7 d0 d1 d2 d3 d4 d5 d6 d7
    go_wp2_with (go_at_call 8; refine stop ?_)
    unfold Stop
    refine (AW.out w10).mono ?_
    rintro r w9 ⟨rfl, t9⟩
    have T9 := Lib.hid t9
    clear t9
    go_wp2
    go_ret
    exact ⟨rfl, HT10.out.trans T9.out (fun _ _ h => h)⟩
theorem letterForms_walk (A : Option Addr) (cA : Nat) (S : Option Addr) (cS : Nat) (l : Ltr) (w : World) (h : LtN w (fun _ => False) A cA S cS l) :
    Calls Try.prog 3 #[ltV A cA S cS l] w fun e w' => e = .returned (.bool true) ∧ Below w.heap.size w w' :=
  (letterForms_any A cA S cS l w h).mono fun _ _ ⟨h1, h2⟩ => ⟨h1, turn_stp' h2⟩
end Go.Proofs.Ytaicpclkdpbacaa
