/- 'LetterOne': its walk. -/
import Derived.Test.YtaicpclkdpbacaaLtj
set_option linter.unusedVariables false
set_option linter.unusedSimpArgs false
namespace Go.Proofs.Ytaicpclkdpbacaa
open Go.RowKit
set_option maxRecDepth 100000 in
set_option maxHeartbeats 4000000 in
theorem letterOne_any (A : Option Addr) (c : Nat) (b : List B8) (w : World) (hs : Sl w w.heap.size A (b.map bv)) (hA : A = none → c = 0) (hc : b.length ≤ c) (hm : b.length ≤ maxLen) :
    Calls Try.prog 5 #[.slice A b.length c] w fun e w' => e = .returned (.bool true) ∧ Turn (fun _ => False) w w' := by
  have AW := Lib.hid awake15_any
  by_cases h1 : 500 < b.length
  · have t0 : decide (500 < (b.length : Int)) = true := by rw [decide_eq_true_eq]; omega
    go_enter Try.func5, Try.ntmps5
    go_wp2_with (go_at_call 8; refine (AW.out _).mono ?_; rintro r w9 ⟨rfl, t9⟩)
    go_ret
    exact ⟨rfl, t9⟩
  have t0 : decide (500 < (b.length : Int)) = false := by rw [decide_eq_false_iff_not]; omega
  have T1 := lread15_any A c b w hs hA hc (by omega)
  unfold LPost at T1
  have P1 := fun A1 a1 S1 s1 w' h => lput_any A1 S1 a1 s1 (fun _ => False) (rdV b) w' h
  have R1 := fun A1 a1 S1 s1 w' h => right_any A1 S1 a1 s1 (fun _ => False) (rdV b) w' h
  have BY := fun A1 c1 w' (k : Turn (fun _ => False) w w') (hy : Sl w' w'.heap.size A1 (b.map bv)) => rbytes_any A A1 c c1 _ _ b b w' ((k.sl hs (fun _ _ h => h)).more k.size) hy hm hm
  rw [show decide (b = b) = true from decide_eq_true rfl] at BY
  have RF := @read_form15 b
  unfold putL at P1
  generalize rdV b = v at *
  generalize rdE b = E at *
  by_cases hE : E = 0
  · subst hE
    obtain ⟨ok, fm⟩ := RF rfl
    simp only [ok, fm, if_true] at P1 R1
    generalize b.length = bl at *
    have T1 := Lib.hid T1
    have P1 := Lib.hid P1
    have R1 := Lib.hid R1
    have BY := Lib.hid BY
    clear hs hA hc hm h1 ok fm RF
    go_enter Try.func5, Try.ntmps5
    go_wp2_with fail
    refine T1.out.mono ?_
    rintro r w1 ⟨A1, a1, S1, s1, rfl, L1, t1⟩
    have HT1 := Lib.hid t1
    have HL1 := Lib.hid L1
    clear t1 L1 T1
    go_upto_region 4 with fail
    obtain ⟨w2, hw2⟩ : ∃ w2, w2 = w1.alloc (.cells (ltC A1 a1 S1 s1 v) 25) := ⟨_, rfl⟩
    have t2 : Turn (fun _ => False) w1 w2 := by rw [hw2]; exact (Turn.refl _ _).alloc _
    have G2 : LBx w2 w1.heap.size A1 a1 S1 s1 v := by rw [hw2]; exact LBx.new _ _ _ _ _ _
    have HT2 := Lib.hid (HT1.out.trans t2 (fun _ _ h => h))
    have HL2 := Lib.hid (HL1.out.quiet t2)
    change Code.wp _ _ _ _ (w1.alloc (.cells (ltC A1 a1 S1 s1 v) 25))
    rw [← hw2]
    clear hw2 t2 HT1 HL1
    generalize w1.heap.size = p1 at *
    have HG2 := Lib.hid G2
    obtain ⟨c0, c1, c2, c3, c4, c5, c6, c7⟩ := G2.cells
    clear G2
    go_wp2_with (go_at_call 9; refine stop ?_)
    unfold Stop
    refine (P1.out A1 a1 S1 s1 w2 HL2.out).mono ?_
    rintro r w3 ⟨u, rfl, own3, t3⟩
    obtain ⟨A3, c3', rfl, hs3, -, hc3, ha3⟩ := own_sl own3
    have HT3 := Lib.hid (HT2.out.trans t3 (fun _ _ h => h))
    have HL3 := Lib.hid (HL2.out.quiet t3)
    have G3 : LBx w3 p1 A1 a1 S1 s1 v := HG2.out.turn t3 (fun h => h)
    have HS3 := Lib.hid hs3
    clear t3 own3 hs3 hc3 ha3 HL2 HT2 HG2 c0 c1 c2 c3 c4 c5 c6 c7
    obtain ⟨c0, c1, c2, c3, c4, c5, c6, c7⟩ := G3.cells
    clear G3
    go_wp2_with (go_at_call 11; refine stop ?_)
    unfold Stop
    refine (R1.out A1 a1 S1 s1 w3 HL3.out).mono ?_
    rintro r w4 ⟨rfl, t4⟩
    have HT4 := Lib.hid (HT3.out.trans t4 (fun _ _ h => h))
    have HS4 := Lib.hid ((t4.sl HS3.out (fun _ _ h => h)).more t4.size)
    clear t4 HS3 HT3 HL3 c0 c1 c2 c3 c4 c5 c6 c7
    go_wp2_with (go_at_call 13; refine stop ?_)
    unfold Stop
    refine (BY.out A3 c3' w4 HT4.out HS4.out).mono ?_
    rintro r w5 ⟨rfl, n5, h5⟩
    have HT5 := Lib.hid (HT4.out.drewN n5)
    rw [← h5] at HT5
    clear h5
    go_wp2_with (go_at_call 8; refine stop ?_)
    unfold Stop
    refine (AW.out w5).mono ?_
    rintro r w9 ⟨rfl, t9⟩
    have T9 := Lib.hid t9
    clear t9
    go_wp2
    go_ret
    exact ⟨rfl, HT5.out.trans T9.out (fun _ _ h => h)⟩
  · have hez : ((E : Int) == 0) = false := by simp; omega
    generalize b.length = bl at *
    have T1 := Lib.hid T1
    clear hs hA hc hm h1 RF P1 R1 BY hE
    go_enter Try.func5, Try.ntmps5
    go_wp2_with fail
    refine T1.out.mono ?_
    rintro r w1 ⟨A1, a1, S1, s1, rfl, L1, t1⟩
    have HT1 := Lib.hid t1
    clear t1 L1 T1
    go_upto_region 4 with fail
    obtain ⟨w2, hw2⟩ : ∃ w2, w2 = w1.alloc (.cells (ltC A1 a1 S1 s1 v) 25) := ⟨_, rfl⟩
    have t2 : Turn (fun _ => False) w1 w2 := by rw [hw2]; exact (Turn.refl _ _).alloc _
    have HT2 := Lib.hid (HT1.out.trans t2 (fun _ _ h => h))
    change Code.wp _ _ _ _ (w1.alloc (.cells (ltC A1 a1 S1 s1 v) 25))
    rw [← hw2]
    clear hw2 t2 HT1
    generalize w1.heap.size = p1 at *
    go_wp2_with (go_at_call 8; refine stop ?_)
    unfold Stop
    refine (AW.out w2).mono ?_
    rintro r w9 ⟨rfl, t9⟩
    have T9 := Lib.hid t9
    clear t9
    go_wp2
    go_ret
    exact ⟨rfl, HT2.out.trans T9.out (fun _ _ h => h)⟩
theorem letterOne_walk (A : Option Addr) (c : Nat) (b : List B8) (w : World) (hs : Sl w w.heap.size A (b.map bv)) (hA : A = none → c = 0) (hc : b.length ≤ c) (hm : b.length ≤ maxLen) :
    Calls Try.prog 5 #[.slice A b.length c] w fun e w' => e = .returned (.bool true) ∧ Below w.heap.size w w' :=
  (letterOne_any A c b w hs hA hc hm).mono fun _ _ ⟨h1, h2⟩ => ⟨h1, turn_stp' h2⟩
end Go.Proofs.Ytaicpclkdpbacaa
