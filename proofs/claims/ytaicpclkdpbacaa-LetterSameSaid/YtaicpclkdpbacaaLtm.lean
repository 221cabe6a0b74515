/- 'LetterSame': its walk. -/
import Derived.Test.YtaicpclkdpbacaaLtl
set_option linter.unusedVariables false
set_option linter.unusedSimpArgs false
namespace Go.Proofs.Ytaicpclkdpbacaa
open Go.RowKit
theorem formL_same {a b : Ltr} (ha : okL a = true) (hb : okL b = true) : decide (formL a = formL b) = sameL a b := by
  unfold sameL
  rw [decide_eq_decide]
  constructor
  · intro h
    rw [← (form_read15 a ha).2, h, (form_read15 b hb).2]
  · rintro rfl; rfl
set_option maxRecDepth 100000 in
set_option maxHeartbeats 8000000 in
theorem letterSame_any (A : Option Addr) (cA : Nat) (S : Option Addr) (cS : Nat) (l : Ltr) (A' : Option Addr) (cA' : Nat) (S' : Option Addr) (cS' : Nat) (l' : Ltr) (w : World) (h : LtN w (fun _ => False) A cA S cS l) (h' : LtN w (fun _ => False) A' cA' S' cS' l') :
    Calls Try.prog 6 #[ltV A cA S cS l, ltV A' cA' S' cS' l'] w fun e w' => e = .returned (.bool true) ∧ Turn (fun _ => False) w w' := by
  have AW := Lib.hid awake15_any
  obtain ⟨g, hg⟩ : ∃ g, g = w.heap.size := ⟨_, rfl⟩
  obtain ⟨w0, hw0⟩ : ∃ w0, w0 = (w.alloc (.cells (ltC A cA S cS l) 25)).alloc (.cells (ltC A' cA' S' cS' l') 25) := ⟨_, rfl⟩
  have hT0 : Turn (fun _ => False) w w0 := by rw [hw0]; exact ((Turn.refl _ _).alloc _).alloc _
  have hg0 : LBx w0 g A cA S cS l := by rw [hw0, hg]; exact heap_alloc2_old _ _ _
  have hg1 : LBx w0 (g + 1) A' cA' S' cS' l' := by rw [hw0, hg]; exact heap_alloc2_new _ _ _
  have HL := Lib.hid (fun (w' : World) (t : Turn (fun _ => False) w0 w') => And.intro ((h.quiet hT0).quiet t) (And.intro ((h'.quiet hT0).quiet t) (And.intro (LBx.cells (hg0.turn t (fun h => h))) (LBx.cells (hg1.turn t (fun h => h))))))
  have TW := Lib.hid hT0
  have HT0 := Lib.hid (Turn.refl (fun _ => False) w0)
  have G1 := great_any A S cA cS (fun _ => False) l
  have G2 := great_any A' S' cA' cS' (fun _ => False) l'
  have P1 := lput_any A S cA cS (fun _ => False) l
  have P2 := lput_any A' S' cA' cS' (fun _ => False) l'
  have S1 := fun w' h1 h2 => rsame_any A S A' S' cA cS cA' cS' (fun _ => False) l l' w' h1 h2
  have S2 := fun w' h1 h2 => same_any A S A' S' cA cS cA' cS' (fun _ => False) (fun _ => False) l l' w' h1 h2
  have S3 := fun w' h1 h2 => same_any A S A S cA cS cA cS (fun _ => False) (fun _ => False) l l w' h1 h2
  rw [sameL_self] at S3
  have BY := fun (ha : okL l = true) (hb : okL l' = true) A1 c1 A2 c2 w' (hx : Sl w' w'.heap.size A1 ((formL l).map bv)) (hy : Sl w' w'.heap.size A2 ((formL l').map bv)) => rbytes_any A1 A2 c1 c2 _ _ (formL l) (formL l') w' hx hy (by have := formL_le ha; unfold maxLen; omega) (by have := formL_le hb; unfold maxLen; omega)
  have FS := @formL_same l l'
  unfold putL at P1 P2
  generalize greL l = ga at *
  generalize greL l' = gb at *
  generalize okL l = oa at *
  generalize okL l' = ob at *
  generalize sameL l l' = s at *
  clear h h' hg0 hg1 hT0
  have G1 := Lib.hid G1
  have G2 := Lib.hid G2
  have S1 := Lib.hid S1
  have S2 := Lib.hid S2
  have S3 := Lib.hid S3
  go_enter Try.func6, Try.ntmps6
  go_upto_region 1 with fail
  change Code.wp _ _ _ _ ((w.alloc (.cells (ltC A cA S cS l) 25)).alloc (.cells (ltC A' cA' S' cS' l') 25))
  rw [← hw0, ← hg]
  clear hw0 hg
  obtain ⟨L0, M0, ⟨c0, c1, c2, c3, c4, c5, c6, c7⟩, ⟨d0, d1, d2, d3, d4, d5, d6, d7⟩⟩ := HL.out w0 HT0.out
  have HL0 := Lib.hid (And.intro L0 M0)
  clear L0 M0
  go_wp2_with (go_at_call 7; refine stop ?_)
  unfold Stop
  refine (G1.out w0 HL0.out.1).mono ?_
  rintro r w1 ⟨rfl, t1⟩
  have HT1 := Lib.hid (HT0.out.trans t1 (fun _ _ h => h))
  clear t1 c0 c1 c2 c3 c4 c5 c6 c7 d0 d1 d2 d3 d4 d5 d6 d7
  cases ga with
  | true =>
    have HT8 := Lib.hid (TW.out.trans HT1.out (fun _ _ h => h))
    go_wp2_with (go_at_call 8; refine stop ?_)
    unfold Stop
    refine (AW.out w1).mono ?_
    rintro r w9 ⟨rfl, t9⟩
    have T9 := Lib.hid t9
    clear t9
    go_wp2
    go_ret
    exact ⟨rfl, HT8.out.trans T9.out (fun _ _ h => h)⟩
  | false =>
  obtain ⟨L1, M1, ⟨c0, c1, c2, c3, c4, c5, c6, c7⟩, ⟨d0, d1, d2, d3, d4, d5, d6, d7⟩⟩ := HL.out w1 HT1.out
  have HL1 := Lib.hid (And.intro L1 M1)
  clear L1 M1
  go_wp2_with (go_at_call 7; refine stop ?_)
  unfold Stop
  refine (G2.out w1 HL1.out.2).mono ?_
  rintro r w2 ⟨rfl, t2⟩
  have HT2 := Lib.hid (HT1.out.trans t2 (fun _ _ h => h))
  clear t2 c0 c1 c2 c3 c4 c5 c6 c7 d0 d1 d2 d3 d4 d5 d6 d7
  cases gb with
  | true =>
    have HT8 := Lib.hid (TW.out.trans HT2.out (fun _ _ h => h))
    go_wp2_with (go_at_call 8; refine stop ?_)
    unfold Stop
    refine (AW.out w2).mono ?_
    rintro r w9 ⟨rfl, t9⟩
    have T9 := Lib.hid t9
    clear t9
    go_wp2
    go_ret
    exact ⟨rfl, HT8.out.trans T9.out (fun _ _ h => h)⟩
  | false =>
  cases oa with
  | false =>
    clear BY FS
    cases ob with
    | false =>
      simp only [Bool.false_eq_true, if_false, List.length_nil, List.map_nil] at P1 P2
      have P1 := Lib.hid P1
      have P2 := Lib.hid P2
      obtain ⟨L2, M2, ⟨c0, c1, c2, c3, c4, c5, c6, c7⟩, ⟨d0, d1, d2, d3, d4, d5, d6, d7⟩⟩ := HL.out w2 HT2.out
      have HL2 := Lib.hid (And.intro L2 M2)
      clear L2 M2
      go_wp2_with (go_at_call 15; refine stop ?_)
      unfold Stop
      refine (S1.out w2 HL2.out.1 HL2.out.2).mono ?_
      rintro r w3 ⟨rfl, t3⟩
      have HT3 := Lib.hid (HT2.out.trans t3 (fun _ _ h => h))
      clear t3 c0 c1 c2 c3 c4 c5 c6 c7 d0 d1 d2 d3 d4 d5 d6 d7
      obtain ⟨L3, M3, ⟨c0, c1, c2, c3, c4, c5, c6, c7⟩, ⟨d0, d1, d2, d3, d4, d5, d6, d7⟩⟩ := HL.out w3 HT3.out
      have HL3 := Lib.hid (And.intro L3 M3)
      clear L3 M3
      go_wp2_with (go_at_call 9; refine stop ?_)
      unfold Stop
      refine (P1.out w3 HL3.out.1).mono ?_
      rintro r w4 ⟨u4, rfl, own4, t4⟩
      obtain ⟨A4, k4, rfl, hs4, -, hk4, ha4⟩ := own_sl own4
      have HT4 := Lib.hid (HT3.out.trans t4 (fun _ _ h => h))
      have HS4 := Lib.hid hs4
      clear own4 hs4 hk4 ha4
      clear t4 c0 c1 c2 c3 c4 c5 c6 c7 d0 d1 d2 d3 d4 d5 d6 d7
      obtain ⟨L4, M4, ⟨c0, c1, c2, c3, c4, c5, c6, c7⟩, ⟨d0, d1, d2, d3, d4, d5, d6, d7⟩⟩ := HL.out w4 HT4.out
      have HL4 := Lib.hid (And.intro L4 M4)
      clear L4 M4
      go_wp2_with (go_at_call 9; refine stop ?_)
      unfold Stop
      refine (P2.out w4 HL4.out.2).mono ?_
      rintro r w5 ⟨u5, rfl, own5, t5⟩
      obtain ⟨A5, k5, rfl, hs5, -, hk5, ha5⟩ := own_sl own5
      have HT5 := Lib.hid (HT4.out.trans t5 (fun _ _ h => h))
      have HX5 := Lib.hid t5
      have HS5 := Lib.hid hs5
      clear own5 hs5 hk5 ha5
      clear t5 c0 c1 c2 c3 c4 c5 c6 c7 d0 d1 d2 d3 d4 d5 d6 d7
      obtain ⟨L5, M5, ⟨c0, c1, c2, c3, c4, c5, c6, c7⟩, ⟨d0, d1, d2, d3, d4, d5, d6, d7⟩⟩ := HL.out w5 HT5.out
      have HL5 := Lib.hid (And.intro L5 M5)
      clear L5 M5
      go_wp2_with (go_at_call 17; refine stop ?_)
      unfold Stop
      refine (S2.out w5 HL5.out.1 HL5.out.2).mono ?_
      rintro r w6 ⟨rfl, t6⟩
      have HT6 := Lib.hid (HT5.out.trans t6 (fun _ _ h => h))
      have HX6 := Lib.hid (HX5.out.trans t6 (fun _ _ h => h))
      have HY6 := Lib.hid t6
      clear t6 c0 c1 c2 c3 c4 c5 c6 c7 d0 d1 d2 d3 d4 d5 d6 d7
      obtain ⟨L6, M6, ⟨c0, c1, c2, c3, c4, c5, c6, c7⟩, ⟨d0, d1, d2, d3, d4, d5, d6, d7⟩⟩ := HL.out w6 HT6.out
      have HL6 := Lib.hid (And.intro L6 M6)
      clear L6 M6
      go_wp2_with (go_at_call 17; refine stop ?_)
      unfold Stop
      refine (S3.out w6 HL6.out.1 HL6.out.1).mono ?_
      rintro r w7 ⟨rfl, t7⟩
      have HT7 := Lib.hid (HT6.out.trans t7 (fun _ _ h => h))
      have HX7 := Lib.hid (HX6.out.trans t7 (fun _ _ h => h))
      have HY7 := Lib.hid (HY6.out.trans t7 (fun _ _ h => h))
      clear t7 c0 c1 c2 c3 c4 c5 c6 c7 d0 d1 d2 d3 d4 d5 d6 d7
      have HT8 := Lib.hid (TW.out.trans HT7.out (fun _ _ h => h))
      go_wp2_with (go_at_call 8; refine stop ?_)
      unfold Stop
      refine (AW.out w7).mono ?_
      rintro r w9 ⟨rfl, t9⟩
      have T9 := Lib.hid t9
      clear t9
      go_wp2
      go_ret
      exact ⟨rfl, HT8.out.trans T9.out (fun _ _ h => h)⟩
    | true =>
      simp only [Bool.false_eq_true, if_false, if_true, List.length_nil, List.map_nil] at P1 P2
      have P1 := Lib.hid P1
      have P2 := Lib.hid P2
      obtain ⟨L2, M2, ⟨c0, c1, c2, c3, c4, c5, c6, c7⟩, ⟨d0, d1, d2, d3, d4, d5, d6, d7⟩⟩ := HL.out w2 HT2.out
      have HL2 := Lib.hid (And.intro L2 M2)
      clear L2 M2
      go_wp2_with (go_at_call 15; refine stop ?_)
      unfold Stop
      refine (S1.out w2 HL2.out.1 HL2.out.2).mono ?_
      rintro r w3 ⟨rfl, t3⟩
      have HT3 := Lib.hid (HT2.out.trans t3 (fun _ _ h => h))
      clear t3 c0 c1 c2 c3 c4 c5 c6 c7 d0 d1 d2 d3 d4 d5 d6 d7
      obtain ⟨L3, M3, ⟨c0, c1, c2, c3, c4, c5, c6, c7⟩, ⟨d0, d1, d2, d3, d4, d5, d6, d7⟩⟩ := HL.out w3 HT3.out
      have HL3 := Lib.hid (And.intro L3 M3)
      clear L3 M3
      go_wp2_with (go_at_call 9; refine stop ?_)
      unfold Stop
      refine (P1.out w3 HL3.out.1).mono ?_
      rintro r w4 ⟨u4, rfl, own4, t4⟩
      obtain ⟨A4, k4, rfl, hs4, -, hk4, ha4⟩ := own_sl own4
      have HT4 := Lib.hid (HT3.out.trans t4 (fun _ _ h => h))
      have HS4 := Lib.hid hs4
      clear own4 hs4 hk4 ha4
      clear t4 c0 c1 c2 c3 c4 c5 c6 c7 d0 d1 d2 d3 d4 d5 d6 d7
      obtain ⟨L4, M4, ⟨c0, c1, c2, c3, c4, c5, c6, c7⟩, ⟨d0, d1, d2, d3, d4, d5, d6, d7⟩⟩ := HL.out w4 HT4.out
      have HL4 := Lib.hid (And.intro L4 M4)
      clear L4 M4
      go_wp2_with (go_at_call 9; refine stop ?_)
      unfold Stop
      refine (P2.out w4 HL4.out.2).mono ?_
      rintro r w5 ⟨u5, rfl, own5, t5⟩
      obtain ⟨A5, k5, rfl, hs5, -, hk5, ha5⟩ := own_sl own5
      have HT5 := Lib.hid (HT4.out.trans t5 (fun _ _ h => h))
      have HX5 := Lib.hid t5
      have HS5 := Lib.hid hs5
      clear own5 hs5 hk5 ha5
      clear t5 c0 c1 c2 c3 c4 c5 c6 c7 d0 d1 d2 d3 d4 d5 d6 d7
      obtain ⟨L5, M5, ⟨c0, c1, c2, c3, c4, c5, c6, c7⟩, ⟨d0, d1, d2, d3, d4, d5, d6, d7⟩⟩ := HL.out w5 HT5.out
      have HL5 := Lib.hid (And.intro L5 M5)
      clear L5 M5
      go_wp2_with (go_at_call 17; refine stop ?_)
      unfold Stop
      refine (S2.out w5 HL5.out.1 HL5.out.2).mono ?_
      rintro r w6 ⟨rfl, t6⟩
      have HT6 := Lib.hid (HT5.out.trans t6 (fun _ _ h => h))
      have HX6 := Lib.hid (HX5.out.trans t6 (fun _ _ h => h))
      have HY6 := Lib.hid t6
      clear t6 c0 c1 c2 c3 c4 c5 c6 c7 d0 d1 d2 d3 d4 d5 d6 d7
      obtain ⟨L6, M6, ⟨c0, c1, c2, c3, c4, c5, c6, c7⟩, ⟨d0, d1, d2, d3, d4, d5, d6, d7⟩⟩ := HL.out w6 HT6.out
      have HL6 := Lib.hid (And.intro L6 M6)
      clear L6 M6
      go_wp2_with (go_at_call 17; refine stop ?_)
      unfold Stop
      refine (S3.out w6 HL6.out.1 HL6.out.1).mono ?_
      rintro r w7 ⟨rfl, t7⟩
      have HT7 := Lib.hid (HT6.out.trans t7 (fun _ _ h => h))
      have HX7 := Lib.hid (HX6.out.trans t7 (fun _ _ h => h))
      have HY7 := Lib.hid (HY6.out.trans t7 (fun _ _ h => h))
      clear t7 c0 c1 c2 c3 c4 c5 c6 c7 d0 d1 d2 d3 d4 d5 d6 d7
      have HT8 := Lib.hid (TW.out.trans HT7.out (fun _ _ h => h))
      go_wp2_with (go_at_call 8; refine stop ?_)
      unfold Stop
      refine (AW.out w7).mono ?_
      rintro r w9 ⟨rfl, t9⟩
      have T9 := Lib.hid t9
      clear t9
      go_wp2
      go_ret
      exact ⟨rfl, HT8.out.trans T9.out (fun _ _ h => h)⟩
  | true =>
  cases ob with
  | false =>
    simp only [Bool.false_eq_true, if_false, if_true, List.length_nil, List.map_nil] at P1 P2
    have P1 := Lib.hid P1
    have P2 := Lib.hid P2
    clear BY FS
    obtain ⟨L2, M2, ⟨c0, c1, c2, c3, c4, c5, c6, c7⟩, ⟨d0, d1, d2, d3, d4, d5, d6, d7⟩⟩ := HL.out w2 HT2.out
    have HL2 := Lib.hid (And.intro L2 M2)
    clear L2 M2
    go_wp2_with (go_at_call 15; refine stop ?_)
    unfold Stop
    refine (S1.out w2 HL2.out.1 HL2.out.2).mono ?_
    rintro r w3 ⟨rfl, t3⟩
    have HT3 := Lib.hid (HT2.out.trans t3 (fun _ _ h => h))
    clear t3 c0 c1 c2 c3 c4 c5 c6 c7 d0 d1 d2 d3 d4 d5 d6 d7
    obtain ⟨L3, M3, ⟨c0, c1, c2, c3, c4, c5, c6, c7⟩, ⟨d0, d1, d2, d3, d4, d5, d6, d7⟩⟩ := HL.out w3 HT3.out
    have HL3 := Lib.hid (And.intro L3 M3)
    clear L3 M3
    go_wp2_with (go_at_call 9; refine stop ?_)
    unfold Stop
    refine (P1.out w3 HL3.out.1).mono ?_
    rintro r w4 ⟨u4, rfl, own4, t4⟩
    obtain ⟨A4, k4, rfl, hs4, -, hk4, ha4⟩ := own_sl own4
    have HT4 := Lib.hid (HT3.out.trans t4 (fun _ _ h => h))
    have HS4 := Lib.hid hs4
    clear own4 hs4 hk4 ha4
    clear t4 c0 c1 c2 c3 c4 c5 c6 c7 d0 d1 d2 d3 d4 d5 d6 d7
    obtain ⟨L4, M4, ⟨c0, c1, c2, c3, c4, c5, c6, c7⟩, ⟨d0, d1, d2, d3, d4, d5, d6, d7⟩⟩ := HL.out w4 HT4.out
    have HL4 := Lib.hid (And.intro L4 M4)
    clear L4 M4
    go_wp2_with (go_at_call 9; refine stop ?_)
    unfold Stop
    refine (P2.out w4 HL4.out.2).mono ?_
    rintro r w5 ⟨u5, rfl, own5, t5⟩
    obtain ⟨A5, k5, rfl, hs5, -, hk5, ha5⟩ := own_sl own5
    have HT5 := Lib.hid (HT4.out.trans t5 (fun _ _ h => h))
    have HX5 := Lib.hid t5
    have HS5 := Lib.hid hs5
    clear own5 hs5 hk5 ha5
    clear t5 c0 c1 c2 c3 c4 c5 c6 c7 d0 d1 d2 d3 d4 d5 d6 d7
    obtain ⟨L5, M5, ⟨c0, c1, c2, c3, c4, c5, c6, c7⟩, ⟨d0, d1, d2, d3, d4, d5, d6, d7⟩⟩ := HL.out w5 HT5.out
    have HL5 := Lib.hid (And.intro L5 M5)
    clear L5 M5
    go_wp2_with (go_at_call 17; refine stop ?_)
    unfold Stop
    refine (S2.out w5 HL5.out.1 HL5.out.2).mono ?_
    rintro r w6 ⟨rfl, t6⟩
    have HT6 := Lib.hid (HT5.out.trans t6 (fun _ _ h => h))
    have HX6 := Lib.hid (HX5.out.trans t6 (fun _ _ h => h))
    have HY6 := Lib.hid t6
    clear t6 c0 c1 c2 c3 c4 c5 c6 c7 d0 d1 d2 d3 d4 d5 d6 d7
    obtain ⟨L6, M6, ⟨c0, c1, c2, c3, c4, c5, c6, c7⟩, ⟨d0, d1, d2, d3, d4, d5, d6, d7⟩⟩ := HL.out w6 HT6.out
    have HL6 := Lib.hid (And.intro L6 M6)
    clear L6 M6
    go_wp2_with (go_at_call 17; refine stop ?_)
    unfold Stop
    refine (S3.out w6 HL6.out.1 HL6.out.1).mono ?_
    rintro r w7 ⟨rfl, t7⟩
    have HT7 := Lib.hid (HT6.out.trans t7 (fun _ _ h => h))
    have HX7 := Lib.hid (HX6.out.trans t7 (fun _ _ h => h))
    have HY7 := Lib.hid (HY6.out.trans t7 (fun _ _ h => h))
    clear t7 c0 c1 c2 c3 c4 c5 c6 c7 d0 d1 d2 d3 d4 d5 d6 d7
    have HT8 := Lib.hid (TW.out.trans HT7.out (fun _ _ h => h))
    go_wp2_with (go_at_call 8; refine stop ?_)
    unfold Stop
    refine (AW.out w7).mono ?_
    rintro r w9 ⟨rfl, t9⟩
    have T9 := Lib.hid t9
    clear t9
    go_wp2
    go_ret
    exact ⟨rfl, HT8.out.trans T9.out (fun _ _ h => h)⟩
  | true =>
    have BZ := fun A1 c1 A2 c2 w' => BY (by trivial) (by trivial) A1 c1 A2 c2 w'
    have FZ := FS (by trivial) (by trivial)
    rw [FZ] at BZ
    clear BY FS FZ
    simp only [if_true] at P1 P2
    generalize formL l = F at *
    generalize formL l' = F' at *
    generalize F.length = m at *
    generalize F'.length = m' at *
    have P1 := Lib.hid P1
    have P2 := Lib.hid P2
    have BZ := Lib.hid BZ
    obtain ⟨L2, M2, ⟨c0, c1, c2, c3, c4, c5, c6, c7⟩, ⟨d0, d1, d2, d3, d4, d5, d6, d7⟩⟩ := HL.out w2 HT2.out
    have HL2 := Lib.hid (And.intro L2 M2)
    clear L2 M2
    go_wp2_with (go_at_call 15; refine stop ?_)
    unfold Stop
    refine (S1.out w2 HL2.out.1 HL2.out.2).mono ?_
    rintro r w3 ⟨rfl, t3⟩
    have HT3 := Lib.hid (HT2.out.trans t3 (fun _ _ h => h))
    clear t3 c0 c1 c2 c3 c4 c5 c6 c7 d0 d1 d2 d3 d4 d5 d6 d7
    obtain ⟨L3, M3, ⟨c0, c1, c2, c3, c4, c5, c6, c7⟩, ⟨d0, d1, d2, d3, d4, d5, d6, d7⟩⟩ := HL.out w3 HT3.out
    have HL3 := Lib.hid (And.intro L3 M3)
    clear L3 M3
    go_wp2_with (go_at_call 9; refine stop ?_)
    unfold Stop
    refine (P1.out w3 HL3.out.1).mono ?_
    rintro r w4 ⟨u4, rfl, own4, t4⟩
    obtain ⟨A4, k4, rfl, hs4, -, hk4, ha4⟩ := own_sl own4
    have HT4 := Lib.hid (HT3.out.trans t4 (fun _ _ h => h))
    have HS4 := Lib.hid hs4
    clear own4 hs4 hk4 ha4
    clear t4 c0 c1 c2 c3 c4 c5 c6 c7 d0 d1 d2 d3 d4 d5 d6 d7
    obtain ⟨L4, M4, ⟨c0, c1, c2, c3, c4, c5, c6, c7⟩, ⟨d0, d1, d2, d3, d4, d5, d6, d7⟩⟩ := HL.out w4 HT4.out
    have HL4 := Lib.hid (And.intro L4 M4)
    clear L4 M4
    go_wp2_with (go_at_call 9; refine stop ?_)
    unfold Stop
    refine (P2.out w4 HL4.out.2).mono ?_
    rintro r w5 ⟨u5, rfl, own5, t5⟩
    obtain ⟨A5, k5, rfl, hs5, -, hk5, ha5⟩ := own_sl own5
    have HT5 := Lib.hid (HT4.out.trans t5 (fun _ _ h => h))
    have HX5 := Lib.hid t5
    have HS5 := Lib.hid hs5
    clear own5 hs5 hk5 ha5
    clear t5 c0 c1 c2 c3 c4 c5 c6 c7 d0 d1 d2 d3 d4 d5 d6 d7
    obtain ⟨L5, M5, ⟨c0, c1, c2, c3, c4, c5, c6, c7⟩, ⟨d0, d1, d2, d3, d4, d5, d6, d7⟩⟩ := HL.out w5 HT5.out
    have HL5 := Lib.hid (And.intro L5 M5)
    clear L5 M5
    go_wp2_with (go_at_call 17; refine stop ?_)
    unfold Stop
    refine (S2.out w5 HL5.out.1 HL5.out.2).mono ?_
    rintro r w6 ⟨rfl, t6⟩
    have HT6 := Lib.hid (HT5.out.trans t6 (fun _ _ h => h))
    have HX6 := Lib.hid (HX5.out.trans t6 (fun _ _ h => h))
    have HY6 := Lib.hid t6
    clear t6 c0 c1 c2 c3 c4 c5 c6 c7 d0 d1 d2 d3 d4 d5 d6 d7
    obtain ⟨L6, M6, ⟨c0, c1, c2, c3, c4, c5, c6, c7⟩, ⟨d0, d1, d2, d3, d4, d5, d6, d7⟩⟩ := HL.out w6 HT6.out
    have HL6 := Lib.hid (And.intro L6 M6)
    clear L6 M6
    go_wp2_with (go_at_call 17; refine stop ?_)
    unfold Stop
    refine (S3.out w6 HL6.out.1 HL6.out.1).mono ?_
    rintro r w7 ⟨rfl, t7⟩
    have HT7 := Lib.hid (HT6.out.trans t7 (fun _ _ h => h))
    have HX7 := Lib.hid (HX6.out.trans t7 (fun _ _ h => h))
    have HY7 := Lib.hid (HY6.out.trans t7 (fun _ _ h => h))
    clear t7 c0 c1 c2 c3 c4 c5 c6 c7 d0 d1 d2 d3 d4 d5 d6 d7
    go_wp2_with (go_at_call 13; refine stop ?_)
    unfold Stop
    refine (BZ.out A4 k4 A5 k5 w7 ((HX7.out.sl HS4.out (fun _ _ h => h)).more HX7.out.size) ((HY7.out.sl HS5.out (fun _ _ h => h)).more HY7.out.size)).mono ?_
    rintro r w8 ⟨rfl, n8, h8⟩
    have t8 : Turn (fun _ => False) w7 w8 := by rw [h8]; exact (Turn.refl _ _).drewN n8
    have HT8 := Lib.hid (TW.out.trans (HT7.out.trans t8 (fun _ _ h => h)) (fun _ _ h => h))
    clear t8 h8
    go_wp2_with (go_at_call 8; refine stop ?_)
    unfold Stop
    refine (AW.out w8).mono ?_
    rintro r w9 ⟨rfl, t9⟩
    have T9 := Lib.hid t9
    clear t9
    go_wp2
    go_ret
    exact ⟨rfl, HT8.out.trans T9.out (fun _ _ h => h)⟩
theorem letterSame_walk (A : Option Addr) (cA : Nat) (S : Option Addr) (cS : Nat) (l : Ltr) (A' : Option Addr) (cA' : Nat) (S' : Option Addr) (cS' : Nat) (l' : Ltr) (w : World) (h : LtN w (fun _ => False) A cA S cS l) (h' : LtN w (fun _ => False) A' cA' S' cS' l') :
    Calls Try.prog 6 #[ltV A cA S cS l, ltV A' cA' S' cS' l'] w fun e w' => e = .returned (.bool true) ∧ Below w.heap.size w w' :=
  (letterSame_any A cA S cS l A' cA' S' cS' l' w h h').mono fun _ _ ⟨h1, h2⟩ => ⟨h1, turn_stp' h2⟩
end Go.Proofs.Ytaicpclkdpbacaa
