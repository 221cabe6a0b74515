/- Merged: The landed 'Is' of certificates. bytes.Equal; the landed 'holds', 'Proves'. -/
import Derived.Test.YthoaaieiiokcmaaGreatDoorM23
import Derived.Test.YthoaaieiiokcmaaGreatDoorM21
import Derived.Laws.IdiomStrings
import Derived.Laws.BytesArg
namespace Go.Proofs.YthoaaieiiokcmaaGreatDoor
section
set_option linter.unusedVariables false
set_option linter.unusedSimpArgs false
open Go.RowKit
attribute [local go_sem ↓] loadAt_cr loadAt_hd loadAt_en loadAt_id
attribute [local go_sem] run_crLoad run_hdLoad run_enLoad run_idLoad rowOf_drew rowOf_drewN
theorem pE_le2 (e : Ent) (hd : e.d.length = 32) : (pE e).length ≤ 100 := by
  unfold pE; split
  · exact ent_le e hd (by assumption)
  · simp
theorem own_bt {w : World} {B n : Nat} {v : Value} {xs : List B8} (h : w.ownsRow B 5 1 v n (xs.map bv)) : ∃ A c, v = .slice A xs.length c ∧ Bts w A xs ∧ xs.length ≤ c ∧ (A = none → c = 0) := by
  obtain ⟨A, c, rfl, sl, hl, hc, ha⟩ := own_sl h
  rw [List.length_map] at hl
  exact ⟨A, c, by rw [hl], Bts.of_sl sl, by omega, ha⟩
set_option maxRecDepth 100000 in
set_option maxHeartbeats 8000000 in
theorem cis_nil (x : Crt) (A : Option Addr) (c : Nat) (w : World) (hx : x.L) :
    Calls Tryz.prog 8 #[.pointer none, .agg (x.cells A c).toArray] w fun r w' => r = .returned (.bool false) ∧ Turn (fun _ => False) w w' := by
  have TE := Lib.hid (fun w => put_any x.e w hx.1)
  have TH := Lib.hid (fun w => hput_any x.h w hx.2.1)
  obtain ⟨C, hC⟩ : ∃ C, C = (x.cells A c).toArray := ⟨_, rfl⟩
  rw [← hC]
  obtain ⟨w1, hw1⟩ : ∃ w1, w1 = w.alloc (.cells C 35) := ⟨_, rfl⟩
  have t1 : Turn (fun _ => False) w w1 := by rw [hw1]; exact (Turn.refl _ _).alloc _
  have e1 : CAt w1 w.heap.size x A c := by unfold CAt; rw [← hC, hw1]; exact heap_alloc_new _ _
  obtain ⟨EC, hEC⟩ : ∃ L, L = x.e.cells.toArray := ⟨_, rfl⟩
  obtain ⟨HC, hHC⟩ : ∃ L, L = x.h.cells.toArray := ⟨_, rfl⟩
  obtain ⟨TC, hTC⟩ : ∃ L, L = (x.t.map bv).toArray := ⟨_, rfl⟩
  obtain ⟨RC, hRC⟩ : ∃ L, L = (x.h.r.map bv).toArray := ⟨_, rfl⟩
  obtain ⟨n, hn⟩ : ∃ n, n = x.ids.length := ⟨_, rfl⟩
  have RW := Lib.hid (fun (w' : World) (t : Turn (fun _ => False) w1 w') => show rowOf w' w.heap.size 0 37 = some EC ∧ rowOf w' w.heap.size 38 67 = some HC ∧ rowOf w' w.heap.size 105 32 = some TC ∧ rowOf w' w.heap.size 73 32 = some RC ∧ w'.cell? ⟨w.heap.size, 37, none⟩ = some (.slice A n c) ∧ w'.cell? ⟨w.heap.size, 1, none⟩ = some (.int .i64 x.e.s) ∧ w'.cell? ⟨w.heap.size, 36, none⟩ = some (.int .i64 x.e.p) ∧ w'.cell? ⟨w.heap.size, 38, none⟩ = some (.int .i64 x.h.s) ∧ w'.cell? ⟨w.heap.size, 40, none⟩ = some (.int .i64 x.h.p) from by
    have F := CAt.facts (w := w') (show CAt w' w.heap.size x A c from t.heap e1 (fun h => h)) hx
    rw [hEC, hHC, hTC, hRC, hn]
    exact ⟨F.ent, F.hdr, F.tag, F.root, F.path, F.es, F.ep, F.hs, F.hp⟩)
  obtain ⟨F, hFF⟩ : ∃ F, F = pE x.e := ⟨_, rfl⟩
  obtain ⟨G, hGG⟩ : ∃ G, G = pH x.h := ⟨_, rfl⟩
  obtain ⟨OE, hOE⟩ : ∃ b, b = decide (okB x.e) := ⟨_, rfl⟩
  obtain ⟨OH, hOH⟩ : ∃ b, b = decide (okH x.h) := ⟨_, rfl⟩
  rw [← hEC, ← hOE, ← hFF] at TE
  rw [← hHC, ← hOH, ← hGG] at TH
  have T1 := Lib.hid t1
  have HCC := Lib.hid (And.intro hTC (And.intro hRC hn))
  have HFG := Lib.hid (And.intro hFF hGG)
  have HOO := Lib.hid (And.intro hOE hOH)
  have t1' := t1
  clear t1 e1 hC hEC hHC hTC hRC hn hFF hGG hOE hOH
  go_enter Tryz.func8, Tryz.ntmps8
  go_upto_region 1 with fail
  change Code.wp _ _ _ _ (w.alloc (.cells C 35))
  rw [← hw1]
  clear hw1
  obtain ⟨r1, r2, r3, r4, r5, r6, r7, r8, r9⟩ := RW.out w1 (Turn.refl _ _)
  go_wp2_with (go_at_call 22; refine stop ?_)
  unfold Stop
  refine (TE.out w1).mono ?_
  rintro r w2 ⟨u2, rfl, o2, t2⟩
  obtain ⟨A2, c2, rfl, b2, hc2, ha2⟩ := own_bt o2
  have T2 := Lib.hid t2
  have B2 := Lib.hid b2
  have C2 := Lib.hid (And.intro hc2 ha2)
  clear o2 t2 b2 hc2 ha2 r1 r2 r3 r4 r5 r6 r7 r8 r9
  obtain ⟨r1, r2, r3, r4, r5, r6, r7, r8, r9⟩ := RW.out w2 T2.out
  go_wp2_with (go_at_call 23; refine stop ?_)
  unfold Stop
  refine (TH.out w2).mono ?_
  rintro r w3 ⟨u3, rfl, o3, t3⟩
  obtain ⟨A3, c3, rfl, b3, hc3, ha3⟩ := own_bt o3
  have T3 := Lib.hid (T2.out.trans t3 (fun _ _ h => h))
  have B23 := Lib.hid (bts_turn B2.out t3)
  have B3 := Lib.hid b3
  have C3 := Lib.hid (And.intro hc3 ha3)
  clear o3 t3 b3 hc3 ha3 r1 r2 r3 r4 r5 r6 r7 r8 r9
  obtain ⟨r1, r2, r3, r4, r5, r6, r7, r8, r9⟩ := RW.out w3 T3.out
  go_wp2
  go_ret
  exact ⟨rfl, T1.out.trans T3.out (fun _ _ h => h)⟩
set_option maxRecDepth 100000 in
set_option maxHeartbeats 16000000 in
theorem cis_any (gr gk k : Nat) (seed : List B8) (x : Crt) (A : Option Addr) (c : Nat) (w : World) (hR : RingAt w gr gk seed k) (hk : k ≤ 64) (hG : Glob w) (hx : x.L) (px : CPath w x A c) (mx : x.ids.length ≤ 1000000) :
    Calls Tryz.prog 8 #[ringV gr, .agg (x.cells A c).toArray] w fun r w' => r = .returned (.bool (isC seed (k : Int) x)) ∧ Turn (fun _ => False) w w' := by
  rw [isC_code]
  obtain ⟨CM, hCM⟩ : ∃ m, m = clmC x := ⟨_, rfl⟩
  obtain ⟨TG, hTG⟩ : ∃ m, m = tagC seed (k : Int) x := ⟨_, rfl⟩
  rw [← hCM, ← hTG]
  have TE := Lib.hid (fun w => put_any x.e w hx.1)
  have TH := Lib.hid (fun w => hput_any x.h w hx.2.1)
  obtain ⟨C, hC⟩ : ∃ C, C = (x.cells A c).toArray := ⟨_, rfl⟩
  rw [← hC]
  obtain ⟨w1, hw1⟩ : ∃ w1, w1 = w.alloc (.cells C 35) := ⟨_, rfl⟩
  have t1 : Turn (fun _ => False) w w1 := by rw [hw1]; exact (Turn.refl _ _).alloc _
  have e1 : CAt w1 w.heap.size x A c := by unfold CAt; rw [← hC, hw1]; exact heap_alloc_new _ _
  obtain ⟨EC, hEC⟩ : ∃ L, L = x.e.cells.toArray := ⟨_, rfl⟩
  obtain ⟨HC, hHC⟩ : ∃ L, L = x.h.cells.toArray := ⟨_, rfl⟩
  obtain ⟨TC, hTC⟩ : ∃ L, L = (x.t.map bv).toArray := ⟨_, rfl⟩
  obtain ⟨RC, hRC⟩ : ∃ L, L = (x.h.r.map bv).toArray := ⟨_, rfl⟩
  obtain ⟨n, hn⟩ : ∃ n, n = x.ids.length := ⟨_, rfl⟩
  have RW := Lib.hid (fun (w' : World) (t : Turn (fun _ => False) w1 w') => show rowOf w' w.heap.size 0 37 = some EC ∧ rowOf w' w.heap.size 38 67 = some HC ∧ rowOf w' w.heap.size 105 32 = some TC ∧ rowOf w' w.heap.size 73 32 = some RC ∧ w'.cell? ⟨w.heap.size, 37, none⟩ = some (.slice A n c) ∧ w'.cell? ⟨w.heap.size, 1, none⟩ = some (.int .i64 x.e.s) ∧ w'.cell? ⟨w.heap.size, 36, none⟩ = some (.int .i64 x.e.p) ∧ w'.cell? ⟨w.heap.size, 38, none⟩ = some (.int .i64 x.h.s) ∧ w'.cell? ⟨w.heap.size, 40, none⟩ = some (.int .i64 x.h.p) from by
    have F := CAt.facts (w := w') (show CAt w' w.heap.size x A c from t.heap e1 (fun h => h)) hx
    rw [hEC, hHC, hTC, hRC, hn]
    exact ⟨F.ent, F.hdr, F.tag, F.root, F.path, F.es, F.ep, F.hs, F.hp⟩)
  obtain ⟨F, hFF⟩ : ∃ F, F = pE x.e := ⟨_, rfl⟩
  obtain ⟨G, hGG⟩ : ∃ G, G = pH x.h := ⟨_, rfl⟩
  obtain ⟨OE, hOE⟩ : ∃ b, b = decide (okB x.e) := ⟨_, rfl⟩
  obtain ⟨OH, hOH⟩ : ∃ b, b = decide (okH x.h) := ⟨_, rfl⟩
  rw [← hEC, ← hOE, ← hFF] at TE
  rw [← hHC, ← hOH, ← hGG] at TH
  have T1 := Lib.hid t1
  have HCC := Lib.hid (And.intro hTC (And.intro hRC hn))
  have HFG := Lib.hid (And.intro hFF hGG)
  have HOO := Lib.hid (And.intro hOE hOH)
  have t1' := t1
  clear t1 e1 hC hEC hHC hTC hRC hn hFF hGG hOE hOH
  have IX := Lib.hid (show ∀ (w' : World), Turn (fun _ => False) w1 w' → IdsAt w' A x.ids from fun w' t => ((px.turn t1').turn t).1)
  have RX := Lib.hid (show ∀ (w' : World), Turn (fun _ => False) w1 w' → RingAt w' gr gk seed k from fun w' t => (hR.below (turn_stp' t1')).below (turn_stp' t))
  have GX := Lib.hid (show ∀ (w' : World), Turn (fun _ => False) w1 w' → Glob w' from fun w' t => glob_turn (glob_turn hG t1') t)
  have PL := Lib.hid px.2
  have HH := Lib.hid hx
  have HCM := Lib.hid hCM
  have HTG := Lib.hid hTG
  have FE := Lib.hid (pE_le2 x.e hx.1)
  have FH := Lib.hid (pH_le x.h hx.2.1)
  clear hCM hTG hR hG px
  unfold ringV
  by_cases oe : okB x.e
  · have e1 := HOO.out.1
    rw [decide_eq_true oe] at e1
    subst e1
    by_cases oh : okH x.h
    · have e2 := HOO.out.2
      rw [decide_eq_true oh] at e2
      subst e2
      by_cases os : x.e.s = x.h.s
      · have q1 : (x.e.s == x.h.s) = true := by simp [os]
        by_cases op : x.e.p = x.h.p
        · have q2 : (x.e.p == x.h.p) = true := by simp [op]
          have HIS := Lib.hid (show isD x.h.r (climbZ F 1 3 x.ids) = CM by rw [HCM.out, HFG.out.1]; unfold clmC pE; rw [if_pos oe])
          have HTS := Lib.hid (show (decide (x.h.s < (k : Int)) && decide (signD seed x.h.s.toNat G = x.t)) = TG by rw [HTG.out, HFG.out.2]; unfold tagC pH; rw [if_pos oh])
          have HS0 := Lib.hid (show 0 ≤ x.h.s by unfold okH at oh; omega)
          rw [decide_eq_true oe, decide_eq_true oh, decide_eq_true os, decide_eq_true op]
          simp only [Bool.true_and]
          clear oe oh os op
          cases CM with
          | false =>
            go_enter Tryz.func8, Tryz.ntmps8
            go_upto_region 1 with fail
            change Code.wp _ _ _ _ (w.alloc (.cells C 35))
            rw [← hw1]
            clear hw1
            obtain ⟨r1, r2, r3, r4, r5, r6, r7, r8, r9⟩ := RW.out w1 (Turn.refl _ _)
            go_wp2_with (go_at_call 22; refine stop ?_)
            unfold Stop
            refine (TE.out w1).mono ?_
            rintro r w2 ⟨u2, rfl, o2, t2⟩
            obtain ⟨A2, c2, rfl, b2, hc2, ha2⟩ := own_bt o2
            have T2 := Lib.hid t2
            have B2 := Lib.hid b2
            have C2 := Lib.hid (And.intro hc2 ha2)
            clear o2 t2 b2 hc2 ha2 r1 r2 r3 r4 r5 r6 r7 r8 r9
            obtain ⟨r1, r2, r3, r4, r5, r6, r7, r8, r9⟩ := RW.out w2 T2.out
            go_wp2_with (go_at_call 23; refine stop ?_)
            unfold Stop
            refine (TH.out w2).mono ?_
            rintro r w3 ⟨u3, rfl, o3, t3⟩
            obtain ⟨A3, c3, rfl, b3, hc3, ha3⟩ := own_bt o3
            have T3 := Lib.hid (T2.out.trans t3 (fun _ _ h => h))
            have B23 := Lib.hid (bts_turn B2.out t3)
            have B3 := Lib.hid b3
            have C3 := Lib.hid (And.intro hc3 ha3)
            clear o3 t3 b3 hc3 ha3 r1 r2 r3 r4 r5 r6 r7 r8 r9
            obtain ⟨r1, r2, r3, r4, r5, r6, r7, r8, r9⟩ := RW.out w3 T3.out
            have TI := Lib.hid (is_any x.h.r A2 c2 F 1 3 x.ids A c w3 HH.out.2.1.2 C2.out.1 (by have := FE.out; rw [← HFG.out.1] at this; omega) PL.out.1 mx (IX.out w3 T3.out) B23.out (GX.out w3 T3.out))
            rw [← HCC.out.2.1, ← HCC.out.2.2, HIS.out] at TI
            go_wp2_with (go_at_call 28; refine stop ?_)
            unfold Stop
            refine TI.out.mono ?_
            rintro r w4 ⟨rfl, h4⟩
            have T4 := Lib.hid (T3.out.trans (of_turn h4) (fun _ _ h => h))
            have B34 := Lib.hid (bts_turn B3.out (of_turn h4))
            clear h4 r1 r2 r3 r4 r5 r6 r7 r8 r9 TI
            obtain ⟨r1, r2, r3, r4, r5, r6, r7, r8, r9⟩ := RW.out w4 T4.out
            go_wp2
            go_ret
            exact ⟨rfl, T1.out.trans T4.out (fun _ _ h => h)⟩
          | true =>
            go_enter Tryz.func8, Tryz.ntmps8
            go_upto_region 1 with fail
            change Code.wp _ _ _ _ (w.alloc (.cells C 35))
            rw [← hw1]
            clear hw1
            obtain ⟨r1, r2, r3, r4, r5, r6, r7, r8, r9⟩ := RW.out w1 (Turn.refl _ _)
            go_wp2_with (go_at_call 22; refine stop ?_)
            unfold Stop
            refine (TE.out w1).mono ?_
            rintro r w2 ⟨u2, rfl, o2, t2⟩
            obtain ⟨A2, c2, rfl, b2, hc2, ha2⟩ := own_bt o2
            have T2 := Lib.hid t2
            have B2 := Lib.hid b2
            have C2 := Lib.hid (And.intro hc2 ha2)
            clear o2 t2 b2 hc2 ha2 r1 r2 r3 r4 r5 r6 r7 r8 r9
            obtain ⟨r1, r2, r3, r4, r5, r6, r7, r8, r9⟩ := RW.out w2 T2.out
            go_wp2_with (go_at_call 23; refine stop ?_)
            unfold Stop
            refine (TH.out w2).mono ?_
            rintro r w3 ⟨u3, rfl, o3, t3⟩
            obtain ⟨A3, c3, rfl, b3, hc3, ha3⟩ := own_bt o3
            have T3 := Lib.hid (T2.out.trans t3 (fun _ _ h => h))
            have B23 := Lib.hid (bts_turn B2.out t3)
            have B3 := Lib.hid b3
            have C3 := Lib.hid (And.intro hc3 ha3)
            clear o3 t3 b3 hc3 ha3 r1 r2 r3 r4 r5 r6 r7 r8 r9
            obtain ⟨r1, r2, r3, r4, r5, r6, r7, r8, r9⟩ := RW.out w3 T3.out
            have TI := Lib.hid (is_any x.h.r A2 c2 F 1 3 x.ids A c w3 HH.out.2.1.2 C2.out.1 (by have := FE.out; rw [← HFG.out.1] at this; omega) PL.out.1 mx (IX.out w3 T3.out) B23.out (GX.out w3 T3.out))
            rw [← HCC.out.2.1, ← HCC.out.2.2, HIS.out] at TI
            go_wp2_with (go_at_call 28; refine stop ?_)
            unfold Stop
            refine TI.out.mono ?_
            rintro r w4 ⟨rfl, h4⟩
            have T4 := Lib.hid (T3.out.trans (of_turn h4) (fun _ _ h => h))
            have B34 := Lib.hid (bts_turn B3.out (of_turn h4))
            clear h4 r1 r2 r3 r4 r5 r6 r7 r8 r9 TI
            obtain ⟨r1, r2, r3, r4, r5, r6, r7, r8, r9⟩ := RW.out w4 T4.out
            have TR := Lib.hid (ringIs_u gr gk k x.h.s seed G x.t A3 c3 w4 (RX.out w4 T4.out) HS0.out hk B34.out C3.out.1 (GX.out w4 T4.out) (by have := FH.out; rw [← HFG.out.2] at this; omega) HH.out.2.2.1)
            unfold ringV at TR
            rw [← HCC.out.1, HTS.out] at TR
            go_wp2_with (go_at_call 29; refine stop ?_)
            unfold Stop
            refine TR.out.mono ?_
            rintro r w5 ⟨rfl, h5⟩
            have T5 := Lib.hid (T4.out.trans (of_turn h5) (fun _ _ h => h))
            clear h5
            go_wp2
            go_ret
            exact ⟨rfl, T1.out.trans T5.out (fun _ _ h => h)⟩
        · have q2 : (x.e.p == x.h.p) = false := by simp [op]
          rw [decide_eq_false op]
          simp only [Bool.and_false, Bool.false_and]
          clear oe oh os op
          go_enter Tryz.func8, Tryz.ntmps8
          go_upto_region 1 with fail
          change Code.wp _ _ _ _ (w.alloc (.cells C 35))
          rw [← hw1]
          clear hw1
          obtain ⟨r1, r2, r3, r4, r5, r6, r7, r8, r9⟩ := RW.out w1 (Turn.refl _ _)
          go_wp2_with (go_at_call 22; refine stop ?_)
          unfold Stop
          refine (TE.out w1).mono ?_
          rintro r w2 ⟨u2, rfl, o2, t2⟩
          obtain ⟨A2, c2, rfl, b2, hc2, ha2⟩ := own_bt o2
          have T2 := Lib.hid t2
          have B2 := Lib.hid b2
          have C2 := Lib.hid (And.intro hc2 ha2)
          clear o2 t2 b2 hc2 ha2 r1 r2 r3 r4 r5 r6 r7 r8 r9
          obtain ⟨r1, r2, r3, r4, r5, r6, r7, r8, r9⟩ := RW.out w2 T2.out
          go_wp2_with (go_at_call 23; refine stop ?_)
          unfold Stop
          refine (TH.out w2).mono ?_
          rintro r w3 ⟨u3, rfl, o3, t3⟩
          obtain ⟨A3, c3, rfl, b3, hc3, ha3⟩ := own_bt o3
          have T3 := Lib.hid (T2.out.trans t3 (fun _ _ h => h))
          have B23 := Lib.hid (bts_turn B2.out t3)
          have B3 := Lib.hid b3
          have C3 := Lib.hid (And.intro hc3 ha3)
          clear o3 t3 b3 hc3 ha3 r1 r2 r3 r4 r5 r6 r7 r8 r9
          obtain ⟨r1, r2, r3, r4, r5, r6, r7, r8, r9⟩ := RW.out w3 T3.out
          go_wp2
          go_ret
          exact ⟨rfl, T1.out.trans T3.out (fun _ _ h => h)⟩
      · have q1 : (x.e.s == x.h.s) = false := by simp [os]
        rw [decide_eq_false os]
        simp only [Bool.and_false, Bool.false_and]
        clear oe oh os
        go_enter Tryz.func8, Tryz.ntmps8
        go_upto_region 1 with fail
        change Code.wp _ _ _ _ (w.alloc (.cells C 35))
        rw [← hw1]
        clear hw1
        obtain ⟨r1, r2, r3, r4, r5, r6, r7, r8, r9⟩ := RW.out w1 (Turn.refl _ _)
        go_wp2_with (go_at_call 22; refine stop ?_)
        unfold Stop
        refine (TE.out w1).mono ?_
        rintro r w2 ⟨u2, rfl, o2, t2⟩
        obtain ⟨A2, c2, rfl, b2, hc2, ha2⟩ := own_bt o2
        have T2 := Lib.hid t2
        have B2 := Lib.hid b2
        have C2 := Lib.hid (And.intro hc2 ha2)
        clear o2 t2 b2 hc2 ha2 r1 r2 r3 r4 r5 r6 r7 r8 r9
        obtain ⟨r1, r2, r3, r4, r5, r6, r7, r8, r9⟩ := RW.out w2 T2.out
        go_wp2_with (go_at_call 23; refine stop ?_)
        unfold Stop
        refine (TH.out w2).mono ?_
        rintro r w3 ⟨u3, rfl, o3, t3⟩
        obtain ⟨A3, c3, rfl, b3, hc3, ha3⟩ := own_bt o3
        have T3 := Lib.hid (T2.out.trans t3 (fun _ _ h => h))
        have B23 := Lib.hid (bts_turn B2.out t3)
        have B3 := Lib.hid b3
        have C3 := Lib.hid (And.intro hc3 ha3)
        clear o3 t3 b3 hc3 ha3 r1 r2 r3 r4 r5 r6 r7 r8 r9
        obtain ⟨r1, r2, r3, r4, r5, r6, r7, r8, r9⟩ := RW.out w3 T3.out
        go_wp2
        go_ret
        exact ⟨rfl, T1.out.trans T3.out (fun _ _ h => h)⟩
    · have e2 := HOO.out.2
      rw [decide_eq_false oh] at e2
      subst e2
      rw [decide_eq_false oh]
      simp only [Bool.and_false, Bool.false_and]
      clear oe oh
      go_enter Tryz.func8, Tryz.ntmps8
      go_upto_region 1 with fail
      change Code.wp _ _ _ _ (w.alloc (.cells C 35))
      rw [← hw1]
      clear hw1
      obtain ⟨r1, r2, r3, r4, r5, r6, r7, r8, r9⟩ := RW.out w1 (Turn.refl _ _)
      go_wp2_with (go_at_call 22; refine stop ?_)
      unfold Stop
      refine (TE.out w1).mono ?_
      rintro r w2 ⟨u2, rfl, o2, t2⟩
      obtain ⟨A2, c2, rfl, b2, hc2, ha2⟩ := own_bt o2
      have T2 := Lib.hid t2
      have B2 := Lib.hid b2
      have C2 := Lib.hid (And.intro hc2 ha2)
      clear o2 t2 b2 hc2 ha2 r1 r2 r3 r4 r5 r6 r7 r8 r9
      obtain ⟨r1, r2, r3, r4, r5, r6, r7, r8, r9⟩ := RW.out w2 T2.out
      go_wp2_with (go_at_call 23; refine stop ?_)
      unfold Stop
      refine (TH.out w2).mono ?_
      rintro r w3 ⟨u3, rfl, o3, t3⟩
      obtain ⟨A3, c3, rfl, b3, hc3, ha3⟩ := own_bt o3
      have T3 := Lib.hid (T2.out.trans t3 (fun _ _ h => h))
      have B23 := Lib.hid (bts_turn B2.out t3)
      have B3 := Lib.hid b3
      have C3 := Lib.hid (And.intro hc3 ha3)
      clear o3 t3 b3 hc3 ha3 r1 r2 r3 r4 r5 r6 r7 r8 r9
      obtain ⟨r1, r2, r3, r4, r5, r6, r7, r8, r9⟩ := RW.out w3 T3.out
      go_wp2
      go_ret
      exact ⟨rfl, T1.out.trans T3.out (fun _ _ h => h)⟩
  · have e1 := HOO.out.1
    rw [decide_eq_false oe] at e1
    subst e1
    rw [decide_eq_false oe]
    simp only [Bool.and_false, Bool.false_and]
    clear oe
    go_enter Tryz.func8, Tryz.ntmps8
    go_upto_region 1 with fail
    change Code.wp _ _ _ _ (w.alloc (.cells C 35))
    rw [← hw1]
    clear hw1
    obtain ⟨r1, r2, r3, r4, r5, r6, r7, r8, r9⟩ := RW.out w1 (Turn.refl _ _)
    go_wp2_with (go_at_call 22; refine stop ?_)
    unfold Stop
    refine (TE.out w1).mono ?_
    rintro r w2 ⟨u2, rfl, o2, t2⟩
    obtain ⟨A2, c2, rfl, b2, hc2, ha2⟩ := own_bt o2
    have T2 := Lib.hid t2
    have B2 := Lib.hid b2
    have C2 := Lib.hid (And.intro hc2 ha2)
    clear o2 t2 b2 hc2 ha2 r1 r2 r3 r4 r5 r6 r7 r8 r9
    obtain ⟨r1, r2, r3, r4, r5, r6, r7, r8, r9⟩ := RW.out w2 T2.out
    go_wp2_with (go_at_call 23; refine stop ?_)
    unfold Stop
    refine (TH.out w2).mono ?_
    rintro r w3 ⟨u3, rfl, o3, t3⟩
    obtain ⟨A3, c3, rfl, b3, hc3, ha3⟩ := own_bt o3
    have T3 := Lib.hid (T2.out.trans t3 (fun _ _ h => h))
    have B23 := Lib.hid (bts_turn B2.out t3)
    have B3 := Lib.hid b3
    have C3 := Lib.hid (And.intro hc3 ha3)
    clear o3 t3 b3 hc3 ha3 r1 r2 r3 r4 r5 r6 r7 r8 r9
    obtain ⟨r1, r2, r3, r4, r5, r6, r7, r8, r9⟩ := RW.out w3 T3.out
    go_wp2
    go_ret
    exact ⟨rfl, T1.out.trans T3.out (fun _ _ h => h)⟩
end
section
set_option linter.unusedVariables false
set_option linter.unusedSimpArgs false
open Go.RowKit
attribute [local go_sem ↓] loadAt_cr loadAt_hd loadAt_en loadAt_id
attribute [local go_sem] run_crLoad run_hdLoad run_enLoad run_idLoad rowOf_drew rowOf_drewN
set_option maxRecDepth 100000 in
theorem u8s_len (b : List B8) : (u8s b).length = b.length := by simp [u8s]
set_option maxRecDepth 100000 in
theorem str_any (A : Option Addr) (c B : Nat) (b : List B8) (w : World) (hs : Sl w B A (b.map bv)) (hA : A = none → c = 0) (hc : b.length ≤ c) :
    (convert 22 9 (.slice A b.length c)).run Tryz.prog w = .ok (.string ⟨(u8s b).toArray⟩) w := by
  cases A with
  | none =>
    have hb : b = [] := by
      have := hA rfl
      exact List.eq_nil_of_length_eq_zero (by omega)
    subst hb
    exact run_convert_bytes_nil w 22 5 Tryz.underlying22 Tryz.underlying5 _ _ _ Tryz.underlying9
  | some ad =>
    have h := run_convert_bytes_back (P := Tryz.prog) w 22 9 5 ad c (u8s b) Tryz.underlying22 Tryz.underlying5 Tryz.underlying9 (fun j hj => by
      rw [u8s_len] at hj
      obtain ⟨ad', e, -, hcell⟩ := hs j _ (bvs_at b j hj)
      injection e with e; subst e
      rw [hcell]
      simp [u8s, bv])
    rw [u8s_len] at h
    exact h
set_option maxRecDepth 100000 in
theorem bequal_any (A A' : Option Addr) (c c' B B' : Nat) (a b : List B8) (w : World) (hs : Sl w B A (a.map bv)) (hA : A = none → c = 0) (hc : a.length ≤ c) (hs' : Sl w B' A' (b.map bv)) (hA' : A' = none → c' = 0) (hc' : b.length ≤ c') :
    Calls Tryz.prog 82 #[.slice A a.length c, .slice A' b.length c'] w fun e w' => e = .returned (.bool (decide (a = b))) ∧ w = w' := by
  have h1 := str_any A c B a w hs hA hc
  have h2 := str_any A' c' B' b w hs' hA' hc'
  have h3 := Lib.hid (show ((ByteArray.mk (u8s a).toArray).toList == (ByteArray.mk (u8s b).toArray).toList) = decide (a = b) by
    rw [← u8s_inj]
    simp [ByteArray.toList_eq])
  generalize decide (a = b) = r at *
  generalize a.length = n at *
  generalize b.length = m at *
  generalize (ByteArray.mk (u8s a).toArray) = sa at *
  generalize (ByteArray.mk (u8s b).toArray) = sb at *
  clear hs hs' hA hA' hc hc'
  go_enter Tryz.func82, Tryz.ntmps82
  go_wp2
  go_ret
  exact ⟨ret_bool h3.out, rfl⟩
/-- Are these a block's leaves, of which the second is the entry's form? -/
def holdsB (ls : List (List B8)) (e : Ent) : Bool := decide (okB e) && (decide (ls.length = 3) && decide (ls[1]? = some (formE e)))
set_option maxRecDepth 100000 in
set_option maxHeartbeats 4000000 in
theorem holds_any (L : Option Addr) (c : Nat) (ls : List (List B8)) (e : Ent) (w : World) (hL : LstN w L ls) (hc : ls.length ≤ c) (hm : ls.length ≤ 1000000) (hd : e.d.length = 32) :
    Calls Tryz.prog 46 #[.slice L ls.length c, .agg e.cells.toArray] w fun r w' => r = .returned (.bool (holdsB ls e)) ∧ Turn (fun _ => False) w w' := by
  have TE := Lib.hid (fun w => put_any e w hd)
  have HB := Lib.hid (show holdsB ls e = (decide (okB e) && (decide (ls.length = 3) && decide (ls[1]? = some (formE e)))) from rfl)
  have PE := Lib.hid (show okB e → pE e = formE e from fun h => if_pos h)
  obtain ⟨C, hC⟩ : ∃ C, C = e.cells.toArray := ⟨_, rfl⟩
  rw [← hC] at TE
  rw [← hC]
  obtain ⟨w1, hw1⟩ : ∃ w1, w1 = w.alloc (.cells C 27) := ⟨_, rfl⟩
  have t1 : Turn (fun _ => False) w w1 := by rw [hw1]; exact (Turn.refl _ _).alloc _
  have e1 : EAt w1 w.heap.size e := by unfold EAt; rw [← hC, hw1]; exact heap_alloc_new _ _
  have r1 : rowOf w1 w.heap.size 0 37 = some C := by rw [hC]; exact e1.row hd
  have LX := Lib.hid (fun (w' : World) (t : Turn (fun _ => False) w1 w') => show LstN w' L ls from lstn_turn (lstn_turn hL t1) t)
  have T1 := Lib.hid t1
  obtain ⟨F, hF⟩ : ∃ F, F = pE e := ⟨_, rfl⟩
  obtain ⟨OE, hOE⟩ : ∃ b, b = decide (okB e) := ⟨_, rfl⟩
  obtain ⟨n, hn⟩ : ∃ n, n = ls.length := ⟨_, rfl⟩
  rw [← hF, ← hOE] at TE
  rw [← hF] at PE
  rw [← hOE, ← hn] at HB
  rw [← hn, HB.out]
  have HOE := Lib.hid hOE
  have HN := Lib.hid hn
  rw [← hn] at hm
  clear hL hd hC t1 e1 hF hOE hn HB hc
  cases OE with
  | false =>
    simp only [Bool.false_and]
    go_enter Tryz.func46, Tryz.ntmps46
    go_upto_region 1 with fail
    change Code.wp _ _ _ _ (w.alloc (.cells C 27))
    rw [← hw1]
    clear hw1
    go_wp2_with (go_at_call 22; refine stop ?_)
    unfold Stop
    refine (TE.out w1).mono ?_
    rintro r w2 ⟨u2, rfl, o2, t2⟩
    obtain ⟨A2, c2, rfl, b2, hc2, ha2⟩ := own_bt o2
    have T2 := Lib.hid t2
    have B2 := Lib.hid b2
    have C2 := Lib.hid (And.intro hc2 ha2)
    clear o2 t2 b2 hc2 ha2 r1
    go_wp2
    go_ret
    exact ⟨rfl, T1.out.trans T2.out (fun _ _ h => h)⟩
  | true =>
    have hfe := PE.out (of_decide_eq_true HOE.out.symm)
    rw [← hfe]
    by_cases h3 : n = 3
    · have q1 : ((n : Int) == 3) = true := by simp; omega
      rw [decide_eq_true h3]
      simp only [Bool.true_and]
      obtain ⟨l0, l1, l2, hls⟩ : ∃ a b c, ls = [a, b, c] := by
        match ls, HN.out.symm.trans h3 with
        | [a, b, c], _ => exact ⟨a, b, c, rfl⟩
      have hq : decide (ls[1]? = some F) = decide (l1 = F) := by rw [hls]; exact decide_eq_decide.2 (by simp)
      rw [hq]
      have hl1 := (LX.out w1 (Turn.refl _ _)) 1 l1 (by rw [hls]; rfl)
      obtain ⟨⟨ab, ao, az⟩, A1, c1, rfl, -⟩ := hl1
      have LC := Lib.hid (show ∀ (w' : World), Turn (fun _ => False) w1 w' → ∃ A1 c1, w'.cell? ⟨ab, ao + 1, none⟩ = some (.slice A1 l1.length c1) ∧ l1.length ≤ c1 ∧ (A1 = none → c1 = 0) ∧ Bts w' A1 l1 from fun w' t => by
        obtain ⟨ad', A', c', e, h1, h2, h3, h4⟩ := LX.out w' t 1 l1 (by rw [hls]; rfl)
        injection e with e
        subst e
        exact ⟨A', c', h1, h2, h3, h4⟩)
      have q3 : (1 : Int) < (n : Int) := by omega
      have HFE := Lib.hid hfe
      have H3 := Lib.hid h3
      clear h3 hq hls hfe
      go_enter Tryz.func46, Tryz.ntmps46
      go_upto_region 1 with fail
      change Code.wp _ _ _ _ (w.alloc (.cells C 27))
      rw [← hw1]
      clear hw1
      go_wp2_with (go_at_call 22; refine stop ?_)
      unfold Stop
      refine (TE.out w1).mono ?_
      rintro r w2 ⟨u2, rfl, o2, t2⟩
      obtain ⟨A2, c2, rfl, b2, hc2, ha2⟩ := own_bt o2
      have T2 := Lib.hid t2
      have B2 := Lib.hid b2
      have C2 := Lib.hid (And.intro hc2 ha2)
      clear o2 t2 b2 hc2 ha2 r1
      obtain ⟨A1', c1', hcell, hlc, hla, hlb⟩ := LC.out w2 T2.out
      have TQ := Lib.hid (bequal_any A1' A2 c1' c2 w2.heap.size w2.heap.size l1 F w2 (bts_sl hlb) hla hlc (bts_sl B2.out) C2.out.2 C2.out.1)
      clear hlc hla hlb
      obtain rfl : n = 3 := H3.out
      go_wp2_with (go_at_call 82; refine stop ?_)
      unfold Stop
      refine TQ.out.mono ?_
      rintro r w3 ⟨rfl, hw3⟩
      rw [← hw3]
      clear hw3 w3
      go_wp2
      go_ret
      exact ⟨rfl, T1.out.trans T2.out (fun _ _ h => h)⟩
    · have q1 : ((n : Int) == 3) = false := by simp; omega
      rw [decide_eq_false h3]
      simp only [Bool.false_and, Bool.and_false]
      clear h3 hfe
      go_enter Tryz.func46, Tryz.ntmps46
      go_upto_region 1 with fail
      change Code.wp _ _ _ _ (w.alloc (.cells C 27))
      rw [← hw1]
      clear hw1
      go_wp2_with (go_at_call 22; refine stop ?_)
      unfold Stop
      refine (TE.out w1).mono ?_
      rintro r w2 ⟨u2, rfl, o2, t2⟩
      obtain ⟨A2, c2, rfl, b2, hc2, ha2⟩ := own_bt o2
      have T2 := Lib.hid t2
      have B2 := Lib.hid b2
      have C2 := Lib.hid (And.intro hc2 ha2)
      clear o2 t2 b2 hc2 ha2 r1
      go_wp2
      go_ret
      exact ⟨rfl, T1.out.trans T2.out (fun _ _ h => h)⟩
end
end Go.Proofs.YthoaaieiiokcmaaGreatDoor
