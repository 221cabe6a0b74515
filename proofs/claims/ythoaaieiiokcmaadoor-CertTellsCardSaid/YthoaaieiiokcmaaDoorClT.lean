/- 'CertTells': its walk. -/
import Derived.Test.YthoaaieiiokcmaaDoorM25
import Derived.Test.YthoaaieiiokcmaaDoorM26
import Derived.Test.YthoaaieiiokcmaaDoorM38
set_option linter.unusedVariables false
set_option linter.unusedSimpArgs false
namespace Go.Proofs.YthoaaieiiokcmaaDoor
open Go.RowKit
attribute [local go_sem ↓] loadAt_cr loadAt_hd loadAt_en loadAt_id
attribute [local go_sem] run_crLoad run_hdLoad run_enLoad run_idLoad rowOf_drew rowOf_drewN
set_option maxRecDepth 100000 in
set_option maxHeartbeats 16000000 in
theorem certTells_any (A0 : Option Addr) (c0 : Nat) (seed : List B8) (s : Nat) (x : Crt) (A : Option Addr) (c : Nat) (kind shard : Int) (d : List B8) (w : World) (hK : Bts w A0 seed) (hA : A0 = none → c0 = 0) (hc : seed.length ≤ c0) (hm : seed.length ≤ maxLen) (hs : s < 256) (hx : x.L) (px : CPath w x A c) (mx : x.ids.length ≤ maxLen) (hd : d.length = 32) (hG : Glob w) :
    Calls Tryd.prog 3 #[.slice A0 seed.length c0, .int .u8 (s : Int), .agg (x.cells A c).toArray, .int .i64 kind, .int .i64 shard, .agg (d.map bv).toArray] w fun r w' => r = .returned (.bool true) ∧ Turn (fun _ => False) w w' := by
  unfold maxLen at hm mx
  have G1 := Lib.hid (fun w px => great_any x A c w hx px)
  have IS := Lib.hid (fun (gr gk k : Nat) (w' : World) hR hk hG px mx => cis_any gr gk k seed x A c w' hR hk hG hx px mx)
  have RI := Lib.hid (fun (n : Int) (w' : World) hK hk px hn => rcis_any A0 c0 seed n x A c w' hK hA hc hk hx px hn)
  have PR := Lib.hid (fun (R : Value) (V : Bool) (w' : World) CI => proves_of R V x A c kind shard d w' hx hd CI)
  have IN := Lib.hid (fun (w' : World) => cis_nil x A c w' hx)
  obtain ⟨m, hm'⟩ : ∃ m : Nat, m = s % 64 := ⟨_, rfl⟩
  obtain ⟨n, hn'⟩ : ∃ n : Nat, n = 1 + m := ⟨_, rfl⟩
  have q1 : (s : Int) % 64 = (m : Int) := by omega
  have q2 : (1 : Int) + (m : Int) = (n : Int) := by omega
  have q3 : Int.tmod (s : Int) 64 = (m : Int) := by rw [Int.tmod_eq_emod_of_nonneg (by omega)]; exact q1
  have hn1 : 1 ≤ n := by omega
  have hn64 : n ≤ 64 := by omega
  clear hm' hn'
  obtain ⟨XC, hXC⟩ : ∃ C, C = (x.cells A c).toArray := ⟨_, rfl⟩
  obtain ⟨D, hD⟩ : ∃ D, D = (d.map bv).toArray := ⟨_, rfl⟩
  rw [← hXC] at G1 IS RI PR IN
  rw [← hD] at PR
  rw [← hXC, ← hD]
  obtain ⟨w1, hw1⟩ : ∃ w1, w1 = (w.alloc (.cells XC 32)).alloc (.cells D 24) := ⟨_, rfl⟩
  have t1 : Turn (fun _ => False) w w1 := by rw [hw1]; exact ((Turn.refl _ _).alloc _).alloc _
  have e1 : CAt w1 w.heap.size x A c := by unfold CAt; rw [← hXC, hw1]; exact heap_alloc2_old _ _ _
  have g1 : w1.heap[w.heap.size + 1]? = some (.cells (d.map bv).toArray 24 (0, 0)) := by rw [← hD, hw1]; exact heap_alloc2_new _ _ _
  obtain ⟨TX, hTX⟩ : ∃ L, L = (x.e.d.map bv).toArray := ⟨_, rfl⟩
  have RF := Lib.hid (fun (w' : World) (t : Turn (fun _ => False) w1 w') => show rowOf w' w.heap.size 0 137 = some XC ∧ rowOf w' w.heap.size 2 32 = some TX ∧ w'.cell? ⟨w.heap.size, 0, none⟩ = some (.int .i64 x.e.k) ∧ w'.cell? ⟨w.heap.size, 1, none⟩ = some (.int .i64 x.e.s) ∧ rowOf w' (w.heap.size + 1) 0 32 = some D from by
    have F := CAt.facts (w := w') (show CAt w' w.heap.size x A c from t.heap e1 (fun h => h)) hx
    rw [hXC, hD, hTX]
    exact ⟨F.all, F.tx, F.kind, F.es, rowOf_id hd (t.heap g1 (fun h => h))⟩)
  have KX := Lib.hid (fun (w' : World) (t : Turn (fun _ => False) w1 w') => show Bts w' A0 seed from bts_turn (bts_turn hK t1) t)
  have PX := Lib.hid (fun (w' : World) (t : Turn (fun _ => False) w1 w') => show CPath w' x A c from (px.turn t1).turn t)
  have GX := Lib.hid (fun (w' : World) (t : Turn (fun _ => False) w1 w') => show Glob w' from glob_turn (glob_turn hG t1) t)
  have AW := Lib.hid (fun (w' : World) (h : Glob w') => cawake_any w' h)
  have qI := fun w => eq_id x.e.d d hx.1 hd w
  rw [← hTX, ← hD] at qI
  obtain ⟨DB, hDB⟩ : ∃ b, b = decide (x.e.d = d) := ⟨_, rfl⟩
  rw [← hDB] at qI PR
  have T1 := Lib.hid t1
  have HKA := Lib.hid (And.intro hc hA)
  clear t1 e1 g1 hXC hD hTX hDB hK hA hc px hG hx hd
  by_cases hk2 : 60 < seed.length
  · have t0 : decide (60 < (seed.length : Int)) = true := by rw [decide_eq_true_eq]; omega
    generalize seed.length = sl at *
    go_enter Tryd.func3, Tryd.ntmps3
    go_upto_region 1 with fail
    change Code.wp _ _ _ _ ((w.alloc (.cells XC 32)).alloc (.cells D 24))
    rw [← hw1]
    clear hw1
    obtain ⟨r1, r2, r3, r4, r5⟩ := RF.out w1 (Turn.refl _ _)
    go_wp2_with (go_at_call 8; refine stop ?_)
    unfold Stop
    refine (AW.out w1 (GX.out w1 (Turn.refl _ _))).mono ?_
    rintro r w2 ⟨rfl, t2⟩
    have T2 := Lib.hid t2
    clear t2 r1 r2 r3 r4 r5
    go_wp2
    go_ret
    exact ⟨rfl, T1.out.trans T2.out (fun _ _ h => h)⟩
  have t0 : decide (60 < (seed.length : Int)) = false := by rw [decide_eq_false_iff_not]; omega
  by_cases hg : 40 < x.ids.length
  · have hg' := decide_eq_true hg
    rw [hg'] at G1
    clear hg hg'
    generalize seed.length = sl at *
    go_enter Tryd.func3, Tryd.ntmps3
    go_upto_region 1 with fail
    change Code.wp _ _ _ _ ((w.alloc (.cells XC 32)).alloc (.cells D 24))
    rw [← hw1]
    clear hw1
    obtain ⟨r1, r2, r3, r4, r5⟩ := RF.out w1 (Turn.refl _ _)
    go_wp2_with (go_at_call 7; refine stop ?_)
    unfold Stop
    refine (G1.out w1 (PX.out w1 (Turn.refl _ _))).mono ?_
    rintro r w2 ⟨rfl, t2⟩
    have T2 := Lib.hid t2
    clear t2 r1 r2 r3 r4 r5
    obtain ⟨r1, r2, r3, r4, r5⟩ := RF.out w2 T2.out
    go_wp2_with (go_at_call 8; refine stop ?_)
    unfold Stop
    refine (AW.out w2 (GX.out w2 T2.out)).mono ?_
    rintro r w3 ⟨rfl, t3⟩
    have T3 := Lib.hid (T2.out.trans t3 (fun _ _ h => h))
    clear t3 r1 r2 r3 r4 r5
    go_wp2
    go_ret
    exact ⟨rfl, T1.out.trans T3.out (fun _ _ h => h)⟩
  rw [decide_eq_false hg] at G1
  have KS := Lib.hid (fun (w' : World) hK hG => keys_some A0 c0 n seed w' hK HKA.out.1 hG (by omega) hn1 hn64)
  have HI := Lib.hid (show x.ids.length ≤ 1000000 by omega)
  have HS := Lib.hid (show seed.length ≤ 1000000 by omega)
  have HN := Lib.hid (show (n : Int) ≤ 64 by omega)
  clear hg hk2
  obtain ⟨V, hV⟩ : ∃ V, V = isC seed (n : Int) x := ⟨_, rfl⟩
  have IS := Lib.hid (fun (gr gk : Nat) (w' : World) hR hG px => IS.out gr gk n w' hR hn64 hG px HI.out)
  have RI := Lib.hid (fun (w' : World) hK px => RI.out (n : Int) w' hK HS.out px HN.out)
  rw [← hV] at IS RI
  clear hV
  obtain ⟨sl, hsl⟩ : ∃ n, n = seed.length := ⟨_, rfl⟩
  rw [← hsl] at KS RI t0
  rw [← hsl]
  clear hsl
  obtain ⟨ek, hek⟩ : ∃ k, k = x.e.k := ⟨_, rfl⟩
  obtain ⟨es, hes⟩ : ∃ k, k = x.e.s := ⟨_, rfl⟩
  rw [← hek, ← hes] at PR RF
  clear hek hes
  have PN := Lib.hid (fun (w' : World) => PR.out (.pointer none) false w' (fun w'' t => IN.out w''))
  simp only [Bool.and_false] at PN
  unfold ringV at *
  cases V with
  | false =>
    simp only [Bool.and_false] at PR
    go_enter Tryd.func3, Tryd.ntmps3
    go_upto_region 1 with fail
    change Code.wp _ _ _ _ ((w.alloc (.cells XC 32)).alloc (.cells D 24))
    rw [← hw1]
    clear hw1
    obtain ⟨r1, r2, r3, r4, r5⟩ := RF.out w1 (Turn.refl _ _)
    go_wp2_with (go_at_call 7; refine stop ?_)
    unfold Stop
    refine (G1.out w1 (PX.out w1 (Turn.refl _ _))).mono ?_
    rintro r w2 ⟨rfl, t2⟩
    have T2 := Lib.hid t2
    clear t2 r1 r2 r3 r4 r5
    obtain ⟨r1, r2, r3, r4, r5⟩ := RF.out w2 T2.out
    go_wp2_with (go_at_call 9; refine stop ?_)
    unfold Stop
    refine (KS.out w2 (KX.out w2 T2.out) (GX.out w2 T2.out)).mono ?_
    rintro r w3 ⟨gr, gk, rfl, hR, hb3⟩
    have t := of_turn hb3
    have RX := Lib.hid (fun (w' : World) (t : Turn (fun _ => False) w3 w') => show RingAt w' gr gk seed n from hR.below (turn_stp' t))
    clear hR hb3
    have T3 := Lib.hid (T2.out.trans t (fun _ _ h => h))
    clear t r1 r2 r3 r4 r5
    obtain ⟨r1, r2, r3, r4, r5⟩ := RF.out w3 T3.out
    go_wp2_with (go_at_call 10; refine stop ?_)
    unfold Stop
    refine (RI.out w3 (KX.out w3 T3.out) (PX.out w3 T3.out)).mono ?_
    rintro r w4 ⟨rfl, t⟩
    have U4 := Lib.hid t
    have T4 := Lib.hid (T3.out.trans t (fun _ _ h => h))
    clear t r1 r2 r3 r4 r5
    obtain ⟨r1, r2, r3, r4, r5⟩ := RF.out w4 T4.out
    go_wp2_with (go_at_call 11; refine stop ?_)
    unfold Stop
    refine (IS.out gr gk w4 (RX.out w4 U4.out) (GX.out w4 T4.out) (PX.out w4 T4.out)).mono ?_
    rintro r w5 ⟨rfl, t⟩
    have U5 := Lib.hid (U4.out.trans t (fun _ _ h => h))
    have T5 := Lib.hid (T4.out.trans t (fun _ _ h => h))
    clear t r1 r2 r3 r4 r5
    obtain ⟨r1, r2, r3, r4, r5⟩ := RF.out w5 T5.out
    go_wp2_with (go_at_call 12; refine stop ?_)
    unfold Stop
    refine (PR.out _ _ w5 (fun w' t => IS.out gr gk w' (RX.out w' (U5.out.trans t (fun _ _ h => h))) (GX.out w' (T5.out.trans t (fun _ _ h => h))) (PX.out w' (T5.out.trans t (fun _ _ h => h))))).mono ?_
    rintro r w6 ⟨rfl, t⟩
    have T6 := Lib.hid (T5.out.trans t (fun _ _ h => h))
    clear t r1 r2 r3 r4 r5
    obtain ⟨r1, r2, r3, r4, r5⟩ := RF.out w6 T6.out
    go_wp2_with (go_at_call 12; refine stop ?_)
    unfold Stop
    refine (PN.out w6).mono ?_
    rintro r w7 ⟨rfl, t⟩
    have T7 := Lib.hid (T6.out.trans t (fun _ _ h => h))
    clear t r1 r2 r3 r4 r5
    obtain ⟨r1, r2, r3, r4, r5⟩ := RF.out w7 T7.out
    go_wp2_with (go_at_call 8; refine stop ?_)
    unfold Stop
    refine (AW.out w7 (GX.out w7 T7.out)).mono ?_
    rintro r w8 ⟨rfl, t⟩
    have T8 := Lib.hid (T7.out.trans t (fun _ _ h => h))
    clear t r1 r2 r3 r4 r5
    go_wp2
    go_ret
    exact ⟨rfl, T1.out.trans T8.out (fun _ _ h => h)⟩
  | true =>
    by_cases hk : ek = kind
    · have q4 : (ek == kind) = true := by simp [hk]
      rw [decide_eq_true hk] at PR
      clear hk
      by_cases hh : es = shard
      · have q5 : (es == shard) = true := by simp [hh]
        rw [decide_eq_true hh] at PR
        clear hh
        cases DB with
        | false =>
          simp only [Bool.true_and, Bool.and_true] at PR
          go_enter Tryd.func3, Tryd.ntmps3
          go_upto_region 1 with fail
          change Code.wp _ _ _ _ ((w.alloc (.cells XC 32)).alloc (.cells D 24))
          rw [← hw1]
          clear hw1
          obtain ⟨r1, r2, r3, r4, r5⟩ := RF.out w1 (Turn.refl _ _)
          go_wp2_with (go_at_call 7; refine stop ?_)
          unfold Stop
          refine (G1.out w1 (PX.out w1 (Turn.refl _ _))).mono ?_
          rintro r w2 ⟨rfl, t2⟩
          have T2 := Lib.hid t2
          clear t2 r1 r2 r3 r4 r5
          obtain ⟨r1, r2, r3, r4, r5⟩ := RF.out w2 T2.out
          go_wp2_with (go_at_call 9; refine stop ?_)
          unfold Stop
          refine (KS.out w2 (KX.out w2 T2.out) (GX.out w2 T2.out)).mono ?_
          rintro r w3 ⟨gr, gk, rfl, hR, hb3⟩
          have t := of_turn hb3
          have RX := Lib.hid (fun (w' : World) (t : Turn (fun _ => False) w3 w') => show RingAt w' gr gk seed n from hR.below (turn_stp' t))
          clear hR hb3
          have T3 := Lib.hid (T2.out.trans t (fun _ _ h => h))
          clear t r1 r2 r3 r4 r5
          obtain ⟨r1, r2, r3, r4, r5⟩ := RF.out w3 T3.out
          go_wp2_with (go_at_call 10; refine stop ?_)
          unfold Stop
          refine (RI.out w3 (KX.out w3 T3.out) (PX.out w3 T3.out)).mono ?_
          rintro r w4 ⟨rfl, t⟩
          have U4 := Lib.hid t
          have T4 := Lib.hid (T3.out.trans t (fun _ _ h => h))
          clear t r1 r2 r3 r4 r5
          obtain ⟨r1, r2, r3, r4, r5⟩ := RF.out w4 T4.out
          go_wp2_with (go_at_call 11; refine stop ?_)
          unfold Stop
          refine (IS.out gr gk w4 (RX.out w4 U4.out) (GX.out w4 T4.out) (PX.out w4 T4.out)).mono ?_
          rintro r w5 ⟨rfl, t⟩
          have U5 := Lib.hid (U4.out.trans t (fun _ _ h => h))
          have T5 := Lib.hid (T4.out.trans t (fun _ _ h => h))
          clear t r1 r2 r3 r4 r5
          obtain ⟨r1, r2, r3, r4, r5⟩ := RF.out w5 T5.out
          go_wp2_with (go_at_call 12; refine stop ?_)
          unfold Stop
          refine (PR.out _ _ w5 (fun w' t => IS.out gr gk w' (RX.out w' (U5.out.trans t (fun _ _ h => h))) (GX.out w' (T5.out.trans t (fun _ _ h => h))) (PX.out w' (T5.out.trans t (fun _ _ h => h))))).mono ?_
          rintro r w6 ⟨rfl, t⟩
          have T6 := Lib.hid (T5.out.trans t (fun _ _ h => h))
          clear t r1 r2 r3 r4 r5
          obtain ⟨r1, r2, r3, r4, r5⟩ := RF.out w6 T6.out
          go_wp2_with (go_at_call 12; refine stop ?_)
          unfold Stop
          refine (PN.out w6).mono ?_
          rintro r w7 ⟨rfl, t⟩
          have T7 := Lib.hid (T6.out.trans t (fun _ _ h => h))
          clear t r1 r2 r3 r4 r5
          obtain ⟨r1, r2, r3, r4, r5⟩ := RF.out w7 T7.out
          go_wp2_with (go_at_call 8; refine stop ?_)
          unfold Stop
          refine (AW.out w7 (GX.out w7 T7.out)).mono ?_
          rintro r w8 ⟨rfl, t⟩
          have T8 := Lib.hid (T7.out.trans t (fun _ _ h => h))
          clear t r1 r2 r3 r4 r5
          go_wp2
          go_ret
          exact ⟨rfl, T1.out.trans T8.out (fun _ _ h => h)⟩
        | true =>
          simp only [Bool.true_and, Bool.and_true] at PR
          go_enter Tryd.func3, Tryd.ntmps3
          go_upto_region 1 with fail
          change Code.wp _ _ _ _ ((w.alloc (.cells XC 32)).alloc (.cells D 24))
          rw [← hw1]
          clear hw1
          obtain ⟨r1, r2, r3, r4, r5⟩ := RF.out w1 (Turn.refl _ _)
          go_wp2_with (go_at_call 7; refine stop ?_)
          unfold Stop
          refine (G1.out w1 (PX.out w1 (Turn.refl _ _))).mono ?_
          rintro r w2 ⟨rfl, t2⟩
          have T2 := Lib.hid t2
          clear t2 r1 r2 r3 r4 r5
          obtain ⟨r1, r2, r3, r4, r5⟩ := RF.out w2 T2.out
          go_wp2_with (go_at_call 9; refine stop ?_)
          unfold Stop
          refine (KS.out w2 (KX.out w2 T2.out) (GX.out w2 T2.out)).mono ?_
          rintro r w3 ⟨gr, gk, rfl, hR, hb3⟩
          have t := of_turn hb3
          have RX := Lib.hid (fun (w' : World) (t : Turn (fun _ => False) w3 w') => show RingAt w' gr gk seed n from hR.below (turn_stp' t))
          clear hR hb3
          have T3 := Lib.hid (T2.out.trans t (fun _ _ h => h))
          clear t r1 r2 r3 r4 r5
          obtain ⟨r1, r2, r3, r4, r5⟩ := RF.out w3 T3.out
          go_wp2_with (go_at_call 10; refine stop ?_)
          unfold Stop
          refine (RI.out w3 (KX.out w3 T3.out) (PX.out w3 T3.out)).mono ?_
          rintro r w4 ⟨rfl, t⟩
          have U4 := Lib.hid t
          have T4 := Lib.hid (T3.out.trans t (fun _ _ h => h))
          clear t r1 r2 r3 r4 r5
          obtain ⟨r1, r2, r3, r4, r5⟩ := RF.out w4 T4.out
          go_wp2_with (go_at_call 11; refine stop ?_)
          unfold Stop
          refine (IS.out gr gk w4 (RX.out w4 U4.out) (GX.out w4 T4.out) (PX.out w4 T4.out)).mono ?_
          rintro r w5 ⟨rfl, t⟩
          have U5 := Lib.hid (U4.out.trans t (fun _ _ h => h))
          have T5 := Lib.hid (T4.out.trans t (fun _ _ h => h))
          clear t r1 r2 r3 r4 r5
          obtain ⟨r1, r2, r3, r4, r5⟩ := RF.out w5 T5.out
          go_wp2_with (go_at_call 12; refine stop ?_)
          unfold Stop
          refine (PR.out _ _ w5 (fun w' t => IS.out gr gk w' (RX.out w' (U5.out.trans t (fun _ _ h => h))) (GX.out w' (T5.out.trans t (fun _ _ h => h))) (PX.out w' (T5.out.trans t (fun _ _ h => h))))).mono ?_
          rintro r w6 ⟨rfl, t⟩
          have T6 := Lib.hid (T5.out.trans t (fun _ _ h => h))
          clear t r1 r2 r3 r4 r5
          obtain ⟨r1, r2, r3, r4, r5⟩ := RF.out w6 T6.out
          go_wp2_with (go_at_call 12; refine stop ?_)
          unfold Stop
          refine (PN.out w6).mono ?_
          rintro r w7 ⟨rfl, t⟩
          have T7 := Lib.hid (T6.out.trans t (fun _ _ h => h))
          clear t r1 r2 r3 r4 r5
          obtain ⟨r1, r2, r3, r4, r5⟩ := RF.out w7 T7.out
          go_wp2_with (go_at_call 8; refine stop ?_)
          unfold Stop
          refine (AW.out w7 (GX.out w7 T7.out)).mono ?_
          rintro r w8 ⟨rfl, t⟩
          have T8 := Lib.hid (T7.out.trans t (fun _ _ h => h))
          clear t r1 r2 r3 r4 r5
          go_wp2
          go_ret
          exact ⟨rfl, T1.out.trans T8.out (fun _ _ h => h)⟩
      · have q5 : (es == shard) = false := by simp [hh]
        rw [decide_eq_false hh] at PR
        simp only [Bool.true_and, Bool.false_and] at PR
        clear hh
        go_enter Tryd.func3, Tryd.ntmps3
        go_upto_region 1 with fail
        change Code.wp _ _ _ _ ((w.alloc (.cells XC 32)).alloc (.cells D 24))
        rw [← hw1]
        clear hw1
        obtain ⟨r1, r2, r3, r4, r5⟩ := RF.out w1 (Turn.refl _ _)
        go_wp2_with (go_at_call 7; refine stop ?_)
        unfold Stop
        refine (G1.out w1 (PX.out w1 (Turn.refl _ _))).mono ?_
        rintro r w2 ⟨rfl, t2⟩
        have T2 := Lib.hid t2
        clear t2 r1 r2 r3 r4 r5
        obtain ⟨r1, r2, r3, r4, r5⟩ := RF.out w2 T2.out
        go_wp2_with (go_at_call 9; refine stop ?_)
        unfold Stop
        refine (KS.out w2 (KX.out w2 T2.out) (GX.out w2 T2.out)).mono ?_
        rintro r w3 ⟨gr, gk, rfl, hR, hb3⟩
        have t := of_turn hb3
        have RX := Lib.hid (fun (w' : World) (t : Turn (fun _ => False) w3 w') => show RingAt w' gr gk seed n from hR.below (turn_stp' t))
        clear hR hb3
        have T3 := Lib.hid (T2.out.trans t (fun _ _ h => h))
        clear t r1 r2 r3 r4 r5
        obtain ⟨r1, r2, r3, r4, r5⟩ := RF.out w3 T3.out
        go_wp2_with (go_at_call 10; refine stop ?_)
        unfold Stop
        refine (RI.out w3 (KX.out w3 T3.out) (PX.out w3 T3.out)).mono ?_
        rintro r w4 ⟨rfl, t⟩
        have U4 := Lib.hid t
        have T4 := Lib.hid (T3.out.trans t (fun _ _ h => h))
        clear t r1 r2 r3 r4 r5
        obtain ⟨r1, r2, r3, r4, r5⟩ := RF.out w4 T4.out
        go_wp2_with (go_at_call 11; refine stop ?_)
        unfold Stop
        refine (IS.out gr gk w4 (RX.out w4 U4.out) (GX.out w4 T4.out) (PX.out w4 T4.out)).mono ?_
        rintro r w5 ⟨rfl, t⟩
        have U5 := Lib.hid (U4.out.trans t (fun _ _ h => h))
        have T5 := Lib.hid (T4.out.trans t (fun _ _ h => h))
        clear t r1 r2 r3 r4 r5
        obtain ⟨r1, r2, r3, r4, r5⟩ := RF.out w5 T5.out
        go_wp2_with (go_at_call 12; refine stop ?_)
        unfold Stop
        refine (PR.out _ _ w5 (fun w' t => IS.out gr gk w' (RX.out w' (U5.out.trans t (fun _ _ h => h))) (GX.out w' (T5.out.trans t (fun _ _ h => h))) (PX.out w' (T5.out.trans t (fun _ _ h => h))))).mono ?_
        rintro r w6 ⟨rfl, t⟩
        have T6 := Lib.hid (T5.out.trans t (fun _ _ h => h))
        clear t r1 r2 r3 r4 r5
        obtain ⟨r1, r2, r3, r4, r5⟩ := RF.out w6 T6.out
        go_wp2_with (go_at_call 12; refine stop ?_)
        unfold Stop
        refine (PN.out w6).mono ?_
        rintro r w7 ⟨rfl, t⟩
        have T7 := Lib.hid (T6.out.trans t (fun _ _ h => h))
        clear t r1 r2 r3 r4 r5
        obtain ⟨r1, r2, r3, r4, r5⟩ := RF.out w7 T7.out
        go_wp2_with (go_at_call 8; refine stop ?_)
        unfold Stop
        refine (AW.out w7 (GX.out w7 T7.out)).mono ?_
        rintro r w8 ⟨rfl, t⟩
        have T8 := Lib.hid (T7.out.trans t (fun _ _ h => h))
        clear t r1 r2 r3 r4 r5
        go_wp2
        go_ret
        exact ⟨rfl, T1.out.trans T8.out (fun _ _ h => h)⟩
    · have q4 : (ek == kind) = false := by simp [hk]
      rw [decide_eq_false hk] at PR
      simp only [Bool.false_and] at PR
      clear hk
      go_enter Tryd.func3, Tryd.ntmps3
      go_upto_region 1 with fail
      change Code.wp _ _ _ _ ((w.alloc (.cells XC 32)).alloc (.cells D 24))
      rw [← hw1]
      clear hw1
      obtain ⟨r1, r2, r3, r4, r5⟩ := RF.out w1 (Turn.refl _ _)
      go_wp2_with (go_at_call 7; refine stop ?_)
      unfold Stop
      refine (G1.out w1 (PX.out w1 (Turn.refl _ _))).mono ?_
      rintro r w2 ⟨rfl, t2⟩
      have T2 := Lib.hid t2
      clear t2 r1 r2 r3 r4 r5
      obtain ⟨r1, r2, r3, r4, r5⟩ := RF.out w2 T2.out
      go_wp2_with (go_at_call 9; refine stop ?_)
      unfold Stop
      refine (KS.out w2 (KX.out w2 T2.out) (GX.out w2 T2.out)).mono ?_
      rintro r w3 ⟨gr, gk, rfl, hR, hb3⟩
      have t := of_turn hb3
      have RX := Lib.hid (fun (w' : World) (t : Turn (fun _ => False) w3 w') => show RingAt w' gr gk seed n from hR.below (turn_stp' t))
      clear hR hb3
      have T3 := Lib.hid (T2.out.trans t (fun _ _ h => h))
      clear t r1 r2 r3 r4 r5
      obtain ⟨r1, r2, r3, r4, r5⟩ := RF.out w3 T3.out
      go_wp2_with (go_at_call 10; refine stop ?_)
      unfold Stop
      refine (RI.out w3 (KX.out w3 T3.out) (PX.out w3 T3.out)).mono ?_
      rintro r w4 ⟨rfl, t⟩
      have U4 := Lib.hid t
      have T4 := Lib.hid (T3.out.trans t (fun _ _ h => h))
      clear t r1 r2 r3 r4 r5
      obtain ⟨r1, r2, r3, r4, r5⟩ := RF.out w4 T4.out
      go_wp2_with (go_at_call 11; refine stop ?_)
      unfold Stop
      refine (IS.out gr gk w4 (RX.out w4 U4.out) (GX.out w4 T4.out) (PX.out w4 T4.out)).mono ?_
      rintro r w5 ⟨rfl, t⟩
      have U5 := Lib.hid (U4.out.trans t (fun _ _ h => h))
      have T5 := Lib.hid (T4.out.trans t (fun _ _ h => h))
      clear t r1 r2 r3 r4 r5
      obtain ⟨r1, r2, r3, r4, r5⟩ := RF.out w5 T5.out
      go_wp2_with (go_at_call 12; refine stop ?_)
      unfold Stop
      refine (PR.out _ _ w5 (fun w' t => IS.out gr gk w' (RX.out w' (U5.out.trans t (fun _ _ h => h))) (GX.out w' (T5.out.trans t (fun _ _ h => h))) (PX.out w' (T5.out.trans t (fun _ _ h => h))))).mono ?_
      rintro r w6 ⟨rfl, t⟩
      have T6 := Lib.hid (T5.out.trans t (fun _ _ h => h))
      clear t r1 r2 r3 r4 r5
      obtain ⟨r1, r2, r3, r4, r5⟩ := RF.out w6 T6.out
      go_wp2_with (go_at_call 12; refine stop ?_)
      unfold Stop
      refine (PN.out w6).mono ?_
      rintro r w7 ⟨rfl, t⟩
      have T7 := Lib.hid (T6.out.trans t (fun _ _ h => h))
      clear t r1 r2 r3 r4 r5
      obtain ⟨r1, r2, r3, r4, r5⟩ := RF.out w7 T7.out
      go_wp2_with (go_at_call 8; refine stop ?_)
      unfold Stop
      refine (AW.out w7 (GX.out w7 T7.out)).mono ?_
      rintro r w8 ⟨rfl, t⟩
      have T8 := Lib.hid (T7.out.trans t (fun _ _ h => h))
      clear t r1 r2 r3 r4 r5
      go_wp2
      go_ret
      exact ⟨rfl, T1.out.trans T8.out (fun _ _ h => h)⟩
theorem certTells_walk (A0 : Option Addr) (c0 : Nat) (seed : List B8) (s : Nat) (x : Crt) (A : Option Addr) (c : Nat) (kind shard : Int) (d : List B8) (w : World) (hs : Sl w w.heap.size A0 (seed.map bv)) (hm : seed.length ≤ maxLen) (hA : A0 = none → c0 = 0) (hc : seed.length ≤ c0) (hs' : s < 256) (hx : x.L) (px : CPath w x A c) (mx : x.ids.length ≤ maxLen) {p q : Prop} (_ : p) (_ : q) (hd : d.length = 32) (hG : Glob w) :
    Calls Tryd.prog 3 #[.slice A0 seed.length c0, .int .u8 (s : Int), .agg (x.cells A c).toArray, .int .i64 kind, .int .i64 shard, .agg (d.map bv).toArray] w fun r w' => r = .returned (.bool true) ∧ Below w.heap.size w w' :=
  to_below (certTells_any A0 c0 seed s x A c kind shard d w (Bts.of_sl hs) hA hc hm hs' hx px mx hd hG)
end Go.Proofs.YthoaaieiiokcmaaDoor
