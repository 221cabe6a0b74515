/- 'TxReads': its walk. -/
import Derived.Test.YteaoaabjdgdcmaaTxER
set_option linter.unusedVariables false
set_option linter.unusedSimpArgs false
namespace Go.Proofs.Yteaoaabjdgdcmaa
open Go.RowKit
set_option maxRecDepth 100000 in
set_option maxHeartbeats 4000000 in
theorem txReads_any (A : Option Addr) (c : Nat) (b : List B8) (w : World) (hs : Sl w w.heap.size A (b.map bv)) (hA : A = none → c = 0) (hc : b.length ≤ c) (hm : b.length ≤ maxLen) :
    Calls Try.prog 3 #[.slice A b.length c] w fun e w' => e = .returned (.bool true) ∧ Turn (fun _ => False) w w' := by
  have AW := Lib.hid awake_any
  by_cases h7 : 700 < b.length
  · have t0 : decide (700 < (b.length : Int)) = true := by rw [decide_eq_true_eq]; omega
    go_enter Try.func3, Try.ntmps3
    go_wp2_with (go_at_call 4; refine (AW.out _).mono ?_; rintro r w9 ⟨rfl, t9⟩)
    go_ret
    exact ⟨rfl, t9⟩
  have t0 : decide (700 < (b.length : Int)) = false := by rw [decide_eq_false_iff_not]; omega
  have T1 := Lib.hid (tread_any A c b w hs hA hc (by omega))
  have T2 := Lib.hid (fun w' (k : Turn (fun _ => False) w w') => eread_any A c b w' ((k.sl hs (fun _ _ h => h)).more k.size) hA hc (by omega))
  obtain ⟨rE, hrE⟩ : ∃ rE, rE = readE b := ⟨_, rfl⟩
  obtain ⟨rV, hrV⟩ : ∃ rV, rV = readV b := ⟨_, rfl⟩
  rw [← hrE, ← hrV] at T1
  simp only [← hrE, ← hrV] at T2
  obtain ⟨bl, hbl⟩ : ∃ bl, bl = b.length := ⟨_, rfl⟩
  rw [← hbl] at T1 T2 t0 ⊢
  have hSS : sameB rV rV = true := by unfold sameB; simp
  clear hs hA hc hm h7 hrE hrV hbl
  obtain ⟨n1, hn1⟩ : ∃ n1, n1 = rV.ins.length := ⟨_, rfl⟩
  obtain ⟨n2, hn2⟩ : ∃ n2, n2 = rV.outs.length := ⟨_, rfl⟩
  have RS := Lib.hid (fun (A1 A2 A3 A4 : Option Addr) (k1 k2 k3 k4 : Nat) w' (h : TxAt w' w'.heap.size A1 k1 A2 k2 rV) (h' : TxAt w' w'.heap.size A3 k3 A4 k4 rV) => rsame_any A1 A2 A3 A4 k1 k2 k3 k4 _ rV rV w' h h')
  unfold txV at T1 T2 RS
  rw [hSS] at RS
  simp only [← hn1, ← hn2] at T1 T2 RS
  obtain ⟨f, hf⟩ : ∃ f, f = rV.fee := ⟨_, rfl⟩
  obtain ⟨x, hx⟩ : ∃ x, x = rV.exp := ⟨_, rfl⟩
  simp only [← hf, ← hx] at T1 T2 RS
  clear hn1 hn2 hf hx hSS
  go_enter Try.func3, Try.ntmps3
  go_wp2_with fail
  refine T1.out.mono ?_
  rintro r w1 ⟨A1, k1, A2, k2, rfl, hx1, t1⟩
  have HX1 := Lib.hid hx1
  have HT1 := Lib.hid t1
  clear hx1 t1 T1
  go_upto_region 4 with fail
  obtain ⟨w2, hw2⟩ : ∃ w2, w2 = w1.alloc (.cells #[.slice A1 n1 k1, .slice A2 n2 k2, .int .u64 (f : Int), .int .i64 x] 28) := ⟨_, rfl⟩
  have t2 : Turn (fun _ => False) w1 w2 := by rw [hw2]; exact (Turn.refl _ _).alloc _
  have g2 : w2.heap[w1.heap.size]? = some (.cells #[.slice A1 n1 k1, .slice A2 n2 k2, .int .u64 (f : Int), .int .i64 x] 28 (0, 0)) := by rw [hw2]; exact heap_alloc_new _ _
  rw [← hw2]
  have HT2 := Lib.hid (HT1.out.trans t2 (fun _ _ h => h))
  have HX2 := Lib.hid ((HX1.out.turn t2 (fun _ _ h => h)).more t2.size)
  have G2 := Lib.hid g2
  obtain ⟨g, hg⟩ : ∃ g, g = w1.heap.size := ⟨_, rfl⟩
  rw [← hg] at G2 ⊢
  clear hw2 t2 g2 HX1 HT1 hg
  go_wp2_with fail
  refine (T2.out w2 HT2.out).mono ?_
  rintro r w3 ⟨A3, k3, A4, k4, rfl, hx3, t3⟩
  have HX3 := Lib.hid hx3
  have HXa := Lib.hid ((HX2.out.turn t3 (fun _ _ h => h)).more t3.size)
  have HT3 := Lib.hid (HT2.out.trans t3 (fun _ _ h => h))
  have G3 := Lib.hid (t3.heap G2.out (fun h => h))
  clear hx3 t3 T2 HX2 HT2 G2
  go_upto_region 5 with fail
  obtain ⟨w4, hw4⟩ : ∃ w4, w4 = w3.alloc (.cells #[.slice A3 n1 k3, .slice A4 n2 k4, .int .u64 (f : Int), .int .i64 x] 28) := ⟨_, rfl⟩
  have t4 : Turn (fun _ => False) w3 w4 := by rw [hw4]; exact (Turn.refl _ _).alloc _
  have g4 : w4.heap[w3.heap.size]? = some (.cells #[.slice A3 n1 k3, .slice A4 n2 k4, .int .u64 (f : Int), .int .i64 x] 28 (0, 0)) := by rw [hw4]; exact heap_alloc_new _ _
  rw [← hw4]
  have HT4 := Lib.hid (HT3.out.trans t4 (fun _ _ h => h))
  have HXb := Lib.hid ((HXa.out.turn t4 (fun _ _ h => h)).more t4.size)
  have HXc := Lib.hid ((HX3.out.turn t4 (fun _ _ h => h)).more t4.size)
  have G4 := Lib.hid g4
  have Ga := Lib.hid (t4.heap G3.out (fun h => h))
  obtain ⟨g', hg'⟩ : ∃ g', g' = w3.heap.size := ⟨_, rfl⟩
  rw [← hg'] at G4 ⊢
  clear hw4 t4 g4 HXa HX3 HT3 hg' G3
  obtain ⟨⟨c0, c1, c2, c3⟩, -⟩ := row4 Ga.out
  obtain ⟨⟨d0, d1, d2, d3⟩, -⟩ := row4 G4.out
  go_wp2_with fail
  refine (RS.out _ _ _ _ _ _ _ _ w4 HXb.out HXc.out).mono ?_
  rintro r w5 ⟨rfl, t5⟩
  have HT5 := Lib.hid (HT4.out.trans t5 (fun _ _ h => h))
  clear t5 RS
  go_wp2_with fail
  refine (AW.out _).mono ?_
  rintro r w6 ⟨rfl, t6⟩
  have HT6 := Lib.hid (HT5.out.trans t6 (fun _ _ h => h))
  clear t6
  go_wp2
  go_ret
  exact ⟨rfl, HT6.out⟩
theorem txReads_walk (A : Option Addr) (c : Nat) (b : List B8) (w : World) (hs : Sl w w.heap.size A (b.map bv)) (hA : A = none → c = 0) (hc : b.length ≤ c) (hm : b.length ≤ maxLen) :
    Calls Try.prog 3 #[.slice A b.length c] w fun e w' => e = .returned (.bool true) ∧ Below w.heap.size w w' :=
  (txReads_any A c b w hs hA hc hm).mono fun _ _ ⟨h, t⟩ => ⟨h, t.below (fun _ _ h => h.elim) (Nat.le_refl _)⟩
end Go.Proofs.Yteaoaabjdgdcmaa
