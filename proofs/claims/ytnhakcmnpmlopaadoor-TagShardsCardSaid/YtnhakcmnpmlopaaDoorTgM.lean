/- 'TagShards': its walk. -/
import Derived.Test.YtnhakcmnpmlopaaDoorTgL
set_option linter.unusedVariables false
namespace Go.Proofs.YtnhakcmnpmlopaaDoor
open Go.RowKit
attribute [local go_sem ↓] loadAt_id
attribute [local go_sem] rowOf_drew rowOf_drewN run_idLoad
set_option maxRecDepth 100000 in
set_option maxHeartbeats 8000000 in
theorem shards_any (A A' : Option Addr) (c c' : Nat) (s x y : Nat) (seed b : List B8) (w : World) (hK : Bts w A seed) (hA : A = none → c = 0) (hc : seed.length ≤ c) (hB : Bts w A' b) (hA' : A' = none → c' = 0) (hc' : b.length ≤ c') (hs : s < 256) (hx : x < 256) (hy : y < 256) (hG : Glob w) :
    Calls Tryd.prog 6 #[.slice A seed.length c, .slice A' b.length c', .int .u8 s, .int .u8 x, .int .u8 y] w fun e w' => e = .returned (.bool true) ∧ Below w.heap.size w w' := by
  have HK := Lib.hid hK
  have HX := Lib.hid hB
  have HG := Lib.hid hG
  have HA := Lib.hid hA
  have HA' := Lib.hid hA'
  have AW := Lib.hid (awake_any w hG)
  obtain ⟨m, hm⟩ : ∃ m : Nat, m = s % 64 := ⟨_, rfl⟩
  obtain ⟨n, hn⟩ : ∃ n : Nat, n = 1 + m := ⟨_, rfl⟩
  have e1 : (s : Int) % 64 = (m : Int) := by omega
  have e2 : (1 : Int) + (m : Int) = (n : Int) := by omega
  have hn1 : 1 ≤ n := by omega
  have hn64 : n ≤ 64 := by omega
  clear hK hB hG hA hA' hm hn
  by_cases hk2 : 60 < seed.length
  · have t0 : decide (60 < (seed.length : Int)) = true := by rw [decide_eq_true_eq]; omega
    go_enter Tryd.func6, Tryd.ntmps6
    go_wp2_with (go_at_call 7; refine AW.out.mono ?_; rintro e w2 ⟨rfl, hb2⟩; have HB2 := Lib.hid hb2; clear hb2)
    go_ret
    exact ⟨rfl, HB2.out⟩
  have t0 : decide (60 < (seed.length : Int)) = false := by rw [decide_eq_false_iff_not]; omega
  by_cases hk3 : 60 < b.length
  · have t1 : decide (60 < (b.length : Int)) = true := by rw [decide_eq_true_eq]; omega
    go_enter Tryd.func6, Tryd.ntmps6
    go_wp2_with (go_at_call 7; refine AW.out.mono ?_; rintro e w2 ⟨rfl, hb2⟩; have HB2 := Lib.hid hb2; clear hb2)
    go_ret
    exact ⟨rfl, HB2.out⟩
  have t1 : decide (60 < (b.length : Int)) = false := by rw [decide_eq_false_iff_not]; omega
  have KS := Lib.hid (keys_some A c n seed w HK.out hc HG.out (by omega) hn1 hn64)
  obtain ⟨i, hi⟩ : ∃ i : Nat, i = x % n := ⟨_, rfl⟩
  obtain ⟨k, hk⟩ : ∃ k : Nat, k = y % n := ⟨_, rfl⟩
  have hin : i < n := by rw [hi]; exact Nat.mod_lt _ hn1
  have hkn : k < n := by rw [hk]; exact Nat.mod_lt _ hn1
  have e3 : (x : Int) % (n : Int) = (i : Int) := by rw [hi]; rfl
  have e4 : (y : Int) % (n : Int) = (k : Int) := by rw [hk]; rfl
  have e3' : Int.tmod (x : Int) (n : Int) = (i : Int) := by rw [Int.tmod_eq_emod_of_nonneg (by omega)]; exact e3
  have e4' : Int.tmod (y : Int) (n : Int) = (k : Int) := by rw [Int.tmod_eq_emod_of_nonneg (by omega)]; exact e4
  have hn0 : ¬ ((n : Int) = 0) := by omega
  clear hi hk
  by_cases hik : i = k
  · subst i
    go_enter Tryd.func6, Tryd.ntmps6
    go_wp2_with (go_at_call 11; refine stop ?_)
    unfold Stop
    refine KS.out.mono ?_
    rintro e w1 ⟨gr, gk, rfl, hR, hb1⟩
    have HR := Lib.hid hR
    have HB1 := Lib.hid hb1
    have HK1 := Lib.hid (HK.out.below hb1)
    have HX1 := Lib.hid (HX.out.below hb1)
    have HG1 := Lib.hid (glob_below HG.out hb1 (Nat.le_refl _))
    unfold ringV
    clear hR hb1 KS HK HX HG AW
    go_wp2_with fail
    go_quiet (fail)
    obtain ⟨w2, hw2⟩ : ∃ w2, w2 = w1.drewN nq := ⟨_, rfl⟩
    have HB2 := Lib.hid (show Below w.heap.size w w2 by rw [hw2]; exact below_drewN HB1.out)
    have HR2 := Lib.hid (show RingAt w2 gr gk seed n by rw [hw2]; exact HR.out)
    have HK2 := Lib.hid (show Bts w2 A seed by rw [hw2]; exact HK1.out)
    have HX2 := Lib.hid (show Bts w2 A' b by rw [hw2]; exact HX1.out)
    have HG2 := Lib.hid (show Glob w2 by rw [hw2]; exact HG1.out)
    rw [← hw2]
    clear hw2 HR HB1 HK1 HX1 HG1 e1 e2 e3 e4 e3' e4' hn0
    obtain ⟨CL, hCL⟩ : ∃ CL, CL = (signD seed k b).map bv := ⟨_, rfl⟩
    have hC32 : CL.toArray.size = 32 := by rw [hCL]; simp [signD_len]
    have H3 := Lib.hid (show CL.toArray.all (·.oneCell') = true by rw [hCL]; exact bvs_one _)
    have H1 := Lib.hid (show (Tryd.prog.info? 24).map (·.size) = some CL.toArray.size by rw [hC32]; kernel_rfl)
    have H2 := Lib.hid (show ZId.size = CL.toArray.size by rw [hC32]; rfl)
    obtain ⟨EL, hEL⟩ : ∃ EL, EL = (signD seed k b).map bv := ⟨_, rfl⟩
    have hE32 : EL.toArray.size = 32 := by rw [hEL]; simp [signD_len]
    have E3 := Lib.hid (show EL.toArray.all (·.oneCell') = true by rw [hEL]; exact bvs_one _)
    have E1 := Lib.hid (show (Tryd.prog.info? 24).map (·.size) = some EL.toArray.size by rw [hE32]; kernel_rfl)
    have E2 := Lib.hid (show ZId.size = EL.toArray.size by rw [hE32]; rfl)
    have eqT : ∀ w, (Op.equalIn 10000 24 (.agg CL.toArray) (.agg EL.toArray)).run Tryd.prog w = .ok true w := fun w => by
      rw [hCL, hEL, eq_id _ _ (signD_len _ _ _) (signD_len _ _ _) w, show decide (signD seed k b = signD seed k b) = true by simp]
    have S1 := Lib.hid (fun (w4 : World) hR hB hG => sign_some gr gk n k seed b A' c' w4 hR hkn hn64 hB hc' hG (by omega))
    have S2 := Lib.hid (fun (w4 : World) hR hB hG => sign_some gr gk n k seed b A' c' w4 hR hkn hn64 hB hc' hG (by omega))
    have IS := Lib.hid (fun (w4 : World) hR hB hG => ringIs_some gr gk n k seed b (signD seed k b) A' c' w4 hR hkn hn64 hB hc' hG (by omega) (signD_len _ _ _))
    rw [show signV (some (signD seed k b)) = .tuple #[.agg CL.toArray, .bool true] by rw [hCL]; rfl] at S1
    rw [show signV (some (signD seed k b)) = .tuple #[.agg EL.toArray, .bool true] by rw [hEL]; rfl] at S2
    rw [← hCL, show decide (signD seed k b = signD seed k b) = true by simp] at IS
    have HCL := Lib.hid hCL
    have HEL := Lib.hid hEL
    unfold ringV at S1 S2 IS
    clear hCL hEL hC32 hE32
    go_wp2_with (go_at_call 12; refine stop ?_)
    unfold Stop
    refine (S1.out w2 HR2.out HX2.out HG2.out).mono ?_
    rintro e w3 ⟨rfl, hb3⟩
    have hba : Below w3.heap.size w3 (w3.alloc (.cells ZId 24)) := (Below.refl _ _).alloc (Nat.le_refl _) _
    have HZ3 := Lib.hid (show (w3.alloc (.cells ZId 24)).heap[w3.heap.size]? = some (.cells ZId 24 (0, 0)) from heap_alloc_new _ _)
    have HB24 := Lib.hid (below_setRow (hb3.trans (hba.mono hb3.size)) hb3.size CL.toArray)
    clear hb3 hba S1
    go_wp2_with (refine wpList_store_row rfl _ _ _ rfl w3.heap.size CL.toArray rfl rfl _ ZId HZ3.out H1.out H2.out H3.out ?_; refine stop ?_)
    unfold Stop
    obtain ⟨w4, hw4⟩ : ∃ w4, w4 = (w3.alloc (.cells ZId 24)).setRow w3.heap.size CL.toArray := ⟨_, rfl⟩
    change wpList _ _ _ _ _ ((w3.alloc (.cells ZId 24)).setRow w3.heap.size CL.toArray)
    rw [← hw4] at HB24 ⊢
    have HD4 := Lib.hid (show w4.heap[w3.heap.size]? = some (.cells CL.toArray 24 (0, 0)) by rw [hw4]; exact setRow_heap _ w3.heap.size ZId CL.toArray _ _ HZ3.out)
    have HR4 := Lib.hid (HR2.out.below HB24.out)
    have HX4 := Lib.hid (HX2.out.below HB24.out)
    have HG4 := Lib.hid (glob_below HG2.out HB24.out (Nat.le_refl _))
    have HB4 := Lib.hid (HB2.out.trans (HB24.out.mono HB2.out.size))
    clear hw4 HZ3 HB24 HR2 HG2 HB2 HX2 HK2
    go_wp2_with (go_at_call 12; refine stop ?_)
    unfold Stop
    refine (S2.out w4 HR4.out HX4.out HG4.out).mono ?_
    rintro e w5 ⟨rfl, hb3⟩
    have hba : Below w5.heap.size w5 (w5.alloc (.cells ZId 24)) := (Below.refl _ _).alloc (Nat.le_refl _) _
    have HZ5 := Lib.hid (show (w5.alloc (.cells ZId 24)).heap[w5.heap.size]? = some (.cells ZId 24 (0, 0)) from heap_alloc_new _ _)
    have HB46 := Lib.hid (below_setRow (hb3.trans (hba.mono hb3.size)) hb3.size EL.toArray)
    clear hb3 hba S2
    go_wp2_with (refine wpList_store_row rfl _ _ _ rfl w5.heap.size EL.toArray rfl rfl _ ZId HZ5.out E1.out E2.out E3.out ?_; refine stop ?_)
    unfold Stop
    obtain ⟨w6, hw6⟩ : ∃ w6, w6 = (w5.alloc (.cells ZId 24)).setRow w5.heap.size EL.toArray := ⟨_, rfl⟩
    change wpList _ _ _ _ _ ((w5.alloc (.cells ZId 24)).setRow w5.heap.size EL.toArray)
    rw [← hw6] at HB46 ⊢
    have r2 : rowOf w6 w5.heap.size 0 32 = some EL.toArray := by
      rw [HEL.out]
      refine rowOf_id (t := 24) (fr := (0, 0)) (signD_len _ _ _) ?_
      rw [← HEL.out, hw6]; exact setRow_heap _ w5.heap.size ZId EL.toArray _ _ HZ5.out
    have r1 : rowOf w6 w3.heap.size 0 32 = some CL.toArray := by
      rw [HCL.out]
      refine rowOf_id (t := 24) (fr := (0, 0)) (signD_len _ _ _) ?_
      rw [← HCL.out]; exact heap_below HB46.out HD4.out
    have HR6 := Lib.hid (HR4.out.below HB46.out)
    have HX6 := Lib.hid (HX4.out.below HB46.out)
    have HG6 := Lib.hid (glob_below HG4.out HB46.out (Nat.le_refl _))
    have HB6 := Lib.hid (HB4.out.trans (HB46.out.mono HB4.out.size))
    clear hw6 HZ5 HB46 HR4 HG4 HB4 HX4 HD4
    go_wp2_with (first
      | (go_at_call 14; refine (IS.out w6 HR6.out HX6.out HG6.out).mono ?_; rintro e w7 ⟨rfl, hb7⟩; have HB67 := Lib.hid hb7; have HB7 := Lib.hid (HB6.out.trans (hb7.mono HB6.out.size)); clear hb7)
      | (go_at_call 7; refine (awake_any _ (glob_below HG6.out HB67.out (Nat.le_refl _))).mono ?_; rintro e w8 ⟨rfl, hb8⟩; have HB8 := Lib.hid (HB7.out.trans (hb8.mono HB7.out.size)); clear hb8))
    go_ret
    exact ⟨rfl, HB8.out⟩
  · have hne : ¬ ((i : Int) = (k : Int)) := by omega
    have hnb : ((i : Int) != (k : Int)) = true := by simpa using hne
    have hib : ((i : Int) == (k : Int)) = false := beq_false_of_ne hne
    clear hik
    go_enter Tryd.func6, Tryd.ntmps6
    go_wp2_with (go_at_call 11; refine stop ?_)
    unfold Stop
    refine KS.out.mono ?_
    rintro e w1 ⟨gr, gk, rfl, hR, hb1⟩
    have HR := Lib.hid hR
    have HB1 := Lib.hid hb1
    have HK1 := Lib.hid (HK.out.below hb1)
    have HX1 := Lib.hid (HX.out.below hb1)
    have HG1 := Lib.hid (glob_below HG.out hb1 (Nat.le_refl _))
    unfold ringV
    clear hR hb1 KS HK HX HG AW
    go_wp2_with fail
    go_quiet (fail)
    obtain ⟨w2, hw2⟩ : ∃ w2, w2 = w1.drewN nq := ⟨_, rfl⟩
    have HB2 := Lib.hid (show Below w.heap.size w w2 by rw [hw2]; exact below_drewN HB1.out)
    have HR2 := Lib.hid (show RingAt w2 gr gk seed n by rw [hw2]; exact HR.out)
    have HK2 := Lib.hid (show Bts w2 A seed by rw [hw2]; exact HK1.out)
    have HX2 := Lib.hid (show Bts w2 A' b by rw [hw2]; exact HX1.out)
    have HG2 := Lib.hid (show Glob w2 by rw [hw2]; exact HG1.out)
    rw [← hw2]
    clear hw2 HR HB1 HK1 HX1 HG1 e1 e2 e3 e4 e3' e4' hn0
    by_cases hsame : signD seed i b = signD seed k b
    · skip
      obtain ⟨XA, hXA⟩ : ∃ X, X = ((signD seed i b).map bv).toArray := ⟨_, rfl⟩
      obtain ⟨YA, hYA⟩ : ∃ X, X = ((signD seed k b).map bv).toArray := ⟨_, rfl⟩
      have eqX : ∀ w, (Op.equalIn 10000 24 (.agg XA) (.agg YA)).run Tryd.prog w = .ok true w := fun w => by
        rw [hXA, hYA, eq_id _ _ (signD_len _ _ _) (signD_len _ _ _) w, show decide (signD seed i b = signD seed k b) = true by rw [decide_eq_true_eq]; exact hsame]
      have R1 := Lib.hid (fun (w4 : World) hK hB => rsign_any A A' c c' i seed b w4 hK HA.out hc hB HA'.out hc' (by omega) (by omega) (by omega))
      have R2 := Lib.hid (fun (w4 : World) hK hB => rsign_any A A' c c' k seed b w4 hK HA.out hc hB HA'.out hc' (by omega) (by omega) (by omega))
      rw [← hXA] at R1
      rw [← hYA] at R2
      clear hXA hYA
      go_wp2_with (go_at_call 15; refine stop ?_)
      unfold Stop
      refine (R1.out w2 HK2.out HX2.out).mono ?_
      rintro e wa ⟨rfl, hba⟩
      have HBa := Lib.hid hba
      clear hba
      go_wp2_with (go_at_call 15; refine stop ?_)
      unfold Stop
      refine (R2.out wa (HK2.out.below HBa.out) (HX2.out.below HBa.out)).mono ?_
      rintro e wb ⟨rfl, hbb⟩
      have hb2b : Below w2.heap.size w2 wb := HBa.out.trans (hbb.mono HBa.out.size)
      have HBb := Lib.hid (HB2.out.trans (hb2b.mono HB2.out.size))
      have HRb := Lib.hid (HR2.out.below hb2b)
      have HXb := Lib.hid (HX2.out.below hb2b)
      have HKb := Lib.hid (HK2.out.below hb2b)
      have HGb := Lib.hid (glob_below HG2.out hb2b (Nat.le_refl _))
      clear hbb hb2b HB2 HR2 HX2 HK2 HG2 HBa
      go_wp2_with (go_at_call 7; refine (awake_any _ HGb.out).mono ?_; rintro e w8 ⟨rfl, hb8⟩; have HB8 := Lib.hid (HBb.out.trans (hb8.mono HBb.out.size)); clear hb8)
      go_ret
      exact ⟨rfl, HB8.out⟩
    · skip
      obtain ⟨XA, hXA⟩ : ∃ X, X = ((signD seed i b).map bv).toArray := ⟨_, rfl⟩
      obtain ⟨YA, hYA⟩ : ∃ X, X = ((signD seed k b).map bv).toArray := ⟨_, rfl⟩
      have eqX : ∀ w, (Op.equalIn 10000 24 (.agg XA) (.agg YA)).run Tryd.prog w = .ok false w := fun w => by
        rw [hXA, hYA, eq_id _ _ (signD_len _ _ _) (signD_len _ _ _) w, show decide (signD seed i b = signD seed k b) = false by rw [decide_eq_false_iff_not]; exact hsame]
      have R1 := Lib.hid (fun (w4 : World) hK hB => rsign_any A A' c c' i seed b w4 hK HA.out hc hB HA'.out hc' (by omega) (by omega) (by omega))
      have R2 := Lib.hid (fun (w4 : World) hK hB => rsign_any A A' c c' k seed b w4 hK HA.out hc hB HA'.out hc' (by omega) (by omega) (by omega))
      rw [← hXA] at R1
      rw [← hYA] at R2
      clear hXA hYA
      go_wp2_with (go_at_call 15; refine stop ?_)
      unfold Stop
      refine (R1.out w2 HK2.out HX2.out).mono ?_
      rintro e wa ⟨rfl, hba⟩
      have HBa := Lib.hid hba
      clear hba
      go_wp2_with (go_at_call 15; refine stop ?_)
      unfold Stop
      refine (R2.out wa (HK2.out.below HBa.out) (HX2.out.below HBa.out)).mono ?_
      rintro e wb ⟨rfl, hbb⟩
      have hb2b : Below w2.heap.size w2 wb := HBa.out.trans (hbb.mono HBa.out.size)
      have HBb := Lib.hid (HB2.out.trans (hb2b.mono HB2.out.size))
      have HRb := Lib.hid (HR2.out.below hb2b)
      have HXb := Lib.hid (HX2.out.below hb2b)
      have HKb := Lib.hid (HK2.out.below hb2b)
      have HGb := Lib.hid (glob_below HG2.out hb2b (Nat.le_refl _))
      clear hbb hb2b HB2 HR2 HX2 HK2 HG2 HBa
      obtain ⟨w2, hw2⟩ : ∃ w2, w2 = wb := ⟨_, rfl⟩
      rw [← hw2] at HBb HRb HXb HKb HGb ⊢
      have HB2 := HBb
      have HR2 := HRb
      have HX2 := HXb
      have HK2 := HKb
      have HG2 := HGb
      clear HBb HRb HXb HKb HGb hw2
      obtain ⟨CL, hCL⟩ : ∃ CL, CL = (signD seed i b).map bv := ⟨_, rfl⟩
      have hC32 : CL.toArray.size = 32 := by rw [hCL]; simp [signD_len]
      have H3 := Lib.hid (show CL.toArray.all (·.oneCell') = true by rw [hCL]; exact bvs_one _)
      have H1 := Lib.hid (show (Tryd.prog.info? 24).map (·.size) = some CL.toArray.size by rw [hC32]; kernel_rfl)
      have H2 := Lib.hid (show ZId.size = CL.toArray.size by rw [hC32]; rfl)
      obtain ⟨EL, hEL⟩ : ∃ EL, EL = (signD seed k b).map bv := ⟨_, rfl⟩
      have hE32 : EL.toArray.size = 32 := by rw [hEL]; simp [signD_len]
      have E3 := Lib.hid (show EL.toArray.all (·.oneCell') = true by rw [hEL]; exact bvs_one _)
      have E1 := Lib.hid (show (Tryd.prog.info? 24).map (·.size) = some EL.toArray.size by rw [hE32]; kernel_rfl)
      have E2 := Lib.hid (show ZId.size = EL.toArray.size by rw [hE32]; rfl)
      have eqT : ∀ w, (Op.equalIn 10000 24 (.agg CL.toArray) (.agg EL.toArray)).run Tryd.prog w = .ok false w := fun w => by
        rw [hCL, hEL, eq_id _ _ (signD_len _ _ _) (signD_len _ _ _) w, show decide (signD seed i b = signD seed k b) = false by rw [decide_eq_false_iff_not]; exact hsame]
      have S1 := Lib.hid (fun (w4 : World) hR hB hG => sign_some gr gk n i seed b A' c' w4 hR hin hn64 hB hc' hG (by omega))
      have S2 := Lib.hid (fun (w4 : World) hR hB hG => sign_some gr gk n k seed b A' c' w4 hR hkn hn64 hB hc' hG (by omega))
      have IS := Lib.hid (fun (w4 : World) hR hB hG => ringIs_some gr gk n k seed b (signD seed i b) A' c' w4 hR hkn hn64 hB hc' hG (by omega) (signD_len _ _ _))
      rw [show signV (some (signD seed i b)) = .tuple #[.agg CL.toArray, .bool true] by rw [hCL]; rfl] at S1
      rw [show signV (some (signD seed k b)) = .tuple #[.agg EL.toArray, .bool true] by rw [hEL]; rfl] at S2
      rw [← hCL, show decide (signD seed k b = signD seed i b) = false by rw [decide_eq_false_iff_not]; exact fun e => hsame e.symm] at IS
      have HCL := Lib.hid hCL
      have HEL := Lib.hid hEL
      unfold ringV at S1 S2 IS
      clear hCL hEL hC32 hE32
      go_wp2_with (go_at_call 12; refine stop ?_)
      unfold Stop
      refine (S1.out w2 HR2.out HX2.out HG2.out).mono ?_
      rintro e w3 ⟨rfl, hb3⟩
      have hba : Below w3.heap.size w3 (w3.alloc (.cells ZId 24)) := (Below.refl _ _).alloc (Nat.le_refl _) _
      have HZ3 := Lib.hid (show (w3.alloc (.cells ZId 24)).heap[w3.heap.size]? = some (.cells ZId 24 (0, 0)) from heap_alloc_new _ _)
      have HB24 := Lib.hid (below_setRow (hb3.trans (hba.mono hb3.size)) hb3.size CL.toArray)
      clear hb3 hba S1
      go_wp2_with (refine wpList_store_row rfl _ _ _ rfl w3.heap.size CL.toArray rfl rfl _ ZId HZ3.out H1.out H2.out H3.out ?_; refine stop ?_)
      unfold Stop
      obtain ⟨w4, hw4⟩ : ∃ w4, w4 = (w3.alloc (.cells ZId 24)).setRow w3.heap.size CL.toArray := ⟨_, rfl⟩
      change wpList _ _ _ _ _ ((w3.alloc (.cells ZId 24)).setRow w3.heap.size CL.toArray)
      rw [← hw4] at HB24 ⊢
      have HD4 := Lib.hid (show w4.heap[w3.heap.size]? = some (.cells CL.toArray 24 (0, 0)) by rw [hw4]; exact setRow_heap _ w3.heap.size ZId CL.toArray _ _ HZ3.out)
      have HR4 := Lib.hid (HR2.out.below HB24.out)
      have HX4 := Lib.hid (HX2.out.below HB24.out)
      have HG4 := Lib.hid (glob_below HG2.out HB24.out (Nat.le_refl _))
      have HB4 := Lib.hid (HB2.out.trans (HB24.out.mono HB2.out.size))
      clear hw4 HZ3 HB24 HR2 HG2 HB2 HX2 HK2
      go_wp2_with (go_at_call 12; refine stop ?_)
      unfold Stop
      refine (S2.out w4 HR4.out HX4.out HG4.out).mono ?_
      rintro e w5 ⟨rfl, hb3⟩
      have hba : Below w5.heap.size w5 (w5.alloc (.cells ZId 24)) := (Below.refl _ _).alloc (Nat.le_refl _) _
      have HZ5 := Lib.hid (show (w5.alloc (.cells ZId 24)).heap[w5.heap.size]? = some (.cells ZId 24 (0, 0)) from heap_alloc_new _ _)
      have HB46 := Lib.hid (below_setRow (hb3.trans (hba.mono hb3.size)) hb3.size EL.toArray)
      clear hb3 hba S2
      go_wp2_with (refine wpList_store_row rfl _ _ _ rfl w5.heap.size EL.toArray rfl rfl _ ZId HZ5.out E1.out E2.out E3.out ?_; refine stop ?_)
      unfold Stop
      obtain ⟨w6, hw6⟩ : ∃ w6, w6 = (w5.alloc (.cells ZId 24)).setRow w5.heap.size EL.toArray := ⟨_, rfl⟩
      change wpList _ _ _ _ _ ((w5.alloc (.cells ZId 24)).setRow w5.heap.size EL.toArray)
      rw [← hw6] at HB46 ⊢
      have r2 : rowOf w6 w5.heap.size 0 32 = some EL.toArray := by
        rw [HEL.out]
        refine rowOf_id (t := 24) (fr := (0, 0)) (signD_len _ _ _) ?_
        rw [← HEL.out, hw6]; exact setRow_heap _ w5.heap.size ZId EL.toArray _ _ HZ5.out
      have r1 : rowOf w6 w3.heap.size 0 32 = some CL.toArray := by
        rw [HCL.out]
        refine rowOf_id (t := 24) (fr := (0, 0)) (signD_len _ _ _) ?_
        rw [← HCL.out]; exact heap_below HB46.out HD4.out
      have HR6 := Lib.hid (HR4.out.below HB46.out)
      have HX6 := Lib.hid (HX4.out.below HB46.out)
      have HG6 := Lib.hid (glob_below HG4.out HB46.out (Nat.le_refl _))
      have HB6 := Lib.hid (HB4.out.trans (HB46.out.mono HB4.out.size))
      clear hw6 HZ5 HB46 HR4 HG4 HB4 HX4 HD4
      go_wp2_with (first
        | (go_at_call 14; refine (IS.out w6 HR6.out HX6.out HG6.out).mono ?_; rintro e w7 ⟨rfl, hb7⟩; have HB67 := Lib.hid hb7; have HB7 := Lib.hid (HB6.out.trans (hb7.mono HB6.out.size)); clear hb7)
        | (go_at_call 7; refine (awake_any _ (glob_below HG6.out HB67.out (Nat.le_refl _))).mono ?_; rintro e w8 ⟨rfl, hb8⟩; have HB8 := Lib.hid (HB7.out.trans (hb8.mono HB7.out.size)); clear hb8))
      go_ret
      exact ⟨rfl, HB8.out⟩
theorem shards_law (A : Option Addr) (c : Nat) (seed : List B8) (A' : Option Addr) (c' : Nat) (b : List B8) (s x y : Nat) (w : World) (hK : Sl w w.heap.size A (seed.map bv)) (hm : seed.length ≤ maxLen) (hA : A = none → c = 0) (hc : seed.length ≤ c) (hB : Sl w w.heap.size A' (b.map bv)) (hm' : b.length ≤ maxLen) (hA' : A' = none → c' = 0) (hc' : b.length ≤ c') (hs : s < 256) (hx : x < 256) (hy : y < 256) (hG : Glob w) :
    Calls Tryd.prog 6 #[.slice A seed.length c, .slice A' b.length c', .int .u8 s, .int .u8 x, .int .u8 y] w fun e w' => e = .returned (.bool true) ∧ Below w.heap.size w w' := shards_any A A' c c' s x y seed b w (sl_bts hK) hA hc (sl_bts hB) hA' hc' hs hx hy hG
end Go.Proofs.YtnhakcmnpmlopaaDoor
