/- 'TagRings': its walk. -/
import Derived.Test.YtnhakcmnpmlopaaDoorTgK
set_option linter.unusedVariables false
namespace Go.Proofs.YtnhakcmnpmlopaaDoor
open Go.RowKit
attribute [local go_sem ↓] loadAt_id
attribute [local go_sem] rowOf_drew rowOf_drewN run_idLoad
theorem ring_stp {w w' : World} {gr gk n : Nat} {seed : List B8} (h : RingAt w gr gk seed n) (hs : Stp w w') : RingAt w' gr gk seed n := h.below hs
set_option maxRecDepth 100000 in
set_option maxHeartbeats 8000000 in
theorem rings_any (A A' : Option Addr) (c c' : Nat) (z s : Int) (seed b d : List B8) (w : World) (hK : Bts w A seed) (hA : A = none → c = 0) (hc : seed.length ≤ c) (hB : Bts w A' b) (hA' : A' = none → c' = 0) (hc' : b.length ≤ c') (hd : d.length = 32) (hG : Glob w) :
    Calls Tryd.prog 4 #[.slice A seed.length c, .int .i64 z, .int .i64 s, .slice A' b.length c', .agg (d.map bv).toArray] w fun e w' => e = .returned (.bool true) ∧ Below w.heap.size w w' := by
  obtain ⟨DL, hDL⟩ : ∃ DL, DL = d.map bv := ⟨_, rfl⟩
  have HDL := Lib.hid (show DL.length = 32 by rw [hDL, List.length_map, hd])
  rw [← hDL]
  obtain ⟨w1, hw1⟩ : ∃ w1, w1 = w.alloc (.cells DL.toArray 24) := ⟨_, rfl⟩
  have hb1 : Below w.heap.size w w1 := by rw [hw1]; exact (Below.refl _ _).alloc (Nat.le_refl _) _
  have HB1 := Lib.hid hb1
  have HR1 := Lib.hid (show w1.heap[w.heap.size]? = some (.cells DL.toArray 24 (0, 0)) by rw [hw1]; exact heap_alloc_new _ _)
  have HK1 := Lib.hid (hK.below hb1)
  have HX1 := Lib.hid (hB.below hb1)
  have HG1 := Lib.hid (glob_below hG hb1 (Nat.le_refl _))
  have HA := Lib.hid hA
  have HA' := Lib.hid hA'
  have HDD := Lib.hid hDL
  have Hd := Lib.hid hd
  have AW := Lib.hid (awake_any w1 HG1.out)
  clear hDL hd hb1 hK hB hG hA hA'
  by_cases hk2 : 100 < seed.length
  · have t0 : decide (100 < (seed.length : Int)) = true := by rw [decide_eq_true_eq]; omega
    go_enter Tryd.func4, Tryd.ntmps4
    go_upto_region 1 with fail
    change Code.wp _ _ _ _ (w.alloc (.cells DL.toArray 24))
    rw [← hw1]
    clear hw1
    go_wp2_with (go_at_call 7; refine AW.out.mono ?_; rintro e w2 ⟨rfl, hb2⟩; have HB2 := Lib.hid (HB1.out.trans (hb2.mono HB1.out.size)); clear hb2)
    go_ret
    exact ⟨rfl, HB2.out⟩
  have t0 : decide (100 < (seed.length : Int)) = false := by rw [decide_eq_false_iff_not]; omega
  by_cases hk3 : 100 < b.length
  · have t1 : decide (100 < (b.length : Int)) = true := by rw [decide_eq_true_eq]; omega
    go_enter Tryd.func4, Tryd.ntmps4
    go_upto_region 1 with fail
    change Code.wp _ _ _ _ (w.alloc (.cells DL.toArray 24))
    rw [← hw1]
    clear hw1
    go_wp2_with (go_at_call 7; refine AW.out.mono ?_; rintro e w2 ⟨rfl, hb2⟩; have HB2 := Lib.hid (HB1.out.trans (hb2.mono HB1.out.size)); clear hb2)
    go_ret
    exact ⟨rfl, HB2.out⟩
  have t1 : decide (100 < (b.length : Int)) = false := by rw [decide_eq_false_iff_not]; omega
  by_cases hzz : 1 ≤ z ∧ z ≤ 64
  · obtain ⟨n, rfl⟩ : ∃ n : Nat, z = (n : Int) := ⟨z.toNat, by omega⟩
    have hn1 : 1 ≤ n := by omega
    have hn64 : n ≤ 64 := by omega
    have KS := Lib.hid (keys_some A c n seed w1 HK1.out hc HG1.out (by omega) hn1 hn64)
    have t2 : decide ((1 : Int) ≤ (n : Int)) = true := by rw [decide_eq_true_eq]; omega
    have t3 : decide ((n : Int) ≤ (64 : Int)) = true := by rw [decide_eq_true_eq]; omega
    clear hzz
    by_cases hs : 0 ≤ s ∧ s < n
    · obtain ⟨k, rfl⟩ : ∃ k : Nat, s = (k : Int) := ⟨s.toNat, by omega⟩
      have hkn : k < n := by omega
      have t4 : decide ((0 : Int) ≤ (k : Int)) = true := by rw [decide_eq_true_eq]; omega
      have t5 : decide ((k : Int) < (n : Int)) = true := by rw [decide_eq_true_eq]; omega
      clear hs
      obtain ⟨CL, hCL⟩ : ∃ CL, CL = (signD seed k b).map bv := ⟨_, rfl⟩
      have hC32 : CL.toArray.size = 32 := by rw [hCL]; simp [signD_len]
      have HCL := Lib.hid (show CL.length = 32 by rw [hCL, List.length_map, signD_len])
      have H3 := Lib.hid (show CL.toArray.all (·.oneCell') = true by rw [hCL]; exact bvs_one _)
      have H1 := Lib.hid (show (Tryd.prog.info? 24).map (·.size) = some CL.toArray.size by rw [hC32]; kernel_rfl)
      have H2 := Lib.hid (show ZId.size = CL.toArray.size by rw [hC32]; rfl)
      obtain ⟨r, hr⟩ : ∃ r, r = decide (signD seed k b = d) := ⟨_, rfl⟩
      have eqC : ∀ w, (Op.equalIn 10000 24 (.agg CL.toArray) (.agg CL.toArray)).run Tryd.prog w = .ok true w := fun w => by
        rw [hCL, eq_id _ _ (signD_len _ _ _) (signD_len _ _ _) w]; simp
      have eqD : ∀ w, (Op.equalIn 10000 24 (.agg DL.toArray) (.agg CL.toArray)).run Tryd.prog w = .ok r w := fun w => by
        rw [hCL, HDD.out, eq_id d _ Hd.out (signD_len _ _ _) w, hr]
        rw [show decide (d = signD seed k b) = decide (signD seed k b = d) by rw [decide_eq_decide]; exact ⟨Eq.symm, Eq.symm⟩]
      have R := Lib.hid (fun (w4 : World) hK hB => rsign_any A A' c c' k seed b w4 hK HA.out hc hB HA'.out hc' (by omega) (by omega) (by omega))
      have SS := Lib.hid (fun gr gk (w4 : World) hR hB hG => sign_some gr gk n k seed b A' c' w4 hR hkn hn64 hB hc' hG (by omega))
      have IC := Lib.hid (fun gr gk (w4 : World) hR hB hG => ringIs_some gr gk n k seed b (signD seed k b) A' c' w4 hR hkn hn64 hB hc' hG (by omega) (signD_len _ _ _))
      have ID := Lib.hid (fun gr gk (w4 : World) hR hB hG => ringIs_some gr gk n k seed b d A' c' w4 hR hkn hn64 hB hc' hG (by omega) Hd.out)
      rw [show signV (some (signD seed k b)) = .tuple #[.agg CL.toArray, .bool true] by rw [hCL]; rfl] at SS
      rw [← hCL] at R
      rw [← hCL, show decide (signD seed k b = signD seed k b) = true by simp] at IC
      rw [← HDD.out, ← hr] at ID
      have AW' := Lib.hid (fun (w4 : World) hG => awake_any w4 hG)
      clear hCL hC32 hr
      go_enter Tryd.func4, Tryd.ntmps4
      go_upto_region 1 with fail
      change Code.wp _ _ _ _ (w.alloc (.cells DL.toArray 24))
      rw [← hw1]
      clear hw1
      go_wp2_with (go_at_call 11; refine stop ?_)
      unfold Stop
      refine KS.out.mono ?_
      rintro e w2 ⟨gr, gk, rfl, hR2, hb2⟩
      have HR2 := Lib.hid hR2
      have HB12 := Lib.hid hb2
      clear hR2 hb2 KS
      unfold ringV at SS IC ID ⊢
      go_wp2_with (go_at_call 12; refine stop ?_)
      unfold Stop
      refine (SS.out gr gk w2 HR2.out (HX1.out.below HB12.out) (glob_below HG1.out HB12.out (Nat.le_refl _))).mono ?_
      rintro e w3 ⟨rfl, hb3⟩
      have hba : Below w3.heap.size w3 (w3.alloc (.cells ZId 24)) := (Below.refl _ _).alloc (Nat.le_refl _) _
      have HZ := Lib.hid (show (w3.alloc (.cells ZId 24)).heap[w3.heap.size]? = some (.cells ZId 24 (0, 0)) from heap_alloc_new _ _)
      have HB24 := Lib.hid (below_setRow (hb3.trans (hba.mono hb3.size)) hb3.size CL.toArray)
      clear hb3 hba
      go_wp2_with (refine wpList_store_row rfl _ _ _ rfl w3.heap.size CL.toArray rfl rfl _ ZId HZ.out H1.out H2.out H3.out ?_; refine stop ?_)
      unfold Stop
      obtain ⟨w4, hw4⟩ : ∃ w4, w4 = (w3.alloc (.cells ZId 24)).setRow w3.heap.size CL.toArray := ⟨_, rfl⟩
      change wpList _ _ _ _ _ ((w3.alloc (.cells ZId 24)).setRow w3.heap.size CL.toArray)
      rw [← hw4] at HB24 ⊢
      have HB14 := Lib.hid (HB12.out.trans (HB24.out.mono HB12.out.size))
      have HR12 := Lib.hid (show w4.drew.heap[w3.heap.size]? = some (.cells CL.toArray 24 (0, 0)) by show w4.heap[_]? = _; rw [hw4]; exact setRow_heap _ w3.heap.size ZId CL.toArray _ _ HZ.out)
      have HR9 := Lib.hid (show w4.drew.heap[w.heap.size]? = some (.cells DL.toArray 24 (0, 0)) from heap_below HB14.out HR1.out)
      have HR4 := Lib.hid (HR2.out.below HB24.out)
      have HR4d := Lib.hid (show RingAt w4.drew gr gk seed n from HR4.out)
      have HK4 := Lib.hid (show Bts w4.drew A seed from HK1.out.below HB14.out.drew)
      have HX4 := Lib.hid (show Bts w4.drew A' b from HX1.out.below HB14.out.drew)
      have HG4 := Lib.hid (show Glob w4.drew from glob_below (w' := w4) HG1.out HB14.out (Nat.le_refl _))
      have HB4 := Lib.hid (HB1.out.trans (HB14.out.mono HB1.out.size))
      have LN := Lib.hid (len_any gr gk n seed w4 HR4.out)
      unfold ringV at LN
      clear hw4 HZ HB24 HB14 SS AW HK1 HX1 HG1 HB1 HR1 HR2 HB12
      go_wp2_with (go_at_call 13; refine LN.out.mono ?_; rintro e w5 ⟨rfl, hw5⟩; rw [hw5]; clear hw5 w5)
      cases r
      · refine wp_region_rel 105 Stp [.one ?_, .one ?_, .one ?_, .one ?_, .one ?_, .one ?_, .one ?_, .one ?_, .one ?_, .one ?_, .one ?_, .one ?_, .one ?_, .one ?_, .one ?_, .one ?_, .one ?_, .one ?_, .one ?_, .one ?_, .one ?_, .one ?_, .one ?_, .one ?_, .one ?_, .one ?_, .one ?_, .one ?_] (by kernel_rfl) (by kernel_rfl) rfl (by kernel_rfl) Stp.refl Stp.trans trivial ?main
        case main =>
        refine wpR_one (A' := ?_) Stp.refl (by rfl) _ rfl 105 (by rfl) (by rfl) ?_ ?_ ?_
        rotate_left 1
        · simp only [Act.put, List.setIfInBounds_toArray, List.set_cons_zero, List.set_cons_succ]; rfl
        · intro w1 hs hf K hK
          refine cls_load 24 (.tmp 12) rfl (w3.heap.size) (0) rfl (CL) _ (fun w2 h2 => range_row (heap_below h2 (heap_below hs HR12.out))) Tryd.underlying24 rfl (by rw [HCL.out]; kernel_rfl) ?_
          refine hK _ ?_
          simp only [Act.put, List.setIfInBounds_toArray, List.set_cons_zero, List.set_cons_succ]
          rfl
        iterate 3
          refine wpR_one (A' := ?_) Stp.refl (by rfl) _ rfl 105 (by rfl) (by rfl) ?_ ?_ ?_
          rotate_left 1
          · simp only [Act.put, List.setIfInBounds_toArray, List.set_cons_zero, List.set_cons_succ]; rfl
          · intro w1 hs hf K hK
            go_big_quiet_op
            first
              | go_big_quiet_on
              | (refine ⟨_, fun _ _ => rfl, ?_⟩; go_big_quiet_on)
            rfl
        refine wpR_one (A' := ?_) Stp.refl (by rfl) _ rfl 105 (by rfl) (by rfl) ?_ ?_ ?_
        rotate_left 1
        · simp only [Act.put, List.setIfInBounds_toArray, List.set_cons_zero, List.set_cons_succ]; rfl
        · intro w1 hs hf K hK
          go_big_quiet_op
          apply Exists.intro
          refine ⟨fun w4' h2 => ?_, ?_⟩
          · refine (R.out w4' (bts_stp (bts_stp HK4.out hs) h2) (bts_stp (bts_stp HX4.out hs) h2)).mono ?_
            rintro e w3 ⟨rfl, h3⟩
            exact ⟨rfl, Stp.trans _ _ _ h2 h3⟩
          · go_big_quiet_on
            rfl
        iterate 5
          refine wpR_one (A' := ?_) Stp.refl (by rfl) _ rfl 105 (by rfl) (by rfl) ?_ ?_ ?_
          rotate_left 1
          · simp only [Act.put, List.setIfInBounds_toArray, List.set_cons_zero, List.set_cons_succ]; rfl
          · intro w1 hs hf K hK
            go_big_quiet_op
            first
              | go_big_quiet_on
              | (refine ⟨_, fun _ _ => rfl, ?_⟩; go_big_quiet_on)
            rfl
        refine wpR_one (A' := ?_) Stp.refl (by rfl) _ rfl 105 (by rfl) (by rfl) ?_ ?_ ?_
        rotate_left 1
        · simp only [Act.put, List.setIfInBounds_toArray, List.set_cons_zero, List.set_cons_succ]; rfl
        · intro w1 hs hf K hK
          refine cls_load 24 (.tmp 12) rfl (w3.heap.size) (0) rfl (CL) _ (fun w2 h2 => range_row (heap_below h2 (heap_below hs HR12.out))) Tryd.underlying24 rfl (by rw [HCL.out]; kernel_rfl) ?_
          refine hK _ ?_
          simp only [Act.put, List.setIfInBounds_toArray, List.set_cons_zero, List.set_cons_succ]
          rfl
        refine wpR_one (A' := ?_) Stp.refl (by rfl) _ rfl 105 (by rfl) (by rfl) ?_ ?_ ?_
        rotate_left 1
        · simp only [Act.put, List.setIfInBounds_toArray, List.set_cons_zero, List.set_cons_succ]; rfl
        · intro w1 hs hf K hK
          go_big_quiet_op
          apply Exists.intro
          refine ⟨fun w4' h2 => ?_, ?_⟩
          · refine (IC.out gr gk w4' (ring_stp (ring_stp HR4d.out hs) h2) (bts_stp (bts_stp HX4.out hs) h2) (glob_stp (glob_stp HG4.out hs) h2)).mono ?_
            rintro e w3 ⟨rfl, h3⟩
            exact ⟨rfl, Stp.trans _ _ _ h2 h3⟩
          · go_big_quiet_on
            rfl
        iterate 5
          refine wpR_one (A' := ?_) Stp.refl (by rfl) _ rfl 105 (by rfl) (by rfl) ?_ ?_ ?_
          rotate_left 1
          · simp only [Act.put, List.setIfInBounds_toArray, List.set_cons_zero, List.set_cons_succ]; rfl
          · intro w1 hs hf K hK
            go_big_quiet_op
            first
              | go_big_quiet_on
              | (refine ⟨_, fun _ _ => rfl, ?_⟩; go_big_quiet_on)
            rfl
        refine wpR_one (A' := ?_) Stp.refl (by rfl) _ rfl 105 (by rfl) (by rfl) ?_ ?_ ?_
        rotate_left 1
        · simp only [Act.put, List.setIfInBounds_toArray, List.set_cons_zero, List.set_cons_succ]; rfl
        · intro w1 hs hf K hK
          refine cls_load 24 (.tmp 9) rfl (w.heap.size) (0) rfl (DL) _ (fun w2 h2 => range_row (heap_below h2 (heap_below hs HR9.out))) Tryd.underlying24 rfl (by rw [HDL.out]; kernel_rfl) ?_
          refine hK _ ?_
          simp only [Act.put, List.setIfInBounds_toArray, List.set_cons_zero, List.set_cons_succ]
          rfl
        refine wpR_one (A' := ?_) Stp.refl (by rfl) _ rfl 105 (by rfl) (by rfl) ?_ ?_ ?_
        rotate_left 1
        · simp only [Act.put, List.setIfInBounds_toArray, List.set_cons_zero, List.set_cons_succ]; rfl
        · intro w1 hs hf K hK
          go_big_quiet_op
          apply Exists.intro
          refine ⟨fun w4' h2 => ?_, ?_⟩
          · refine (ID.out gr gk w4' (ring_stp (ring_stp HR4d.out hs) h2) (bts_stp (bts_stp HX4.out hs) h2) (glob_stp (glob_stp HG4.out hs) h2)).mono ?_
            rintro e w3 ⟨rfl, h3⟩
            exact ⟨rfl, Stp.trans _ _ _ h2 h3⟩
          · go_big_quiet_on
            rfl
        refine wpR_one (A' := ?_) Stp.refl (by rfl) _ rfl 105 (by rfl) (by rfl) ?_ ?_ ?_
        rotate_left 1
        · simp only [Act.put, List.setIfInBounds_toArray, List.set_cons_zero, List.set_cons_succ]; rfl
        · intro w1 hs hf K hK
          refine cls_load 24 (.tmp 9) rfl (w.heap.size) (0) rfl (DL) _ (fun w2 h2 => range_row (heap_below h2 (heap_below hs HR9.out))) Tryd.underlying24 rfl (by rw [HDL.out]; kernel_rfl) ?_
          refine hK _ ?_
          simp only [Act.put, List.setIfInBounds_toArray, List.set_cons_zero, List.set_cons_succ]
          rfl
        refine wpR_one (A' := ?_) Stp.refl (by rfl) _ rfl 105 (by rfl) (by rfl) ?_ ?_ ?_
        rotate_left 1
        · simp only [Act.put, List.setIfInBounds_toArray, List.set_cons_zero, List.set_cons_succ]; rfl
        · intro w1 hs hf K hK
          refine cls_load 24 (.tmp 12) rfl (w3.heap.size) (0) rfl (CL) _ (fun w2 h2 => range_row (heap_below h2 (heap_below hs HR12.out))) Tryd.underlying24 rfl (by rw [HCL.out]; kernel_rfl) ?_
          refine hK _ ?_
          simp only [Act.put, List.setIfInBounds_toArray, List.set_cons_zero, List.set_cons_succ]
          rfl
        iterate 4
          refine wpR_one (A' := ?_) Stp.refl (by rfl) _ rfl 105 (by rfl) (by rfl) ?_ ?_ ?_
          rotate_left 1
          · simp only [Act.put, List.setIfInBounds_toArray, List.set_cons_zero, List.set_cons_succ]; rfl
          · intro w1 hs hf K hK
            go_big_quiet_op
            first
              | go_big_quiet_on
              | (refine ⟨_, fun _ _ => rfl, ?_⟩; go_big_quiet_on)
            rfl
        refine wpR_one (A' := ?_) Stp.refl (by rfl) _ rfl 105 (by rfl) (by rfl) ?_ ?_ ?_
        rotate_left 1
        · simp only [Act.put, List.setIfInBounds_toArray, List.set_cons_zero, List.set_cons_succ]; rfl
        · intro w1 hs hf K hK
          go_big_quiet_op
          apply Exists.intro
          refine ⟨fun w4' h2 => ?_, ?_⟩
          · refine (AW'.out w4' (glob_stp (glob_stp HG4.out hs) h2)).mono ?_
            rintro e w3 ⟨rfl, h3⟩
            exact ⟨rfl, Stp.trans _ _ _ h2 h3⟩
          · go_big_quiet_on
            rfl
        iterate 2
          refine wpR_one (A' := ?_) Stp.refl (by rfl) _ rfl 105 (by rfl) (by rfl) ?_ ?_ ?_
          rotate_left 1
          · simp only [Act.put, List.setIfInBounds_toArray, List.set_cons_zero, List.set_cons_succ]; rfl
          · intro w1 hs hf K hK
            go_big_quiet_op
            first
              | go_big_quiet_on
              | (refine ⟨_, fun _ _ => rfl, ?_⟩; go_big_quiet_on)
            rfl
        intro w9 hs hf
        have HS := Lib.hid (stp_start hs HB4.out)
        clear hs hf
        go_wp2_with fail
        go_ret
        exact ⟨rfl, HS.out⟩
      · refine wp_region_rel 105 Stp [.one ?_, .one ?_, .one ?_, .one ?_, .one ?_, .one ?_, .one ?_, .one ?_, .one ?_, .one ?_, .one ?_, .one ?_, .one ?_, .one ?_, .one ?_, .one ?_, .one ?_, .one ?_, .one ?_, .one ?_, .one ?_, .one ?_, .one ?_, .one ?_, .one ?_, .one ?_, .one ?_, .one ?_] (by kernel_rfl) (by kernel_rfl) rfl (by kernel_rfl) Stp.refl Stp.trans trivial ?main
        case main =>
        refine wpR_one (A' := ?_) Stp.refl (by rfl) _ rfl 105 (by rfl) (by rfl) ?_ ?_ ?_
        rotate_left 1
        · simp only [Act.put, List.setIfInBounds_toArray, List.set_cons_zero, List.set_cons_succ]; rfl
        · intro w1 hs hf K hK
          refine cls_load 24 (.tmp 12) rfl (w3.heap.size) (0) rfl (CL) _ (fun w2 h2 => range_row (heap_below h2 (heap_below hs HR12.out))) Tryd.underlying24 rfl (by rw [HCL.out]; kernel_rfl) ?_
          refine hK _ ?_
          simp only [Act.put, List.setIfInBounds_toArray, List.set_cons_zero, List.set_cons_succ]
          rfl
        iterate 3
          refine wpR_one (A' := ?_) Stp.refl (by rfl) _ rfl 105 (by rfl) (by rfl) ?_ ?_ ?_
          rotate_left 1
          · simp only [Act.put, List.setIfInBounds_toArray, List.set_cons_zero, List.set_cons_succ]; rfl
          · intro w1 hs hf K hK
            go_big_quiet_op
            first
              | go_big_quiet_on
              | (refine ⟨_, fun _ _ => rfl, ?_⟩; go_big_quiet_on)
            rfl
        refine wpR_one (A' := ?_) Stp.refl (by rfl) _ rfl 105 (by rfl) (by rfl) ?_ ?_ ?_
        rotate_left 1
        · simp only [Act.put, List.setIfInBounds_toArray, List.set_cons_zero, List.set_cons_succ]; rfl
        · intro w1 hs hf K hK
          go_big_quiet_op
          apply Exists.intro
          refine ⟨fun w4' h2 => ?_, ?_⟩
          · refine (R.out w4' (bts_stp (bts_stp HK4.out hs) h2) (bts_stp (bts_stp HX4.out hs) h2)).mono ?_
            rintro e w3 ⟨rfl, h3⟩
            exact ⟨rfl, Stp.trans _ _ _ h2 h3⟩
          · go_big_quiet_on
            rfl
        iterate 5
          refine wpR_one (A' := ?_) Stp.refl (by rfl) _ rfl 105 (by rfl) (by rfl) ?_ ?_ ?_
          rotate_left 1
          · simp only [Act.put, List.setIfInBounds_toArray, List.set_cons_zero, List.set_cons_succ]; rfl
          · intro w1 hs hf K hK
            go_big_quiet_op
            first
              | go_big_quiet_on
              | (refine ⟨_, fun _ _ => rfl, ?_⟩; go_big_quiet_on)
            rfl
        refine wpR_one (A' := ?_) Stp.refl (by rfl) _ rfl 105 (by rfl) (by rfl) ?_ ?_ ?_
        rotate_left 1
        · simp only [Act.put, List.setIfInBounds_toArray, List.set_cons_zero, List.set_cons_succ]; rfl
        · intro w1 hs hf K hK
          refine cls_load 24 (.tmp 12) rfl (w3.heap.size) (0) rfl (CL) _ (fun w2 h2 => range_row (heap_below h2 (heap_below hs HR12.out))) Tryd.underlying24 rfl (by rw [HCL.out]; kernel_rfl) ?_
          refine hK _ ?_
          simp only [Act.put, List.setIfInBounds_toArray, List.set_cons_zero, List.set_cons_succ]
          rfl
        refine wpR_one (A' := ?_) Stp.refl (by rfl) _ rfl 105 (by rfl) (by rfl) ?_ ?_ ?_
        rotate_left 1
        · simp only [Act.put, List.setIfInBounds_toArray, List.set_cons_zero, List.set_cons_succ]; rfl
        · intro w1 hs hf K hK
          go_big_quiet_op
          apply Exists.intro
          refine ⟨fun w4' h2 => ?_, ?_⟩
          · refine (IC.out gr gk w4' (ring_stp (ring_stp HR4d.out hs) h2) (bts_stp (bts_stp HX4.out hs) h2) (glob_stp (glob_stp HG4.out hs) h2)).mono ?_
            rintro e w3 ⟨rfl, h3⟩
            exact ⟨rfl, Stp.trans _ _ _ h2 h3⟩
          · go_big_quiet_on
            rfl
        iterate 5
          refine wpR_one (A' := ?_) Stp.refl (by rfl) _ rfl 105 (by rfl) (by rfl) ?_ ?_ ?_
          rotate_left 1
          · simp only [Act.put, List.setIfInBounds_toArray, List.set_cons_zero, List.set_cons_succ]; rfl
          · intro w1 hs hf K hK
            go_big_quiet_op
            first
              | go_big_quiet_on
              | (refine ⟨_, fun _ _ => rfl, ?_⟩; go_big_quiet_on)
            rfl
        refine wpR_one (A' := ?_) Stp.refl (by rfl) _ rfl 105 (by rfl) (by rfl) ?_ ?_ ?_
        rotate_left 1
        · simp only [Act.put, List.setIfInBounds_toArray, List.set_cons_zero, List.set_cons_succ]; rfl
        · intro w1 hs hf K hK
          refine cls_load 24 (.tmp 9) rfl (w.heap.size) (0) rfl (DL) _ (fun w2 h2 => range_row (heap_below h2 (heap_below hs HR9.out))) Tryd.underlying24 rfl (by rw [HDL.out]; kernel_rfl) ?_
          refine hK _ ?_
          simp only [Act.put, List.setIfInBounds_toArray, List.set_cons_zero, List.set_cons_succ]
          rfl
        refine wpR_one (A' := ?_) Stp.refl (by rfl) _ rfl 105 (by rfl) (by rfl) ?_ ?_ ?_
        rotate_left 1
        · simp only [Act.put, List.setIfInBounds_toArray, List.set_cons_zero, List.set_cons_succ]; rfl
        · intro w1 hs hf K hK
          go_big_quiet_op
          apply Exists.intro
          refine ⟨fun w4' h2 => ?_, ?_⟩
          · refine (ID.out gr gk w4' (ring_stp (ring_stp HR4d.out hs) h2) (bts_stp (bts_stp HX4.out hs) h2) (glob_stp (glob_stp HG4.out hs) h2)).mono ?_
            rintro e w3 ⟨rfl, h3⟩
            exact ⟨rfl, Stp.trans _ _ _ h2 h3⟩
          · go_big_quiet_on
            rfl
        refine wpR_one (A' := ?_) Stp.refl (by rfl) _ rfl 105 (by rfl) (by rfl) ?_ ?_ ?_
        rotate_left 1
        · simp only [Act.put, List.setIfInBounds_toArray, List.set_cons_zero, List.set_cons_succ]; rfl
        · intro w1 hs hf K hK
          refine cls_load 24 (.tmp 9) rfl (w.heap.size) (0) rfl (DL) _ (fun w2 h2 => range_row (heap_below h2 (heap_below hs HR9.out))) Tryd.underlying24 rfl (by rw [HDL.out]; kernel_rfl) ?_
          refine hK _ ?_
          simp only [Act.put, List.setIfInBounds_toArray, List.set_cons_zero, List.set_cons_succ]
          rfl
        refine wpR_one (A' := ?_) Stp.refl (by rfl) _ rfl 105 (by rfl) (by rfl) ?_ ?_ ?_
        rotate_left 1
        · simp only [Act.put, List.setIfInBounds_toArray, List.set_cons_zero, List.set_cons_succ]; rfl
        · intro w1 hs hf K hK
          refine cls_load 24 (.tmp 12) rfl (w3.heap.size) (0) rfl (CL) _ (fun w2 h2 => range_row (heap_below h2 (heap_below hs HR12.out))) Tryd.underlying24 rfl (by rw [HCL.out]; kernel_rfl) ?_
          refine hK _ ?_
          simp only [Act.put, List.setIfInBounds_toArray, List.set_cons_zero, List.set_cons_succ]
          rfl
        iterate 4
          refine wpR_one (A' := ?_) Stp.refl (by rfl) _ rfl 105 (by rfl) (by rfl) ?_ ?_ ?_
          rotate_left 1
          · simp only [Act.put, List.setIfInBounds_toArray, List.set_cons_zero, List.set_cons_succ]; rfl
          · intro w1 hs hf K hK
            go_big_quiet_op
            first
              | go_big_quiet_on
              | (refine ⟨_, fun _ _ => rfl, ?_⟩; go_big_quiet_on)
            rfl
        refine wpR_one (A' := ?_) Stp.refl (by rfl) _ rfl 105 (by rfl) (by rfl) ?_ ?_ ?_
        rotate_left 1
        · simp only [Act.put, List.setIfInBounds_toArray, List.set_cons_zero, List.set_cons_succ]; rfl
        · intro w1 hs hf K hK
          go_big_quiet_op
          apply Exists.intro
          refine ⟨fun w4' h2 => ?_, ?_⟩
          · refine (AW'.out w4' (glob_stp (glob_stp HG4.out hs) h2)).mono ?_
            rintro e w3 ⟨rfl, h3⟩
            exact ⟨rfl, Stp.trans _ _ _ h2 h3⟩
          · go_big_quiet_on
            rfl
        iterate 2
          refine wpR_one (A' := ?_) Stp.refl (by rfl) _ rfl 105 (by rfl) (by rfl) ?_ ?_ ?_
          rotate_left 1
          · simp only [Act.put, List.setIfInBounds_toArray, List.set_cons_zero, List.set_cons_succ]; rfl
          · intro w1 hs hf K hK
            go_big_quiet_op
            first
              | go_big_quiet_on
              | (refine ⟨_, fun _ _ => rfl, ?_⟩; go_big_quiet_on)
            rfl
        intro w9 hs hf
        have HS := Lib.hid (stp_start hs HB4.out)
        clear hs hf
        go_wp2_with fail
        go_ret
        exact ⟨rfl, HS.out⟩
    · have hs0 := hs
      clear hs
      obtain ⟨ZV, hZV⟩ : ∃ ZV, ZV = ZId := ⟨_, rfl⟩
      have Z1 := Lib.hid (show (Tryd.prog.info? 24).map (·.size) = some ZV.size by rw [hZV]; exact info_z)
      have Z2 := Lib.hid (show ZId.size = ZV.size by rw [hZV])
      have Z3 := Lib.hid (show ZV.all (·.oneCell') = true by rw [hZV]; kernel_rfl)
      have eqZ : ∀ w, (Op.equalIn 10000 24 (.agg ZV) (.agg ((zeros 32).map bv).toArray)).run Tryd.prog w = .ok true w := fun w => by
        rw [hZV, eq_id (zeros 32) (zeros 32) rfl rfl w]; simp
      rw [← id0_eq] at eqZ
      have SN := Lib.hid (fun gr gk X (w : World) hR => sign_none gr gk n s seed X w hR hs0)
      have IN := Lib.hid (fun gr gk X Y (w : World) hR => ringIs_none gr gk n s seed X Y d w hR hs0 Hd.out)
      rw [← HDD.out] at IN
      rw [show signV none = .tuple #[.agg ZV, .bool false] by rw [hZV]; rfl] at SN
      have HZV := Lib.hid hZV
      clear hZV
      go_enter Tryd.func4, Tryd.ntmps4
      go_upto_region 1 with fail
      change Code.wp _ _ _ _ (w.alloc (.cells DL.toArray 24))
      rw [← hw1]
      clear hw1
      go_wp2_with (go_at_call 11; refine stop ?_)
      unfold Stop
      refine KS.out.mono ?_
      rintro e w2 ⟨gr, gk, rfl, hR2, hb2⟩
      have HR2 := Lib.hid hR2
      have HB12 := Lib.hid hb2
      clear hR2 hb2 KS
      unfold ringV at SN IN ⊢
      go_wp2_with (go_at_call 12; refine stop ?_)
      unfold Stop
      refine (SN.out gr gk _ w2 HR2.out).mono ?_
      rintro e w3 ⟨rfl, hb3⟩
      have hba : Below w3.heap.size w3 (w3.alloc (.cells ZId 24)) := (Below.refl _ _).alloc (Nat.le_refl _) _
      have HZ := Lib.hid (show (w3.alloc (.cells ZId 24)).heap[w3.heap.size]? = some (.cells ZId 24 (0, 0)) from heap_alloc_new _ _)
      have HB24 := Lib.hid (below_setRow (hb3.trans (hba.mono hb3.size)) hb3.size ZV)
      clear hb3 hba
      go_wp2_with (refine wpList_store_row rfl _ _ _ rfl w3.heap.size ZV rfl rfl _ ZId HZ.out Z1.out Z2.out Z3.out ?_; refine stop ?_)
      unfold Stop
      obtain ⟨w4, hw4⟩ : ∃ w4, w4 = (w3.alloc (.cells ZId 24)).setRow w3.heap.size ZV := ⟨_, rfl⟩
      change wpList _ _ _ _ _ ((w3.alloc (.cells ZId 24)).setRow w3.heap.size ZV)
      rw [← hw4] at HB24 ⊢
      have HB14 := Lib.hid (HB12.out.trans (HB24.out.mono HB12.out.size))
      have r1 : rowOf w4 w3.heap.size 0 32 = some ZV := by
        rw [HZV.out]
        refine rowOf_id (t := 24) (fr := (0, 0)) (d := zeros 32) rfl ?_
        have h := setRow_heap (w3.alloc (.cells ZId 24)) w3.heap.size ZId ZV _ _ HZ.out
        rw [← hw4, HZV.out] at h
        exact h
      have r2 : rowOf w4 w.heap.size 0 32 = some DL.toArray := by
        rw [HDD.out]
        exact rowOf_id Hd.out (heap_below HB14.out (by rw [← HDD.out]; exact HR1.out))
      have HR4 := Lib.hid (HR2.out.below HB24.out)
      have HG4 := Lib.hid (glob_below HG1.out HB14.out (Nat.le_refl _))
      have HB4 := Lib.hid (HB1.out.trans (HB14.out.mono HB1.out.size))
      have LN := Lib.hid (len_any gr gk n seed w4 HR4.out)
      have IN4 := Lib.hid (fun X Y => IN.out gr gk X Y w4 HR4.out)
      unfold ringV at LN
      clear hw4 HZ HB24 SN IN AW
      by_cases hs1 : s < 0
      · have t4 : decide (0 ≤ s) = false := by rw [decide_eq_false_iff_not]; omega
        clear hs0 hs1
        go_wp2_with (first
          | (go_at_call 13; refine LN.out.mono ?_; rintro e w5 ⟨rfl, hw5⟩; rw [hw5]; clear hw5 w5)
          | (go_at_call 14; refine (IN4.out _ undef).mono ?_; rintro e w5 ⟨rfl, hb5⟩; have HB45 := Lib.hid hb5; have HB5 := Lib.hid (HB4.out.trans (hb5.mono HB4.out.size)); clear hb5)
          | (go_at_call 7; refine (awake_any _ (glob_below HG4.out HB45.out (Nat.le_refl _))).mono ?_; rintro e w6 ⟨rfl, hb6⟩; have HB6 := Lib.hid (HB5.out.trans (hb6.mono HB5.out.size)); clear hb6))
        go_ret
        exact ⟨rfl, HB6.out⟩
      · have t4 : decide (0 ≤ s) = true := by rw [decide_eq_true_eq]; omega
        have t5 : decide (s < (n : Int)) = false := by rw [decide_eq_false_iff_not]; omega
        clear hs0 hs1
        go_wp2_with (first
          | (go_at_call 13; refine LN.out.mono ?_; rintro e w5 ⟨rfl, hw5⟩; rw [hw5]; clear hw5 w5)
          | (go_at_call 14; refine (IN4.out _ undef).mono ?_; rintro e w5 ⟨rfl, hb5⟩; have HB45 := Lib.hid hb5; have HB5 := Lib.hid (HB4.out.trans (hb5.mono HB4.out.size)); clear hb5)
          | (go_at_call 7; refine (awake_any _ (glob_below HG4.out HB45.out (Nat.le_refl _))).mono ?_; rintro e w6 ⟨rfl, hb6⟩; have HB6 := Lib.hid (HB5.out.trans (hb6.mono HB5.out.size)); clear hb6))
        go_ret
        exact ⟨rfl, HB6.out⟩
  · have KN := Lib.hid (keys_none A c seed z w1 hzz)
    by_cases hz1 : z < 1
    · have t2 : decide (1 ≤ z) = false := by rw [decide_eq_false_iff_not]; omega
      clear hzz hz1
      go_enter Tryd.func4, Tryd.ntmps4
      go_upto_region 1 with fail
      change Code.wp _ _ _ _ (w.alloc (.cells DL.toArray 24))
      rw [← hw1]
      clear hw1
      go_wp2_with (first
        | (go_at_call 11; refine KN.out.mono ?_; rintro e w2 ⟨rfl, hw2⟩; rw [hw2]; clear hw2 w2)
        | (go_at_call 7; refine AW.out.mono ?_; rintro e w2 ⟨rfl, hb2⟩; have HB2 := Lib.hid (HB1.out.trans (hb2.mono HB1.out.size)); clear hb2))
      go_ret
      exact ⟨rfl, HB2.out⟩
    · have t2 : decide (1 ≤ z) = true := by rw [decide_eq_true_eq]; omega
      have t3 : decide (z ≤ 64) = false := by rw [decide_eq_false_iff_not]; omega
      clear hzz hz1
      go_enter Tryd.func4, Tryd.ntmps4
      go_upto_region 1 with fail
      change Code.wp _ _ _ _ (w.alloc (.cells DL.toArray 24))
      rw [← hw1]
      clear hw1
      go_wp2_with (first
        | (go_at_call 11; refine KN.out.mono ?_; rintro e w2 ⟨rfl, hw2⟩; rw [hw2]; clear hw2 w2)
        | (go_at_call 7; refine AW.out.mono ?_; rintro e w2 ⟨rfl, hb2⟩; have HB2 := Lib.hid (HB1.out.trans (hb2.mono HB1.out.size)); clear hb2))
      go_ret
      exact ⟨rfl, HB2.out⟩
theorem rings_law (A : Option Addr) (c : Nat) (seed : List B8) (z s : Int) (A' : Option Addr) (c' : Nat) (b d : List B8) (w : World) (hK : Sl w w.heap.size A (seed.map bv)) (hm : seed.length ≤ maxLen) (hA : A = none → c = 0) (hc : seed.length ≤ c) {p q : Prop} (_ : p) (_ : q) (hB : Sl w w.heap.size A' (b.map bv)) (hm' : b.length ≤ maxLen) (hA' : A' = none → c' = 0) (hc' : b.length ≤ c') (hd : d.length = 32) (hG : Glob w) :
    Calls Tryd.prog 4 #[.slice A seed.length c, .int .i64 z, .int .i64 s, .slice A' b.length c', .agg (d.map bv).toArray] w fun e w' => e = .returned (.bool true) ∧ Below w.heap.size w w' := rings_any A A' c c' z s seed b d w (sl_bts hK) hA hc (sl_bts hB) hA' hc' hd hG
end Go.Proofs.YtnhakcmnpmlopaaDoor
