/- 'TagTells': its walk. -/
import Derived.Test.YtnhakcmnpmlopaaDoorTgJ
set_option linter.unusedVariables false
namespace Go.Proofs.YtnhakcmnpmlopaaDoor
open Go.RowKit
attribute [local go_sem ↓] loadAt_id
attribute [local go_sem] rowOf_drew rowOf_drewN run_idLoad
set_option maxRecDepth 100000 in
set_option maxHeartbeats 4000000 in
theorem tells_any (A A' : Option Addr) (c c' : Nat) (key b d : List B8) (w : World) (hK : Bts w A key) (hA : A = none → c = 0) (hc : key.length ≤ c) (hB : Bts w A' b) (hA' : A' = none → c' = 0) (hc' : b.length ≤ c') (hd : d.length = 32) (hG : Glob w) :
    Calls Tryd.prog 3 #[.slice A key.length c, .slice A' b.length c', .agg (d.map bv).toArray] w fun e w' => e = .returned (.bool true) ∧ Below w.heap.size w w' := by
  obtain ⟨DL, hDL⟩ : ∃ DL, DL = d.map bv := ⟨_, rfl⟩
  have HDL := Lib.hid (show DL.length = 32 by rw [hDL, List.length_map, hd])
  rw [← hDL]
  obtain ⟨w1, hw1⟩ : ∃ w1, w1 = w.alloc (.cells DL.toArray 24) := ⟨_, rfl⟩
  have hb1 : Below w.heap.size w w1 := by rw [hw1]; exact (Below.refl _ _).alloc (Nat.le_refl _) _
  have HB1 := Lib.hid hb1
  have HR1 := Lib.hid (show w1.heap[w.heap.size]? = some (.cells DL.toArray 24 (0, 0)) by rw [hw1]; exact heap_alloc_new _ _)
  have HK1 := Lib.hid (hK.below hb1)
  have HX1 := Lib.hid (hB.below hb1)
  have HG1 := Lib.hid (glob_below hG hb1 (Nat.le_refl _))
  have HA := Lib.hid hA
  have HA' := Lib.hid hA'
  by_cases hbig : key.length ≤ 200 ∧ b.length ≤ 200
  · obtain ⟨h200, h200'⟩ := hbig
    obtain ⟨CL, hCL⟩ : ∃ CL, CL = (tagD key b).map bv := ⟨_, rfl⟩
    have hC32 : CL.toArray.size = 32 := by rw [hCL]; simp [tagD_len]
    have HCL := Lib.hid (show CL.length = 32 by rw [hCL, List.length_map, tagD_len])
    have H3 := Lib.hid (show CL.toArray.all (·.oneCell') = true by rw [hCL]; exact bvs_one _)
    have H1 := Lib.hid (show (Tryd.prog.info? 24).map (·.size) = some CL.toArray.size by rw [hC32]; kernel_rfl)
    have H2 := Lib.hid (show ZId.size = CL.toArray.size by rw [hC32]; rfl)
    obtain ⟨r, hr⟩ : ∃ r, r = decide (tagD key b = d) := ⟨_, rfl⟩
    have eqC : ∀ w, (Op.equalIn 10000 24 (.agg CL.toArray) (.agg CL.toArray)).run Tryd.prog w = .ok true w := fun w => by
      rw [hCL, eq_id _ _ (tagD_len _ _) (tagD_len _ _) w]; simp
    have eqD : ∀ w, (Op.equalIn 10000 24 (.agg DL.toArray) (.agg CL.toArray)).run Tryd.prog w = .ok r w := fun w => by
      rw [hCL, hDL, eq_id d _ hd (tagD_len _ _) w, hr]
      rw [show decide (d = tagD key b) = decide (tagD key b = d) by rw [decide_eq_decide]; exact ⟨Eq.symm, Eq.symm⟩]
    have R := Lib.hid (fun w hK hB => rtag_any A A' c c' key b w hK HA.out hc hB HA'.out hc' (by omega) (by omega))
    have O := Lib.hid (fun (w4 : World) hK hB hG => tagOf_any A A' c c' key b w4 hK hc hB hc' hG (by omega) (by omega))
    have IC := Lib.hid (fun (w4 : World) hK hB hG => tagIs_any A A' c c' key.length b.length key b (tagD key b) rfl rfl (tagD_len _ _) w4 hK hc hB hc' hG (by omega) (by omega))
    have ID := Lib.hid (fun (w4 : World) hK hB hG => tagIs_any A A' c c' key.length b.length key b d rfl rfl hd w4 hK hc hB hc' hG (by omega) (by omega))
    rw [← hCL] at R O
    rw [← hCL, show decide (tagD key b = tagD key b) = true by simp] at IC
    rw [← hDL, ← hr] at ID
    have AW := Lib.hid (fun (w4 : World) hG => awake_any w4 hG)
    clear hDL hCL hC32 hr hd hb1 hK hB hG hA hA'
    go_enter Tryd.func3, Tryd.ntmps3
    go_upto_region 1 with fail
    change Code.wp _ _ _ _ (w.alloc (.cells DL.toArray 24))
    rw [← hw1]
    clear hw1
    go_wp2_with (go_at_call 8; refine stop ?_)
    unfold Stop
    refine (R.out w1 HK1.out HX1.out).mono ?_
    rintro e w2 ⟨rfl, hb2⟩
    have hba : Below w2.heap.size w2 (w2.alloc (.cells ZId 24)) := (Below.refl _ _).alloc (Nat.le_refl _) _
    have HZ := Lib.hid (show (w2.alloc (.cells ZId 24)).heap[w2.heap.size]? = some (.cells ZId 24 (0, 0)) from heap_alloc_new _ _)
    have HB13 := Lib.hid (below_setRow (hb2.trans (hba.mono hb2.size)) hb2.size CL.toArray)
    clear hb2 hba
    go_wp2_with (refine wpList_store_row rfl _ _ _ rfl w2.heap.size CL.toArray rfl rfl _ ZId HZ.out H1.out H2.out H3.out ?_; refine stop ?_)
    unfold Stop
    obtain ⟨w3, hw3⟩ : ∃ w3, w3 = (w2.alloc (.cells ZId 24)).setRow w2.heap.size CL.toArray := ⟨_, rfl⟩
    change wpList _ _ _ _ _ ((w2.alloc (.cells ZId 24)).setRow w2.heap.size CL.toArray)
    rw [← hw3] at HB13 ⊢
    have HR7 := Lib.hid (show w3.drew.heap[w2.heap.size]? = some (.cells CL.toArray 24 (0, 0)) by show w3.heap[_]? = _; rw [hw3]; exact setRow_heap _ w2.heap.size ZId CL.toArray _ _ HZ.out)
    have HR5 := Lib.hid (show w3.drew.heap[w.heap.size]? = some (.cells DL.toArray 24 (0, 0)) from heap_below HB13.out HR1.out)
    have HK3 := Lib.hid (show Bts w3.drew A key from HK1.out.below HB13.out.drew)
    have HX3 := Lib.hid (show Bts w3.drew A' b from HX1.out.below HB13.out.drew)
    have HG3 := Lib.hid (show Glob w3.drew from glob_below (w' := w3) HG1.out HB13.out (Nat.le_refl _))
    have HB3 := Lib.hid (HB1.out.trans (HB13.out.mono HB1.out.size))
    clear hw3 HZ HB13 HK1 HX1 HG1 HB1 HR1 R HA HA'
    go_wp2_with fail
    cases r
    · refine wp_region_rel 44 Stp [.one ?_, .one ?_, .one ?_, .one ?_, .one ?_, .one ?_, .one ?_, .one ?_, .one ?_, .one ?_, .one ?_, .one ?_, .one ?_, .one ?_, .one ?_, .one ?_, .one ?_, .one ?_, .one ?_, .one ?_, .one ?_, .one ?_, .one ?_, .one ?_, .one ?_] (by kernel_rfl) (by kernel_rfl) rfl (by kernel_rfl) Stp.refl Stp.trans trivial ?main
      case main =>
      iterate 2
        refine wpR_one (A' := ?_) Stp.refl (by rfl) _ rfl 44 (by rfl) (by rfl) ?_ ?_ ?_
        rotate_left 1
        · simp only [Act.put, List.setIfInBounds_toArray, List.set_cons_zero, List.set_cons_succ]; rfl
        · intro w1 hs hf K hK
          go_big_quiet_op
          first
            | go_big_quiet_on
            | (refine ⟨_, fun _ _ => rfl, ?_⟩; go_big_quiet_on)
          rfl
      refine wpR_one (A' := ?_) Stp.refl (by rfl) _ rfl 44 (by rfl) (by rfl) ?_ ?_ ?_
      rotate_left 1
      · simp only [Act.put, List.setIfInBounds_toArray, List.set_cons_zero, List.set_cons_succ]; rfl
      · intro w1 hs hf K hK
        go_big_quiet_op
        apply Exists.intro
        refine ⟨fun w4 h2 => ?_, ?_⟩
        · refine (O.out w4 (bts_stp (bts_stp HK3.out hs) h2) (bts_stp (bts_stp HX3.out hs) h2) (glob_stp (glob_stp HG3.out hs) h2)).mono ?_
          rintro e w3 ⟨rfl, h3⟩
          exact ⟨rfl, Stp.trans _ _ _ h2 h3⟩
        · go_big_quiet_on
          rfl
      refine wpR_one (A' := ?_) Stp.refl (by rfl) _ rfl 44 (by rfl) (by rfl) ?_ ?_ ?_
      rotate_left 1
      · simp only [Act.put, List.setIfInBounds_toArray, List.set_cons_zero, List.set_cons_succ]; rfl
      · intro w1 hs hf K hK
        refine cls_load 24 (.tmp 7) rfl (w2.heap.size) (0) rfl (CL) _ (fun w2 h2 => range_row (heap_below h2 (heap_below hs HR7.out))) Tryd.underlying24 rfl (by rw [HCL.out]; kernel_rfl) ?_
        refine hK _ ?_
        simp only [Act.put, List.setIfInBounds_toArray, List.set_cons_zero, List.set_cons_succ]
        rfl
      iterate 4
        refine wpR_one (A' := ?_) Stp.refl (by rfl) _ rfl 44 (by rfl) (by rfl) ?_ ?_ ?_
        rotate_left 1
        · simp only [Act.put, List.setIfInBounds_toArray, List.set_cons_zero, List.set_cons_succ]; rfl
        · intro w1 hs hf K hK
          go_big_quiet_op
          first
            | go_big_quiet_on
            | (refine ⟨_, fun _ _ => rfl, ?_⟩; go_big_quiet_on)
          rfl
      refine wpR_one (A' := ?_) Stp.refl (by rfl) _ rfl 44 (by rfl) (by rfl) ?_ ?_ ?_
      rotate_left 1
      · simp only [Act.put, List.setIfInBounds_toArray, List.set_cons_zero, List.set_cons_succ]; rfl
      · intro w1 hs hf K hK
        refine cls_load 24 (.tmp 7) rfl (w2.heap.size) (0) rfl (CL) _ (fun w2 h2 => range_row (heap_below h2 (heap_below hs HR7.out))) Tryd.underlying24 rfl (by rw [HCL.out]; kernel_rfl) ?_
        refine hK _ ?_
        simp only [Act.put, List.setIfInBounds_toArray, List.set_cons_zero, List.set_cons_succ]
        rfl
      refine wpR_one (A' := ?_) Stp.refl (by rfl) _ rfl 44 (by rfl) (by rfl) ?_ ?_ ?_
      rotate_left 1
      · simp only [Act.put, List.setIfInBounds_toArray, List.set_cons_zero, List.set_cons_succ]; rfl
      · intro w1 hs hf K hK
        go_big_quiet_op
        apply Exists.intro
        refine ⟨fun w4 h2 => ?_, ?_⟩
        · refine (IC.out w4 (bts_stp (bts_stp HK3.out hs) h2) (bts_stp (bts_stp HX3.out hs) h2) (glob_stp (glob_stp HG3.out hs) h2)).mono ?_
          rintro e w3 ⟨rfl, h3⟩
          exact ⟨rfl, Stp.trans _ _ _ h2 h3⟩
        · go_big_quiet_on
          rfl
      iterate 4
        refine wpR_one (A' := ?_) Stp.refl (by rfl) _ rfl 44 (by rfl) (by rfl) ?_ ?_ ?_
        rotate_left 1
        · simp only [Act.put, List.setIfInBounds_toArray, List.set_cons_zero, List.set_cons_succ]; rfl
        · intro w1 hs hf K hK
          go_big_quiet_op
          first
            | go_big_quiet_on
            | (refine ⟨_, fun _ _ => rfl, ?_⟩; go_big_quiet_on)
          rfl
      refine wpR_one (A' := ?_) Stp.refl (by rfl) _ rfl 44 (by rfl) (by rfl) ?_ ?_ ?_
      rotate_left 1
      · simp only [Act.put, List.setIfInBounds_toArray, List.set_cons_zero, List.set_cons_succ]; rfl
      · intro w1 hs hf K hK
        refine cls_load 24 (.tmp 5) rfl (w.heap.size) (0) rfl (DL) _ (fun w2 h2 => range_row (heap_below h2 (heap_below hs HR5.out))) Tryd.underlying24 rfl (by rw [HDL.out]; kernel_rfl) ?_
        refine hK _ ?_
        simp only [Act.put, List.setIfInBounds_toArray, List.set_cons_zero, List.set_cons_succ]
        rfl
      refine wpR_one (A' := ?_) Stp.refl (by rfl) _ rfl 44 (by rfl) (by rfl) ?_ ?_ ?_
      rotate_left 1
      · simp only [Act.put, List.setIfInBounds_toArray, List.set_cons_zero, List.set_cons_succ]; rfl
      · intro w1 hs hf K hK
        go_big_quiet_op
        apply Exists.intro
        refine ⟨fun w4 h2 => ?_, ?_⟩
        · refine (ID.out w4 (bts_stp (bts_stp HK3.out hs) h2) (bts_stp (bts_stp HX3.out hs) h2) (glob_stp (glob_stp HG3.out hs) h2)).mono ?_
          rintro e w3 ⟨rfl, h3⟩
          exact ⟨rfl, Stp.trans _ _ _ h2 h3⟩
        · go_big_quiet_on
          rfl
      refine wpR_one (A' := ?_) Stp.refl (by rfl) _ rfl 44 (by rfl) (by rfl) ?_ ?_ ?_
      rotate_left 1
      · simp only [Act.put, List.setIfInBounds_toArray, List.set_cons_zero, List.set_cons_succ]; rfl
      · intro w1 hs hf K hK
        refine cls_load 24 (.tmp 5) rfl (w.heap.size) (0) rfl (DL) _ (fun w2 h2 => range_row (heap_below h2 (heap_below hs HR5.out))) Tryd.underlying24 rfl (by rw [HDL.out]; kernel_rfl) ?_
        refine hK _ ?_
        simp only [Act.put, List.setIfInBounds_toArray, List.set_cons_zero, List.set_cons_succ]
        rfl
      refine wpR_one (A' := ?_) Stp.refl (by rfl) _ rfl 44 (by rfl) (by rfl) ?_ ?_ ?_
      rotate_left 1
      · simp only [Act.put, List.setIfInBounds_toArray, List.set_cons_zero, List.set_cons_succ]; rfl
      · intro w1 hs hf K hK
        refine cls_load 24 (.tmp 7) rfl (w2.heap.size) (0) rfl (CL) _ (fun w2 h2 => range_row (heap_below h2 (heap_below hs HR7.out))) Tryd.underlying24 rfl (by rw [HCL.out]; kernel_rfl) ?_
        refine hK _ ?_
        simp only [Act.put, List.setIfInBounds_toArray, List.set_cons_zero, List.set_cons_succ]
        rfl
      iterate 4
        refine wpR_one (A' := ?_) Stp.refl (by rfl) _ rfl 44 (by rfl) (by rfl) ?_ ?_ ?_
        rotate_left 1
        · simp only [Act.put, List.setIfInBounds_toArray, List.set_cons_zero, List.set_cons_succ]; rfl
        · intro w1 hs hf K hK
          go_big_quiet_op
          first
            | go_big_quiet_on
            | (refine ⟨_, fun _ _ => rfl, ?_⟩; go_big_quiet_on)
          rfl
      refine wpR_one (A' := ?_) Stp.refl (by rfl) _ rfl 44 (by rfl) (by rfl) ?_ ?_ ?_
      rotate_left 1
      · simp only [Act.put, List.setIfInBounds_toArray, List.set_cons_zero, List.set_cons_succ]; rfl
      · intro w1 hs hf K hK
        go_big_quiet_op
        apply Exists.intro
        refine ⟨fun w4 h2 => ?_, ?_⟩
        · refine (AW.out w4 (glob_stp (glob_stp HG3.out hs) h2)).mono ?_
          rintro e w3 ⟨rfl, h3⟩
          exact ⟨rfl, Stp.trans _ _ _ h2 h3⟩
        · go_big_quiet_on
          rfl
      iterate 2
        refine wpR_one (A' := ?_) Stp.refl (by rfl) _ rfl 44 (by rfl) (by rfl) ?_ ?_ ?_
        rotate_left 1
        · simp only [Act.put, List.setIfInBounds_toArray, List.set_cons_zero, List.set_cons_succ]; rfl
        · intro w1 hs hf K hK
          go_big_quiet_op
          first
            | go_big_quiet_on
            | (refine ⟨_, fun _ _ => rfl, ?_⟩; go_big_quiet_on)
          rfl
      intro w9 hs hf
      have HS := Lib.hid (stp_start hs HB3.out)
      clear hs hf
      go_wp2_with fail
      go_ret
      exact ⟨rfl, HS.out⟩
    · refine wp_region_rel 44 Stp [.one ?_, .one ?_, .one ?_, .one ?_, .one ?_, .one ?_, .one ?_, .one ?_, .one ?_, .one ?_, .one ?_, .one ?_, .one ?_, .one ?_, .one ?_, .one ?_, .one ?_, .one ?_, .one ?_, .one ?_, .one ?_, .one ?_, .one ?_, .one ?_, .one ?_] (by kernel_rfl) (by kernel_rfl) rfl (by kernel_rfl) Stp.refl Stp.trans trivial ?main
      case main =>
      iterate 2
        refine wpR_one (A' := ?_) Stp.refl (by rfl) _ rfl 44 (by rfl) (by rfl) ?_ ?_ ?_
        rotate_left 1
        · simp only [Act.put, List.setIfInBounds_toArray, List.set_cons_zero, List.set_cons_succ]; rfl
        · intro w1 hs hf K hK
          go_big_quiet_op
          first
            | go_big_quiet_on
            | (refine ⟨_, fun _ _ => rfl, ?_⟩; go_big_quiet_on)
          rfl
      refine wpR_one (A' := ?_) Stp.refl (by rfl) _ rfl 44 (by rfl) (by rfl) ?_ ?_ ?_
      rotate_left 1
      · simp only [Act.put, List.setIfInBounds_toArray, List.set_cons_zero, List.set_cons_succ]; rfl
      · intro w1 hs hf K hK
        go_big_quiet_op
        apply Exists.intro
        refine ⟨fun w4 h2 => ?_, ?_⟩
        · refine (O.out w4 (bts_stp (bts_stp HK3.out hs) h2) (bts_stp (bts_stp HX3.out hs) h2) (glob_stp (glob_stp HG3.out hs) h2)).mono ?_
          rintro e w3 ⟨rfl, h3⟩
          exact ⟨rfl, Stp.trans _ _ _ h2 h3⟩
        · go_big_quiet_on
          rfl
      refine wpR_one (A' := ?_) Stp.refl (by rfl) _ rfl 44 (by rfl) (by rfl) ?_ ?_ ?_
      rotate_left 1
      · simp only [Act.put, List.setIfInBounds_toArray, List.set_cons_zero, List.set_cons_succ]; rfl
      · intro w1 hs hf K hK
        refine cls_load 24 (.tmp 7) rfl (w2.heap.size) (0) rfl (CL) _ (fun w2 h2 => range_row (heap_below h2 (heap_below hs HR7.out))) Tryd.underlying24 rfl (by rw [HCL.out]; kernel_rfl) ?_
        refine hK _ ?_
        simp only [Act.put, List.setIfInBounds_toArray, List.set_cons_zero, List.set_cons_succ]
        rfl
      iterate 4
        refine wpR_one (A' := ?_) Stp.refl (by rfl) _ rfl 44 (by rfl) (by rfl) ?_ ?_ ?_
        rotate_left 1
        · simp only [Act.put, List.setIfInBounds_toArray, List.set_cons_zero, List.set_cons_succ]; rfl
        · intro w1 hs hf K hK
          go_big_quiet_op
          first
            | go_big_quiet_on
            | (refine ⟨_, fun _ _ => rfl, ?_⟩; go_big_quiet_on)
          rfl
      refine wpR_one (A' := ?_) Stp.refl (by rfl) _ rfl 44 (by rfl) (by rfl) ?_ ?_ ?_
      rotate_left 1
      · simp only [Act.put, List.setIfInBounds_toArray, List.set_cons_zero, List.set_cons_succ]; rfl
      · intro w1 hs hf K hK
        refine cls_load 24 (.tmp 7) rfl (w2.heap.size) (0) rfl (CL) _ (fun w2 h2 => range_row (heap_below h2 (heap_below hs HR7.out))) Tryd.underlying24 rfl (by rw [HCL.out]; kernel_rfl) ?_
        refine hK _ ?_
        simp only [Act.put, List.setIfInBounds_toArray, List.set_cons_zero, List.set_cons_succ]
        rfl
      refine wpR_one (A' := ?_) Stp.refl (by rfl) _ rfl 44 (by rfl) (by rfl) ?_ ?_ ?_
      rotate_left 1
      · simp only [Act.put, List.setIfInBounds_toArray, List.set_cons_zero, List.set_cons_succ]; rfl
      · intro w1 hs hf K hK
        go_big_quiet_op
        apply Exists.intro
        refine ⟨fun w4 h2 => ?_, ?_⟩
        · refine (IC.out w4 (bts_stp (bts_stp HK3.out hs) h2) (bts_stp (bts_stp HX3.out hs) h2) (glob_stp (glob_stp HG3.out hs) h2)).mono ?_
          rintro e w3 ⟨rfl, h3⟩
          exact ⟨rfl, Stp.trans _ _ _ h2 h3⟩
        · go_big_quiet_on
          rfl
      iterate 4
        refine wpR_one (A' := ?_) Stp.refl (by rfl) _ rfl 44 (by rfl) (by rfl) ?_ ?_ ?_
        rotate_left 1
        · simp only [Act.put, List.setIfInBounds_toArray, List.set_cons_zero, List.set_cons_succ]; rfl
        · intro w1 hs hf K hK
          go_big_quiet_op
          first
            | go_big_quiet_on
            | (refine ⟨_, fun _ _ => rfl, ?_⟩; go_big_quiet_on)
          rfl
      refine wpR_one (A' := ?_) Stp.refl (by rfl) _ rfl 44 (by rfl) (by rfl) ?_ ?_ ?_
      rotate_left 1
      · simp only [Act.put, List.setIfInBounds_toArray, List.set_cons_zero, List.set_cons_succ]; rfl
      · intro w1 hs hf K hK
        refine cls_load 24 (.tmp 5) rfl (w.heap.size) (0) rfl (DL) _ (fun w2 h2 => range_row (heap_below h2 (heap_below hs HR5.out))) Tryd.underlying24 rfl (by rw [HDL.out]; kernel_rfl) ?_
        refine hK _ ?_
        simp only [Act.put, List.setIfInBounds_toArray, List.set_cons_zero, List.set_cons_succ]
        rfl
      refine wpR_one (A' := ?_) Stp.refl (by rfl) _ rfl 44 (by rfl) (by rfl) ?_ ?_ ?_
      rotate_left 1
      · simp only [Act.put, List.setIfInBounds_toArray, List.set_cons_zero, List.set_cons_succ]; rfl
      · intro w1 hs hf K hK
        go_big_quiet_op
        apply Exists.intro
        refine ⟨fun w4 h2 => ?_, ?_⟩
        · refine (ID.out w4 (bts_stp (bts_stp HK3.out hs) h2) (bts_stp (bts_stp HX3.out hs) h2) (glob_stp (glob_stp HG3.out hs) h2)).mono ?_
          rintro e w3 ⟨rfl, h3⟩
          exact ⟨rfl, Stp.trans _ _ _ h2 h3⟩
        · go_big_quiet_on
          rfl
      refine wpR_one (A' := ?_) Stp.refl (by rfl) _ rfl 44 (by rfl) (by rfl) ?_ ?_ ?_
      rotate_left 1
      · simp only [Act.put, List.setIfInBounds_toArray, List.set_cons_zero, List.set_cons_succ]; rfl
      · intro w1 hs hf K hK
        refine cls_load 24 (.tmp 5) rfl (w.heap.size) (0) rfl (DL) _ (fun w2 h2 => range_row (heap_below h2 (heap_below hs HR5.out))) Tryd.underlying24 rfl (by rw [HDL.out]; kernel_rfl) ?_
        refine hK _ ?_
        simp only [Act.put, List.setIfInBounds_toArray, List.set_cons_zero, List.set_cons_succ]
        rfl
      refine wpR_one (A' := ?_) Stp.refl (by rfl) _ rfl 44 (by rfl) (by rfl) ?_ ?_ ?_
      rotate_left 1
      · simp only [Act.put, List.setIfInBounds_toArray, List.set_cons_zero, List.set_cons_succ]; rfl
      · intro w1 hs hf K hK
        refine cls_load 24 (.tmp 7) rfl (w2.heap.size) (0) rfl (CL) _ (fun w2 h2 => range_row (heap_below h2 (heap_below hs HR7.out))) Tryd.underlying24 rfl (by rw [HCL.out]; kernel_rfl) ?_
        refine hK _ ?_
        simp only [Act.put, List.setIfInBounds_toArray, List.set_cons_zero, List.set_cons_succ]
        rfl
      iterate 4
        refine wpR_one (A' := ?_) Stp.refl (by rfl) _ rfl 44 (by rfl) (by rfl) ?_ ?_ ?_
        rotate_left 1
        · simp only [Act.put, List.setIfInBounds_toArray, List.set_cons_zero, List.set_cons_succ]; rfl
        · intro w1 hs hf K hK
          go_big_quiet_op
          first
            | go_big_quiet_on
            | (refine ⟨_, fun _ _ => rfl, ?_⟩; go_big_quiet_on)
          rfl
      refine wpR_one (A' := ?_) Stp.refl (by rfl) _ rfl 44 (by rfl) (by rfl) ?_ ?_ ?_
      rotate_left 1
      · simp only [Act.put, List.setIfInBounds_toArray, List.set_cons_zero, List.set_cons_succ]; rfl
      · intro w1 hs hf K hK
        go_big_quiet_op
        apply Exists.intro
        refine ⟨fun w4 h2 => ?_, ?_⟩
        · refine (AW.out w4 (glob_stp (glob_stp HG3.out hs) h2)).mono ?_
          rintro e w3 ⟨rfl, h3⟩
          exact ⟨rfl, Stp.trans _ _ _ h2 h3⟩
        · go_big_quiet_on
          rfl
      iterate 2
        refine wpR_one (A' := ?_) Stp.refl (by rfl) _ rfl 44 (by rfl) (by rfl) ?_ ?_ ?_
        rotate_left 1
        · simp only [Act.put, List.setIfInBounds_toArray, List.set_cons_zero, List.set_cons_succ]; rfl
        · intro w1 hs hf K hK
          go_big_quiet_op
          first
            | go_big_quiet_on
            | (refine ⟨_, fun _ _ => rfl, ?_⟩; go_big_quiet_on)
          rfl
      intro w9 hs hf
      have HS := Lib.hid (stp_start hs HB3.out)
      clear hs hf
      go_wp2_with fail
      go_ret
      exact ⟨rfl, HS.out⟩
  · have AW := Lib.hid (awake_any w1 HG1.out)
    clear hDL hd hb1 hK hB hG hA hA'
    by_cases hk2 : 200 < key.length
    · have t0 : decide (200 < (key.length : Int)) = true := by rw [decide_eq_true_eq]; omega
      go_enter Tryd.func3, Tryd.ntmps3
      go_upto_region 1 with fail
      change Code.wp _ _ _ _ (w.alloc (.cells DL.toArray 24))
      rw [← hw1]
      clear hw1
      go_wp2_with (go_at_call 7; refine AW.out.mono ?_; rintro e w2 ⟨rfl, hb2⟩; have HB2 := Lib.hid (HB1.out.trans (hb2.mono HB1.out.size)); clear hb2)
      go_ret
      exact ⟨rfl, HB2.out⟩
    · have t0 : decide (200 < (key.length : Int)) = false := by rw [decide_eq_false_iff_not]; omega
      have t1 : decide (200 < (b.length : Int)) = true := by rw [decide_eq_true_eq]; omega
      go_enter Tryd.func3, Tryd.ntmps3
      go_upto_region 1 with fail
      change Code.wp _ _ _ _ (w.alloc (.cells DL.toArray 24))
      rw [← hw1]
      clear hw1
      go_wp2_with (go_at_call 7; refine AW.out.mono ?_; rintro e w2 ⟨rfl, hb2⟩; have HB2 := Lib.hid (HB1.out.trans (hb2.mono HB1.out.size)); clear hb2)
      go_ret
      exact ⟨rfl, HB2.out⟩
theorem sl_bts {w : World} {B : Nat} {A : Option Addr} {xs : List B8} (h : Sl w B A (xs.map bv)) : Bts w A xs := fun j u hu => by
  obtain ⟨ad, e, -, hc⟩ := h j u hu
  exact ⟨ad, e, hc⟩
theorem tells_law (A : Option Addr) (c : Nat) (key : List B8) (A' : Option Addr) (c' : Nat) (b d : List B8) (w : World) (hK : Sl w w.heap.size A (key.map bv)) (hm : key.length ≤ maxLen) (hA : A = none → c = 0) (hc : key.length ≤ c) (hB : Sl w w.heap.size A' (b.map bv)) (hm' : b.length ≤ maxLen) (hA' : A' = none → c' = 0) (hc' : b.length ≤ c') (hd : d.length = 32) (hG : Glob w) :
    Calls Tryd.prog 3 #[.slice A key.length c, .slice A' b.length c', .agg (d.map bv).toArray] w fun e w' => e = .returned (.bool true) ∧ Below w.heap.size w w' := tells_any A A' c c' key b d w (sl_bts hK) hA hc (sl_bts hB) hA' hc' hd hG
end Go.Proofs.YtnhakcmnpmlopaaDoor
