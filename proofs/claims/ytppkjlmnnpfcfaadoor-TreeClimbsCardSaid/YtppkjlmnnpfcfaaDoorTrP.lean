/- The document's example. -/
import Derived.Test.YtppkjlmnnpfcfaaDoorTrO
set_option linter.unusedVariables false
namespace Go.Proofs.YtppkjlmnnpfcfaaDoor
open Go.RowKit
attribute [local go_sem ↓] loadAt_id
attribute [local go_sem] rowOf_drew rowOf_drewN run_idLoad
set_option maxRecDepth 100000 in
set_option maxHeartbeats 4000000 in
theorem awake_any (w : World) (hG : Glob w) : Calls Tryd.prog 9 #[] w fun e w' => e = .returned (.bool true) ∧ Below w.heap.size w w' := by
  obtain ⟨wa, hwa⟩ : ∃ wa, wa = (w.alloc (.cells #[.int .u8 7] 5)).alloc (.cells #[.slice (some ⟨w.heap.size, 0, none⟩) 1 1] 32) := ⟨_, rfl⟩
  have hba : Below w.heap.size w wa := by rw [hwa]; exact ((Below.refl _ _).alloc (Nat.le_refl _) _).alloc (by simp) _
  have hb7 : Bts wa (some ⟨w.heap.size, 0, none⟩) [7] := bts_row (d := [7]) (t := 5) (fr := (0, 0)) (by rw [hwa]; exact heap_alloc2_old w _ _)
  have hc : wa.cell? ⟨w.heap.size + 1, 0, none⟩ = some (.slice (some ⟨w.heap.size, 0, none⟩) 1 1) := by
    rw [hwa, cell_of_row _ _ _ _ _ _ (heap_alloc2_new w _ _)]; rfl
  have hl : Lst wa (some ⟨w.heap.size + 1, 0, none⟩) [[7]] := fun i xs hi => by
    match i, hi with
    | 0, hi =>
      obtain rfl : [7] = xs := by simpa using hi
      exact ⟨_, _, 1, rfl, hc, by decide, hb7⟩
  have HBA := Lib.hid hba
  have HG1 := Lib.hid (show Glob wa.drew from hG.below hba.drew hG.1)
  have HL1 := Lib.hid (show Lst wa.drew _ _ from hl)
  have HB1 := Lib.hid (show Bts wa.drew _ _ from hb7)
  have HC1 := Lib.hid (show wa.drew.cell? _ = some _ from hc)
  have R := Lib.hid (fun (w4 : World) (hL : Lst w4 (some ⟨w.heap.size + 1, 0, none⟩) [[7]]) (hG : Glob w4) => root_any 1 [[7]] (by decide) (by decide) (by decide) (some ⟨w.heap.size + 1, 0, none⟩) 1 w4 hL (by decide) hG)
  rw [rootD_one] at R
  have e1 : isD (leafD [7]) (climbZ [7] 0 1 []) = true := by
    have := climbZ_nat (leaf := [7]) (k := 0) (n := 1) (p := []) (by omega) (by omega)
    rw [show climbZ [7] 0 1 [] = climbD [7] 0 1 [] from this, climbD_one]; simp [isD]
  have e2 : isD (zeros 32) (climbZ [7] 0 1 []) = false := by
    have := climbZ_nat (leaf := [7]) (k := 0) (n := 1) (p := []) (by omega) (by omega)
    rw [show climbZ [7] 0 1 [] = climbD [7] 0 1 [] from this, climbD_one]
    exact dig_seven
  have I1 := Lib.hid (fun (w4 : World) (hB : Bts w4 (some ⟨w.heap.size, 0, none⟩) [7]) (hG : Glob w4) => is_any (leafD [7]) (some ⟨w.heap.size, 0, none⟩) 1 [7] 0 1 [] none 0 w4 (leafD_len _) (by decide) (by decide) (by decide) (by decide) (fun i d h => by simp at h) hB hG)
  have I2 := Lib.hid (fun (w4 : World) (hB : Bts w4 (some ⟨w.heap.size, 0, none⟩) [7]) (hG : Glob w4) => is_any (zeros 32) (some ⟨w.heap.size, 0, none⟩) 1 [7] 0 1 [] none 0 w4 rfl (by decide) (by decide) (by decide) (by decide) (fun i d h => by simp at h) hB hG)
  rw [e1] at I1
  rw [e2] at I2
  rw [← id0_eq] at I2
  have PF := Lib.hid (fun w4 => path_few' (some ⟨w.heap.size + 1, 0, none⟩) 1 1 0 w4 (by omega))
  obtain ⟨D, hD⟩ : ∃ D, D = ((leafD [7]).map bv).toArray := ⟨_, rfl⟩
  rw [← hD] at R I1
  clear hD e1 e2 hba hb7 hc hl hG
  go_enter Tryd.func9, Tryd.ntmps9
  go_upto_region 2 with fail
  rw [← hwa]
  clear hwa
  refine wp_region_rel 26 Stp [.one ?_, .one ?_, .one ?_, .one ?_, .one ?_, .one ?_, .one ?_, .one ?_, .one ?_, .one ?_, .one ?_, .one ?_, .one ?_, .one ?_, .one ?_, .one ?_, .one ?_, .one ?_, .one ?_, .one ?_, .one ?_, .one ?_, .one ?_] (by kernel_rfl) (by kernel_rfl) rfl (by kernel_rfl) Stp.refl Stp.trans trivial ?main
  case main =>
  iterate 1
    refine wpR_one (A' := ?_) Stp.refl (by rfl) _ rfl 26 (by rfl) (by rfl) ?_ ?_ ?_
    rotate_left 1
    · simp only [Act.put, List.setIfInBounds_toArray, List.set_cons_zero, List.set_cons_succ]; rfl
    · intro w1 hs hf K hK
      go_big_quiet_op
      first
        | go_big_quiet_on
        | (refine ⟨_, fun _ _ => rfl, ?_⟩; go_big_quiet_on)
      rfl
  refine wpR_one (A' := ?_) Stp.refl (by rfl) _ rfl 26 (by rfl) (by rfl) ?_ ?_ ?_
  rotate_left 1
  · simp only [Act.put, List.setIfInBounds_toArray, List.set_cons_zero, List.set_cons_succ]; rfl
  · intro w1 hs hf K hK
    have hg1 := Lib.hid (glob_stp HG1.out hs)
    have hl1 := Lib.hid (lst_stp HL1.out hs)
    have hb1 := Lib.hid (bts_stp HB1.out hs)
    go_big_quiet_op
    apply Exists.intro
    refine ⟨fun w4 h2 => ?_, ?_⟩
    · refine (R.out w4 (lst_stp hl1.out h2) (glob_stp hg1.out h2)).mono ?_
      rintro e w3 ⟨rfl, h3⟩
      exact ⟨rfl, Stp.trans _ _ _ h2 h3⟩
    · go_big_quiet_on
      rfl
  iterate 2
    refine wpR_one (A' := ?_) Stp.refl (by rfl) _ rfl 26 (by rfl) (by rfl) ?_ ?_ ?_
    rotate_left 1
    · simp only [Act.put, List.setIfInBounds_toArray, List.set_cons_zero, List.set_cons_succ]; rfl
    · intro w1 hs hf K hK
      go_big_quiet_op
      first
        | go_big_quiet_on
        | (refine ⟨_, fun _ _ => rfl, ?_⟩; go_big_quiet_on)
      rfl
  refine wpR_one (A' := ?_) Stp.refl (by rfl) _ rfl 26 (by rfl) (by rfl) ?_ ?_ ?_
  rotate_left 1
  · simp only [Act.put, List.setIfInBounds_toArray, List.set_cons_zero, List.set_cons_succ]; rfl
  · intro w1 hs hf K hK
    refine cls_load_sl (.tmp 7) rfl ⟨w.heap.size + 1, 0, none⟩ rfl (some ⟨w.heap.size, 0, none⟩) 1 1 (fun w4 h2 => cell_stp (cell_stp HC1.out hs) h2) ?_
    refine hK _ ?_
    simp only [Act.put, List.setIfInBounds_toArray, List.set_cons_zero, List.set_cons_succ]
    rfl
  iterate 1
    refine wpR_one (A' := ?_) Stp.refl (by rfl) _ rfl 26 (by rfl) (by rfl) ?_ ?_ ?_
    rotate_left 1
    · simp only [Act.put, List.setIfInBounds_toArray, List.set_cons_zero, List.set_cons_succ]; rfl
    · intro w1 hs hf K hK
      go_big_quiet_op
      first
        | go_big_quiet_on
        | (refine ⟨_, fun _ _ => rfl, ?_⟩; go_big_quiet_on)
      rfl
  refine wpR_one (A' := ?_) Stp.refl (by rfl) _ rfl 26 (by rfl) (by rfl) ?_ ?_ ?_
  rotate_left 1
  · simp only [Act.put, List.setIfInBounds_toArray, List.set_cons_zero, List.set_cons_succ]; rfl
  · intro w1 hs hf K hK
    have hg1 := Lib.hid (glob_stp HG1.out hs)
    have hl1 := Lib.hid (lst_stp HL1.out hs)
    have hb1 := Lib.hid (bts_stp HB1.out hs)
    go_big_quiet_op
    apply Exists.intro
    refine ⟨fun w4 h2 => ?_, ?_⟩
    · refine (PF.out w4).mono ?_
      rintro e w3 ⟨rfl, h3⟩
      exact ⟨rfl, Stp.trans _ _ _ h2 h3⟩
    · go_big_quiet_on
      rfl
  refine wpR_one (A' := ?_) Stp.refl (by rfl) _ rfl 26 (by rfl) (by rfl) ?_ ?_ ?_
  rotate_left 1
  · simp only [Act.put, List.setIfInBounds_toArray, List.set_cons_zero, List.set_cons_succ]; rfl
  · intro w1 hs hf K hK
    have hg1 := Lib.hid (glob_stp HG1.out hs)
    have hl1 := Lib.hid (lst_stp HL1.out hs)
    have hb1 := Lib.hid (bts_stp HB1.out hs)
    go_big_quiet_op
    apply Exists.intro
    refine ⟨fun w4 h2 => ?_, ?_⟩
    · refine (I1.out w4 (bts_stp hb1.out h2) (glob_stp hg1.out h2)).mono ?_
      rintro e w3 ⟨rfl, h3⟩
      exact ⟨rfl, Stp.trans _ _ _ h2 h3⟩
    · go_big_quiet_on
      rfl
  iterate 2
    refine wpR_one (A' := ?_) Stp.refl (by rfl) _ rfl 26 (by rfl) (by rfl) ?_ ?_ ?_
    rotate_left 1
    · simp only [Act.put, List.setIfInBounds_toArray, List.set_cons_zero, List.set_cons_succ]; rfl
    · intro w1 hs hf K hK
      go_big_quiet_op
      first
        | go_big_quiet_on
        | (refine ⟨_, fun _ _ => rfl, ?_⟩; go_big_quiet_on)
      rfl
  refine wpR_one (A' := ?_) Stp.refl (by rfl) _ rfl 26 (by rfl) (by rfl) ?_ ?_ ?_
  rotate_left 1
  · simp only [Act.put, List.setIfInBounds_toArray, List.set_cons_zero, List.set_cons_succ]; rfl
  · intro w1 hs hf K hK
    have hg1 := Lib.hid (glob_stp HG1.out hs)
    have hl1 := Lib.hid (lst_stp HL1.out hs)
    have hb1 := Lib.hid (bts_stp HB1.out hs)
    go_big_quiet_op
    apply Exists.intro
    refine ⟨fun w4 h2 => ?_, ?_⟩
    · refine (PF.out w4).mono ?_
      rintro e w3 ⟨rfl, h3⟩
      exact ⟨rfl, Stp.trans _ _ _ h2 h3⟩
    · go_big_quiet_on
      rfl
  iterate 7
    refine wpR_one (A' := ?_) Stp.refl (by rfl) _ rfl 26 (by rfl) (by rfl) ?_ ?_ ?_
    rotate_left 1
    · simp only [Act.put, List.setIfInBounds_toArray, List.set_cons_zero, List.set_cons_succ]; rfl
    · intro w1 hs hf K hK
      go_big_quiet_op
      first
        | go_big_quiet_on
        | (refine ⟨_, fun _ _ => rfl, ?_⟩; go_big_quiet_on)
      rfl
  refine wpR_one (A' := ?_) Stp.refl (by rfl) _ rfl 26 (by rfl) (by rfl) ?_ ?_ ?_
  rotate_left 1
  · simp only [Act.put, List.setIfInBounds_toArray, List.set_cons_zero, List.set_cons_succ]; rfl
  · intro w1 hs hf K hK
    refine cls_load_sl (.tmp 21) rfl ⟨w.heap.size + 1, 0, none⟩ rfl (some ⟨w.heap.size, 0, none⟩) 1 1 (fun w4 h2 => cell_stp (cell_stp HC1.out hs) h2) ?_
    refine hK _ ?_
    simp only [Act.put, List.setIfInBounds_toArray, List.set_cons_zero, List.set_cons_succ]
    rfl
  refine wpR_one (A' := ?_) Stp.refl (by rfl) _ rfl 26 (by rfl) (by rfl) ?_ ?_ ?_
  rotate_left 1
  · simp only [Act.put, List.setIfInBounds_toArray, List.set_cons_zero, List.set_cons_succ]; rfl
  · intro w1 hs hf K hK
    have hg1 := Lib.hid (glob_stp HG1.out hs)
    have hl1 := Lib.hid (lst_stp HL1.out hs)
    have hb1 := Lib.hid (bts_stp HB1.out hs)
    go_big_quiet_op
    apply Exists.intro
    refine ⟨fun w4 h2 => ?_, ?_⟩
    · refine (I2.out w4 (bts_stp hb1.out h2) (glob_stp hg1.out h2)).mono ?_
      rintro e w3 ⟨rfl, h3⟩
      exact ⟨rfl, Stp.trans _ _ _ h2 h3⟩
    · go_big_quiet_on
      rfl
  iterate 3
    refine wpR_one (A' := ?_) Stp.refl (by rfl) _ rfl 26 (by rfl) (by rfl) ?_ ?_ ?_
    rotate_left 1
    · simp only [Act.put, List.setIfInBounds_toArray, List.set_cons_zero, List.set_cons_succ]; rfl
    · intro w1 hs hf K hK
      go_big_quiet_op
      first
        | go_big_quiet_on
        | (refine ⟨_, fun _ _ => rfl, ?_⟩; go_big_quiet_on)
      rfl
  intro w9 hs hf
  have HS := Lib.hid (stp_start hs HBA.out)
  clear hs hf
  go_wp2_with fail
  go_ret
  exact ⟨rfl, HS.out⟩
end Go.Proofs.YtppkjlmnnpfcfaaDoor
