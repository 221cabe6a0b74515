/- 'HeaderFollows': its walk, over what 'Follows' and 'awake' come to. -/
import Derived.Test.YtoagneibaincpaaDoorHlA
set_option linter.unusedVariables false
set_option linter.unusedSimpArgs false
namespace Go.Proofs.YtoagneibaincpaaDoor
open Go.RowKit
attribute [local go_sem ↓] loadAt_hd loadAt_id
attribute [local go_sem] run_hdLoad run_idLoad rowOf_drew rowOf_drewN
/-- May b stand behind a? -/
def fol (a b : Hdr) : Prop := okH a ∧ okH b ∧ a.s = b.s ∧ b.t = a.t + 1 ∧ a.p ≤ b.p ∧ b.d = hid a
instance (a b : Hdr) : Decidable (fol a b) := by unfold fol; infer_instance
/-- What 'Follows' is to come to. -/
def CFollows : Prop := ∀ (a b : Hdr) (w : World), a.L → b.L → Glob w → Calls Tryd.prog 22 #[.agg a.cells.toArray, .agg b.cells.toArray] w fun r w' => r = .returned (.bool (decide (fol a b))) ∧ Turn (fun _ => False) w w'
theorem fol_self (a : Hdr) : decide (fol a a) = false := decide_eq_false (fun h => by have := h.2.2.2.1; omega)
set_option maxRecDepth 100000 in
set_option maxHeartbeats 16000000 in
theorem headerFollows_of (AW : ∀ w, Glob w → Calls Tryd.prog 13 #[] w fun r w' => r = .returned (.bool true) ∧ Turn (fun _ => False) w w') (CF : CFollows) (a b c : Hdr) (w : World) (ha : a.L) (hb : b.L) (hc : c.L) (hG : Glob w) :
    Calls Tryd.prog 6 #[.agg a.cells.toArray, .agg b.cells.toArray, .agg c.cells.toArray] w fun r w' => r = .returned (.bool true) ∧ Turn (fun _ => False) w w' := by
  have AW := Lib.hid AW
  have RA := Lib.hid (fun w => stp_call (hrright_any a w ha))
  have RB := Lib.hid (fun w => stp_call (hrright_any b w hb))
  have IA := Lib.hid (fun w => stp_call (hrid_any a w ha))
  have IC := Lib.hid (fun w => stp_call (hrid_any c w hc))
  have FAB := Lib.hid (fun w hG => CF a b w ha hb hG)
  have FCB := Lib.hid (fun w hG => CF c b w hc hb hG)
  have FAA := Lib.hid (fun w hG => CF a a w ha ha hG)
  simp only [fol_self] at FAA
  have hQ := fun w => eql_in_hdr a c ha hc w
  have hI := fun w => eq_id b.d (hid a) hb.1 (hid_len a) w
  have hJ := fun w => eq_id (hid a) (hid c) (hid_len a) (hid_len c) w
  obtain ⟨DA, hDA⟩ : ∃ D, D = ((hid a).map bv).toArray := ⟨_, rfl⟩
  obtain ⟨DC, hDC⟩ : ∃ D, D = ((hid c).map bv).toArray := ⟨_, rfl⟩
  rw [← hDA] at hI hJ IA
  rw [← hDC] at hJ IC
  obtain ⟨LA, hLA⟩ : ∃ L, L = a.cells := ⟨_, rfl⟩
  obtain ⟨LB, hLB⟩ : ∃ L, L = b.cells := ⟨_, rfl⟩
  obtain ⟨LC, hLC⟩ : ∃ L, L = c.cells := ⟨_, rfl⟩
  rw [← hLA] at RA IA hQ
  rw [← hLB] at RB
  rw [← hLC] at IC hQ
  simp only [← hLA, ← hLB, ← hLC] at FAB FCB FAA ⊢
  obtain ⟨w0, hw0⟩ : ∃ w0, w0 = ((w.alloc (.cells LA.toArray 25)).alloc (.cells LB.toArray 25)).alloc (.cells LC.toArray 25) := ⟨_, rfl⟩
  have t0 : Turn (fun _ => False) w w0 := by rw [hw0]; exact (((Turn.refl _ _).alloc _).alloc _).alloc _
  have g0 : w0.heap[w.heap.size]? = some (.cells LA.toArray 25 (0, 0)) := by rw [hw0, Below.heap_alloc _ _ _ (by simp; omega)]; exact heap_alloc2_old w _ _
  have g1 : w0.heap[w.heap.size + 1]? = some (.cells LB.toArray 25 (0, 0)) := by rw [hw0, Below.heap_alloc _ _ _ (by simp)]; exact heap_alloc2_new w _ _
  have g2 : w0.heap[w.heap.size + 2]? = some (.cells LC.toArray 25 (0, 0)) := by
    have := heap_alloc_new ((w.alloc (.cells LA.toArray 25)).alloc (.cells LB.toArray 25)) (.cells LC.toArray 25)
    rw [← hw0] at this
    simpa using this
  have sA : LA.length = 67 := by rw [hLA, Hdr.len _ ha]
  have sB : LB.length = 67 := by rw [hLB, Hdr.len _ hb]
  have sC : LC.length = 67 := by rw [hLC, Hdr.len _ hc]
  have RF := Lib.hid (show ∀ w' : World, Turn (fun _ => False) w0 w' → rowOf w' w.heap.size 0 67 = some LA.toArray ∧ rowOf w' (w.heap.size + 1) 0 67 = some LB.toArray ∧ rowOf w' (w.heap.size + 2) 0 67 = some LC.toArray from fun w' t => ⟨row67_at g0 (by simp [sA]) t, row67_at g1 (by simp [sB]) t, row67_at g2 (by simp [sC]) t⟩)
  have RG := Lib.hid (show ∀ w' : World, Turn (fun _ => False) w0 w' → w'.rangeAt w.heap.size 0 LA ∧ w'.rangeAt (w.heap.size + 1) 0 LB ∧ w'.rangeAt (w.heap.size + 2) 0 LC ∧ w'.rangeAt (w.heap.size + 1) 3 (b.d.map bv) from fun w' t => by
    refine ⟨fun j v hj => ?_, fun j v hj => ?_, fun j v hj => ?_, fun j v hj => ?_⟩
    · rw [Nat.zero_add, cell_of_row _ _ _ _ _ _ (t.heap g0 (fun h => h)), List.getElem?_toArray]; exact hj
    · rw [Nat.zero_add, cell_of_row _ _ _ _ _ _ (t.heap g1 (fun h => h)), List.getElem?_toArray]; exact hj
    · rw [Nat.zero_add, cell_of_row _ _ _ _ _ _ (t.heap g2 (fun h => h)), List.getElem?_toArray]; exact hj
    · rw [cell_of_row _ _ _ _ _ _ (t.heap g1 (fun h => h)), List.getElem?_toArray]
      have hm := b.mid hb
      rw [← hLB] at hm
      rw [← hm, List.getElem?_take] at hj
      split at hj
      · rw [List.getElem?_drop] at hj; exact hj
      · cases hj)
  have RC := Lib.hid (show ∀ w' : World, Turn (fun _ => False) w0 w' → (w'.cell? ⟨w.heap.size, 0, none⟩ = some (.int .i64 a.s) ∧ w'.cell? ⟨w.heap.size, 1, none⟩ = some (.int .i64 a.t) ∧ w'.cell? ⟨w.heap.size, 2, none⟩ = some (.int .i64 a.p)) ∧ (w'.cell? ⟨w.heap.size + 1, 0, none⟩ = some (.int .i64 b.s) ∧ w'.cell? ⟨w.heap.size + 1, 1, none⟩ = some (.int .i64 b.t) ∧ w'.cell? ⟨w.heap.size + 1, 2, none⟩ = some (.int .i64 b.p)) from fun w' t => by
    rw [hLA] at g0
    rw [hLB] at g1
    exact ⟨HAt.c (e := a) (t.heap g0 (fun h => h)), HAt.c (e := b) (t.heap g1 (fun h => h))⟩)
  have GL := Lib.hid (fun (w' : World) (t : Turn (fun _ => False) w0 w') => show Glob w' from glob_turn (glob_turn hG t0) t)
  have ZA := Lib.hid (show (Tryd.prog.info? 25).map (·.size) = some LA.length by rw [sA]; exact hd_info)
  have ZB := Lib.hid (show (Tryd.prog.info? 25).map (·.size) = some LB.length by rw [sB]; exact hd_info)
  have ZC := Lib.hid (show (Tryd.prog.info? 25).map (·.size) = some LC.length by rw [sC]; exact hd_info)
  have ZD := Lib.hid (show (Tryd.prog.info? 23).map (·.size) = some (b.d.map bv).length by rw [List.length_map, hb.1]; exact id_info)
  have T0 := Lib.hid t0
  have HWS := Lib.hid (fun (w' : World) (h : Stp w0.drew w') => show Turn (fun _ => False) w0 w' from Turn.of_below (stp_start h (Below.refl _ _)))
  have FOL := Lib.hid (show fol a b ↔ (okH a ∧ okH b ∧ a.s = b.s ∧ b.t = a.t + 1 ∧ a.p ≤ b.p ∧ b.d = hid a) from Iff.rfl)
  have FOC := Lib.hid (show fol c b → b.d = hid c from fun h => h.2.2.2.2.2)
  clear t0 g0 g1 g2 hLA hLB hLC sA sB sC ha hb hc hG hDA hDC
  by_cases oa : okH a
  · rw [decide_eq_true oa] at RA
    have hat : -1 ≤ a.t ∧ a.t ≤ 1099511627776 := by unfold okH at oa; omega
    by_cases ob : okH b
    · rw [decide_eq_true ob] at RB
      by_cases os : a.s = b.s
      · have qs : (a.s == b.s) = true := by simp [os]
        by_cases ot : b.t = a.t + 1
        · have qt : (b.t == a.t + 1) = true := by simp [ot]
          by_cases op : a.p ≤ b.p
          · have qp : decide (a.p ≤ b.p) = true := decide_eq_true op
            by_cases od : b.d = hid a
            · rw [decide_eq_true od] at hI
              rw [show decide (fol a b) = true from decide_eq_true (FOL.out.2 ⟨oa, ob, os, ot, op, od⟩)] at FAB
              by_cases oc : fol c b
              · rw [decide_eq_true oc] at FCB
                have hac : hid a = hid c := od.symm.trans (FOC.out oc)
                rw [decide_eq_true hac] at hJ
                by_cases oe : a = c
                · rw [decide_eq_true oe] at hQ
                  clear oa ob os ot op od oc oe hac
                  go_enter Tryd.func6, Tryd.ntmps6
                  go_upto_region 1 with fail
                  change Code.wp _ _ _ _ (((w.alloc (.cells LA.toArray 25)).alloc (.cells LB.toArray 25)).alloc (.cells LC.toArray 25))
                  rw [← hw0]
                  clear hw0
                  refine wp_region_rel 71 Stp (.one ?_ :: .one ?_ :: .one ?_ :: .one ?_ :: .one ?_ :: .one ?_ :: .one ?_ :: .one ?_ :: .one ?_ :: .one ?_ :: .one ?_ :: .one ?_ :: .one ?_ :: .one ?_ :: .one ?_ :: .one ?_ :: .one ?_ :: .one ?_ :: .one ?_ :: .one ?_ :: .one ?_ :: .one ?_ :: .one ?_ :: .one ?_ :: .one ?_ :: .one ?_ :: .one ?_ :: .one ?_ :: .one ?_ :: .one ?_ :: .one ?_ :: .one ?_ :: .one ?_ :: .one ?_ :: .one ?_ :: .one ?_ :: []) (by kernel_rfl) (by kernel_rfl) rfl (by kernel_rfl) Stp.refl Stp.trans trivial ?main
                  case main =>
                  refine wpR_one (A' := ?_) Stp.refl (by rfl) _ rfl 71 (by rfl) (by rfl) ?_ ?_ ?_
                  rotate_left 1
                  · simp only [Act.put, List.setIfInBounds_toArray, List.set_cons_zero, List.set_cons_succ]; rfl
                  · intro w1 hs hf K hK
                    refine cls_load 25 (.tmp 3) rfl (w.heap.size) (0) rfl (LA) _ (fun w4 h2 => (RG.out w4 (HWS.out w4 (Stp.trans _ _ _ hs h2))).1) Tryd.underlying25 rfl ZA.out ?_
                    refine hK _ ?_
                    simp only [Act.put, List.setIfInBounds_toArray, List.set_cons_zero, List.set_cons_succ]
                    rfl
                  refine wpR_one (A' := ?_) Stp.refl (by rfl) _ rfl 71 (by rfl) (by rfl) ?_ ?_ ?_
                  rotate_left 1
                  · simp only [Act.put, List.setIfInBounds_toArray, List.set_cons_zero, List.set_cons_succ]; rfl
                  · intro w1 hs hf K hK
                    go_big_quiet_op
                    apply Exists.intro
                    refine ⟨fun w4 h2 => ?_, ?_⟩
                    · refine (RA.out w4).mono ?_
                      rintro e w3 ⟨rfl, h3⟩
                      exact ⟨rfl, Stp.trans _ _ _ h2 h3⟩
                    · go_big_quiet_on
                      rfl
                  iterate 1
                    refine wpR_one (A' := ?_) Stp.refl (by rfl) _ rfl 71 (by rfl) (by rfl) ?_ ?_ ?_
                    rotate_left 1
                    · simp only [Act.put, List.setIfInBounds_toArray, List.set_cons_zero, List.set_cons_succ]; rfl
                    · intro w1 hs hf K hK
                      go_big_quiet_op
                      first
                        | go_big_quiet_on
                        | (refine ⟨_, fun _ _ => rfl, ?_⟩; go_big_quiet_on)
                      rfl
                  refine wpR_one (A' := ?_) Stp.refl (by rfl) _ rfl 71 (by rfl) (by rfl) ?_ ?_ ?_
                  rotate_left 1
                  · simp only [Act.put, List.setIfInBounds_toArray, List.set_cons_zero, List.set_cons_succ]; rfl
                  · intro w1 hs hf K hK
                    refine cls_load 25 (.tmp 4) rfl (w.heap.size + 1) (0) rfl (LB) _ (fun w4 h2 => (RG.out w4 (HWS.out w4 (Stp.trans _ _ _ hs h2))).2.1) Tryd.underlying25 rfl ZB.out ?_
                    refine hK _ ?_
                    simp only [Act.put, List.setIfInBounds_toArray, List.set_cons_zero, List.set_cons_succ]
                    rfl
                  refine wpR_one (A' := ?_) Stp.refl (by rfl) _ rfl 71 (by rfl) (by rfl) ?_ ?_ ?_
                  rotate_left 1
                  · simp only [Act.put, List.setIfInBounds_toArray, List.set_cons_zero, List.set_cons_succ]; rfl
                  · intro w1 hs hf K hK
                    go_big_quiet_op
                    apply Exists.intro
                    refine ⟨fun w4 h2 => ?_, ?_⟩
                    · refine (RB.out w4).mono ?_
                      rintro e w3 ⟨rfl, h3⟩
                      exact ⟨rfl, Stp.trans _ _ _ h2 h3⟩
                    · go_big_quiet_on
                      rfl
                  iterate 2
                    refine wpR_one (A' := ?_) Stp.refl (by rfl) _ rfl 71 (by rfl) (by rfl) ?_ ?_ ?_
                    rotate_left 1
                    · simp only [Act.put, List.setIfInBounds_toArray, List.set_cons_zero, List.set_cons_succ]; rfl
                    · intro w1 hs hf K hK
                      go_big_quiet_op
                      first
                        | go_big_quiet_on
                        | (refine ⟨_, fun _ _ => rfl, ?_⟩; go_big_quiet_on)
                      rfl
                  iterate 1
                    refine wpR_one (A' := ?_) Stp.refl (by rfl) _ rfl 71 (by rfl) (by rfl) ?_ ?_ ?_
                    rotate_left 1
                    · simp only [Act.put, List.setIfInBounds_toArray, List.set_cons_zero, List.set_cons_succ]; rfl
                    · intro w1 hs hf K hK
                      go_big_quiet_op
                      first
                        | go_big_quiet_on
                        | (refine ⟨_, fun _ _ => rfl, ?_⟩; go_big_quiet_on)
                      rfl
                  refine wpR_one (A' := ?_) Stp.refl (by rfl) _ rfl 71 (by rfl) (by rfl) ?_ ?_ ?_
                  rotate_left 1
                  · simp only [Act.put, List.setIfInBounds_toArray, List.set_cons_zero, List.set_cons_succ]; rfl
                  · intro w1 hs hf K hK
                    refine cls_load_cell 3 (.tmp 15) rfl ⟨w.heap.size, 0, none⟩ rfl (.int .i64 a.s) (fun w h => by simp [go_sem, h]) (fun w4 h2 => (RC.out w4 (HWS.out w4 (Stp.trans _ _ _ hs h2))).1.1) ?_
                    refine hK _ ?_
                    simp only [Act.put, List.setIfInBounds_toArray, List.set_cons_zero, List.set_cons_succ]
                    rfl
                  iterate 1
                    refine wpR_one (A' := ?_) Stp.refl (by rfl) _ rfl 71 (by rfl) (by rfl) ?_ ?_ ?_
                    rotate_left 1
                    · simp only [Act.put, List.setIfInBounds_toArray, List.set_cons_zero, List.set_cons_succ]; rfl
                    · intro w1 hs hf K hK
                      go_big_quiet_op
                      first
                        | go_big_quiet_on
                        | (refine ⟨_, fun _ _ => rfl, ?_⟩; go_big_quiet_on)
                      rfl
                  refine wpR_one (A' := ?_) Stp.refl (by rfl) _ rfl 71 (by rfl) (by rfl) ?_ ?_ ?_
                  rotate_left 1
                  · simp only [Act.put, List.setIfInBounds_toArray, List.set_cons_zero, List.set_cons_succ]; rfl
                  · intro w1 hs hf K hK
                    refine cls_load_cell 3 (.tmp 17) rfl ⟨w.heap.size + 1, 0, none⟩ rfl (.int .i64 b.s) (fun w h => by simp [go_sem, h]) (fun w4 h2 => (RC.out w4 (HWS.out w4 (Stp.trans _ _ _ hs h2))).2.1) ?_
                    refine hK _ ?_
                    simp only [Act.put, List.setIfInBounds_toArray, List.set_cons_zero, List.set_cons_succ]
                    rfl
                  iterate 1
                    refine wpR_one (A' := ?_) Stp.refl (by rfl) _ rfl 71 (by rfl) (by rfl) ?_ ?_ ?_
                    rotate_left 1
                    · simp only [Act.put, List.setIfInBounds_toArray, List.set_cons_zero, List.set_cons_succ]; rfl
                    · intro w1 hs hf K hK
                      go_big_quiet_op
                      first
                        | go_big_quiet_on
                        | (refine ⟨_, fun _ _ => rfl, ?_⟩; go_big_quiet_on)
                      rfl
                  iterate 2
                    refine wpR_one (A' := ?_) Stp.refl (by rfl) _ rfl 71 (by rfl) (by rfl) ?_ ?_ ?_
                    rotate_left 1
                    · simp only [Act.put, List.setIfInBounds_toArray, List.set_cons_zero, List.set_cons_succ]; rfl
                    · intro w1 hs hf K hK
                      go_big_quiet_op
                      first
                        | go_big_quiet_on
                        | (refine ⟨_, fun _ _ => rfl, ?_⟩; go_big_quiet_on)
                      rfl
                  iterate 1
                    refine wpR_one (A' := ?_) Stp.refl (by rfl) _ rfl 71 (by rfl) (by rfl) ?_ ?_ ?_
                    rotate_left 1
                    · simp only [Act.put, List.setIfInBounds_toArray, List.set_cons_zero, List.set_cons_succ]; rfl
                    · intro w1 hs hf K hK
                      go_big_quiet_op
                      first
                        | go_big_quiet_on
                        | (refine ⟨_, fun _ _ => rfl, ?_⟩; go_big_quiet_on)
                      rfl
                  refine wpR_one (A' := ?_) Stp.refl (by rfl) _ rfl 71 (by rfl) (by rfl) ?_ ?_ ?_
                  rotate_left 1
                  · simp only [Act.put, List.setIfInBounds_toArray, List.set_cons_zero, List.set_cons_succ]; rfl
                  · intro w1 hs hf K hK
                    refine cls_load_cell 3 (.tmp 22) rfl ⟨w.heap.size + 1, 1, none⟩ rfl (.int .i64 b.t) (fun w h => by simp [go_sem, h]) (fun w4 h2 => (RC.out w4 (HWS.out w4 (Stp.trans _ _ _ hs h2))).2.2.1) ?_
                    refine hK _ ?_
                    simp only [Act.put, List.setIfInBounds_toArray, List.set_cons_zero, List.set_cons_succ]
                    rfl
                  iterate 1
                    refine wpR_one (A' := ?_) Stp.refl (by rfl) _ rfl 71 (by rfl) (by rfl) ?_ ?_ ?_
                    rotate_left 1
                    · simp only [Act.put, List.setIfInBounds_toArray, List.set_cons_zero, List.set_cons_succ]; rfl
                    · intro w1 hs hf K hK
                      go_big_quiet_op
                      first
                        | go_big_quiet_on
                        | (refine ⟨_, fun _ _ => rfl, ?_⟩; go_big_quiet_on)
                      rfl
                  refine wpR_one (A' := ?_) Stp.refl (by rfl) _ rfl 71 (by rfl) (by rfl) ?_ ?_ ?_
                  rotate_left 1
                  · simp only [Act.put, List.setIfInBounds_toArray, List.set_cons_zero, List.set_cons_succ]; rfl
                  · intro w1 hs hf K hK
                    refine cls_load_cell 3 (.tmp 24) rfl ⟨w.heap.size, 1, none⟩ rfl (.int .i64 a.t) (fun w h => by simp [go_sem, h]) (fun w4 h2 => (RC.out w4 (HWS.out w4 (Stp.trans _ _ _ hs h2))).1.2.1) ?_
                    refine hK _ ?_
                    simp only [Act.put, List.setIfInBounds_toArray, List.set_cons_zero, List.set_cons_succ]
                    rfl
                  iterate 2
                    refine wpR_one (A' := ?_) Stp.refl (by rfl) _ rfl 71 (by rfl) (by rfl) ?_ ?_ ?_
                    rotate_left 1
                    · simp only [Act.put, List.setIfInBounds_toArray, List.set_cons_zero, List.set_cons_succ]; rfl
                    · intro w1 hs hf K hK
                      go_big_quiet_op
                      first
                        | go_big_quiet_on
                        | (refine ⟨_, fun _ _ => rfl, ?_⟩; go_big_quiet_on)
                      rfl
                  iterate 2
                    refine wpR_one (A' := ?_) Stp.refl (by rfl) _ rfl 71 (by rfl) (by rfl) ?_ ?_ ?_
                    rotate_left 1
                    · simp only [Act.put, List.setIfInBounds_toArray, List.set_cons_zero, List.set_cons_succ]; rfl
                    · intro w1 hs hf K hK
                      go_big_quiet_op
                      first
                        | go_big_quiet_on
                        | (refine ⟨_, fun _ _ => rfl, ?_⟩; go_big_quiet_on)
                      rfl
                  iterate 1
                    refine wpR_one (A' := ?_) Stp.refl (by rfl) _ rfl 71 (by rfl) (by rfl) ?_ ?_ ?_
                    rotate_left 1
                    · simp only [Act.put, List.setIfInBounds_toArray, List.set_cons_zero, List.set_cons_succ]; rfl
                    · intro w1 hs hf K hK
                      go_big_quiet_op
                      first
                        | go_big_quiet_on
                        | (refine ⟨_, fun _ _ => rfl, ?_⟩; go_big_quiet_on)
                      rfl
                  refine wpR_one (A' := ?_) Stp.refl (by rfl) _ rfl 71 (by rfl) (by rfl) ?_ ?_ ?_
                  rotate_left 1
                  · simp only [Act.put, List.setIfInBounds_toArray, List.set_cons_zero, List.set_cons_succ]; rfl
                  · intro w1 hs hf K hK
                    refine cls_load_cell 3 (.tmp 30) rfl ⟨w.heap.size + 1, 2, none⟩ rfl (.int .i64 b.p) (fun w h => by simp [go_sem, h]) (fun w4 h2 => (RC.out w4 (HWS.out w4 (Stp.trans _ _ _ hs h2))).2.2.2) ?_
                    refine hK _ ?_
                    simp only [Act.put, List.setIfInBounds_toArray, List.set_cons_zero, List.set_cons_succ]
                    rfl
                  iterate 1
                    refine wpR_one (A' := ?_) Stp.refl (by rfl) _ rfl 71 (by rfl) (by rfl) ?_ ?_ ?_
                    rotate_left 1
                    · simp only [Act.put, List.setIfInBounds_toArray, List.set_cons_zero, List.set_cons_succ]; rfl
                    · intro w1 hs hf K hK
                      go_big_quiet_op
                      first
                        | go_big_quiet_on
                        | (refine ⟨_, fun _ _ => rfl, ?_⟩; go_big_quiet_on)
                      rfl
                  refine wpR_one (A' := ?_) Stp.refl (by rfl) _ rfl 71 (by rfl) (by rfl) ?_ ?_ ?_
                  rotate_left 1
                  · simp only [Act.put, List.setIfInBounds_toArray, List.set_cons_zero, List.set_cons_succ]; rfl
                  · intro w1 hs hf K hK
                    refine cls_load_cell 3 (.tmp 32) rfl ⟨w.heap.size, 2, none⟩ rfl (.int .i64 a.p) (fun w h => by simp [go_sem, h]) (fun w4 h2 => (RC.out w4 (HWS.out w4 (Stp.trans _ _ _ hs h2))).1.2.2) ?_
                    refine hK _ ?_
                    simp only [Act.put, List.setIfInBounds_toArray, List.set_cons_zero, List.set_cons_succ]
                    rfl
                  iterate 1
                    refine wpR_one (A' := ?_) Stp.refl (by rfl) _ rfl 71 (by rfl) (by rfl) ?_ ?_ ?_
                    rotate_left 1
                    · simp only [Act.put, List.setIfInBounds_toArray, List.set_cons_zero, List.set_cons_succ]; rfl
                    · intro w1 hs hf K hK
                      go_big_quiet_op
                      first
                        | go_big_quiet_on
                        | (refine ⟨_, fun _ _ => rfl, ?_⟩; go_big_quiet_on)
                      rfl
                  iterate 2
                    refine wpR_one (A' := ?_) Stp.refl (by rfl) _ rfl 71 (by rfl) (by rfl) ?_ ?_ ?_
                    rotate_left 1
                    · simp only [Act.put, List.setIfInBounds_toArray, List.set_cons_zero, List.set_cons_succ]; rfl
                    · intro w1 hs hf K hK
                      go_big_quiet_op
                      first
                        | go_big_quiet_on
                        | (refine ⟨_, fun _ _ => rfl, ?_⟩; go_big_quiet_on)
                      rfl
                  iterate 1
                    refine wpR_one (A' := ?_) Stp.refl (by rfl) _ rfl 71 (by rfl) (by rfl) ?_ ?_ ?_
                    rotate_left 1
                    · simp only [Act.put, List.setIfInBounds_toArray, List.set_cons_zero, List.set_cons_succ]; rfl
                    · intro w1 hs hf K hK
                      go_big_quiet_op
                      first
                        | go_big_quiet_on
                        | (refine ⟨_, fun _ _ => rfl, ?_⟩; go_big_quiet_on)
                      rfl
                  refine wpR_one (A' := ?_) Stp.refl (by rfl) _ rfl 71 (by rfl) (by rfl) ?_ ?_ ?_
                  rotate_left 1
                  · simp only [Act.put, List.setIfInBounds_toArray, List.set_cons_zero, List.set_cons_succ]; rfl
                  · intro w1 hs hf K hK
                    refine cls_load 23 (.tmp 37) rfl (w.heap.size + 1) (3) rfl ((b.d.map bv)) _ (fun w4 h2 => (RG.out w4 (HWS.out w4 (Stp.trans _ _ _ hs h2))).2.2.2) Tryd.underlying23 rfl ZD.out ?_
                    refine hK _ ?_
                    simp only [Act.put, List.setIfInBounds_toArray, List.set_cons_zero, List.set_cons_succ]
                    rfl
                  refine wpR_one (A' := ?_) Stp.refl (by rfl) _ rfl 71 (by rfl) (by rfl) ?_ ?_ ?_
                  rotate_left 1
                  · simp only [Act.put, List.setIfInBounds_toArray, List.set_cons_zero, List.set_cons_succ]; rfl
                  · intro w1 hs hf K hK
                    refine cls_load 25 (.tmp 3) rfl (w.heap.size) (0) rfl (LA) _ (fun w4 h2 => (RG.out w4 (HWS.out w4 (Stp.trans _ _ _ hs h2))).1) Tryd.underlying25 rfl ZA.out ?_
                    refine hK _ ?_
                    simp only [Act.put, List.setIfInBounds_toArray, List.set_cons_zero, List.set_cons_succ]
                    rfl
                  refine wpR_one (A' := ?_) Stp.refl (by rfl) _ rfl 71 (by rfl) (by rfl) ?_ ?_ ?_
                  rotate_left 1
                  · simp only [Act.put, List.setIfInBounds_toArray, List.set_cons_zero, List.set_cons_succ]; rfl
                  · intro w1 hs hf K hK
                    go_big_quiet_op
                    apply Exists.intro
                    refine ⟨fun w4 h2 => ?_, ?_⟩
                    · refine (IA.out w4).mono ?_
                      rintro e w3 ⟨rfl, h3⟩
                      exact ⟨rfl, Stp.trans _ _ _ h2 h3⟩
                    · go_big_quiet_on
                      rfl
                  iterate 1
                    refine wpR_one (A' := ?_) Stp.refl (by rfl) _ rfl 71 (by rfl) (by rfl) ?_ ?_ ?_
                    rotate_left 1
                    · simp only [Act.put, List.setIfInBounds_toArray, List.set_cons_zero, List.set_cons_succ]; rfl
                    · intro w1 hs hf K hK
                      go_big_quiet_op
                      first
                        | go_big_quiet_on
                        | (refine ⟨_, fun _ _ => rfl, ?_⟩; go_big_quiet_on)
                      rfl
                  iterate 2
                    refine wpR_one (A' := ?_) Stp.refl (by rfl) _ rfl 71 (by rfl) (by rfl) ?_ ?_ ?_
                    rotate_left 1
                    · simp only [Act.put, List.setIfInBounds_toArray, List.set_cons_zero, List.set_cons_succ]; rfl
                    · intro w1 hs hf K hK
                      go_big_quiet_op
                      first
                        | go_big_quiet_on
                        | (refine ⟨_, fun _ _ => rfl, ?_⟩; go_big_quiet_on)
                      rfl
                  intro z1 hs hf
                  have HT1 := Lib.hid (HWS.out z1 hs)
                  clear hs hf
                  obtain ⟨r1, r2, r3⟩ := RF.out z1 HT1.out
                  go_wp2_with (go_at_call 22; refine stop ?_)
                  unfold Stop
                  refine (FAB.out z1 (GL.out z1 HT1.out)).mono ?_
                  rintro r z2 ⟨rfl, t⟩
                  have HT2 := Lib.hid (HT1.out.trans t (fun _ _ h => h))
                  clear t r1 r2 r3
                  obtain ⟨r1, r2, r3⟩ := RF.out z2 HT2.out
                  go_wp2_with (go_at_call 22; refine stop ?_)
                  unfold Stop
                  refine (FCB.out z2 (GL.out z2 HT2.out)).mono ?_
                  rintro r z3 ⟨rfl, t⟩
                  have HT3 := Lib.hid (HT2.out.trans t (fun _ _ h => h))
                  clear t r1 r2 r3
                  obtain ⟨r1, r2, r3⟩ := RF.out z3 HT3.out
                  go_wp2_with (go_at_call 22; refine stop ?_)
                  unfold Stop
                  refine (FAA.out z3 (GL.out z3 HT3.out)).mono ?_
                  rintro r z4 ⟨rfl, t⟩
                  have HT4 := Lib.hid (HT3.out.trans t (fun _ _ h => h))
                  clear t r1 r2 r3
                  obtain ⟨r1, r2, r3⟩ := RF.out z4 HT4.out
                  go_wp2_with (go_at_call 13; refine stop ?_)
                  unfold Stop
                  refine (AW.out z4 (GL.out z4 HT4.out)).mono ?_
                  rintro r z9 ⟨rfl, t⟩
                  have HT9 := Lib.hid (HT4.out.trans t (fun _ _ h => h))
                  clear t r1 r2 r3
                  go_wp2
                  go_ret
                  exact ⟨rfl, T0.out.trans HT9.out (fun _ _ h => h)⟩
                · rw [decide_eq_false oe] at hQ
                  clear oa ob os ot op od oc oe hac
                  go_enter Tryd.func6, Tryd.ntmps6
                  go_upto_region 1 with fail
                  change Code.wp _ _ _ _ (((w.alloc (.cells LA.toArray 25)).alloc (.cells LB.toArray 25)).alloc (.cells LC.toArray 25))
                  rw [← hw0]
                  clear hw0
                  refine wp_region_rel 71 Stp (.one ?_ :: .one ?_ :: .one ?_ :: .one ?_ :: .one ?_ :: .one ?_ :: .one ?_ :: .one ?_ :: .one ?_ :: .one ?_ :: .one ?_ :: .one ?_ :: .one ?_ :: .one ?_ :: .one ?_ :: .one ?_ :: .one ?_ :: .one ?_ :: .one ?_ :: .one ?_ :: .one ?_ :: .one ?_ :: .one ?_ :: .one ?_ :: .one ?_ :: .one ?_ :: .one ?_ :: .one ?_ :: .one ?_ :: .one ?_ :: .one ?_ :: .one ?_ :: .one ?_ :: .one ?_ :: .one ?_ :: .one ?_ :: []) (by kernel_rfl) (by kernel_rfl) rfl (by kernel_rfl) Stp.refl Stp.trans trivial ?main
                  case main =>
                  refine wpR_one (A' := ?_) Stp.refl (by rfl) _ rfl 71 (by rfl) (by rfl) ?_ ?_ ?_
                  rotate_left 1
                  · simp only [Act.put, List.setIfInBounds_toArray, List.set_cons_zero, List.set_cons_succ]; rfl
                  · intro w1 hs hf K hK
                    refine cls_load 25 (.tmp 3) rfl (w.heap.size) (0) rfl (LA) _ (fun w4 h2 => (RG.out w4 (HWS.out w4 (Stp.trans _ _ _ hs h2))).1) Tryd.underlying25 rfl ZA.out ?_
                    refine hK _ ?_
                    simp only [Act.put, List.setIfInBounds_toArray, List.set_cons_zero, List.set_cons_succ]
                    rfl
                  refine wpR_one (A' := ?_) Stp.refl (by rfl) _ rfl 71 (by rfl) (by rfl) ?_ ?_ ?_
                  rotate_left 1
                  · simp only [Act.put, List.setIfInBounds_toArray, List.set_cons_zero, List.set_cons_succ]; rfl
                  · intro w1 hs hf K hK
                    go_big_quiet_op
                    apply Exists.intro
                    refine ⟨fun w4 h2 => ?_, ?_⟩
                    · refine (RA.out w4).mono ?_
                      rintro e w3 ⟨rfl, h3⟩
                      exact ⟨rfl, Stp.trans _ _ _ h2 h3⟩
                    · go_big_quiet_on
                      rfl
                  iterate 1
                    refine wpR_one (A' := ?_) Stp.refl (by rfl) _ rfl 71 (by rfl) (by rfl) ?_ ?_ ?_
                    rotate_left 1
                    · simp only [Act.put, List.setIfInBounds_toArray, List.set_cons_zero, List.set_cons_succ]; rfl
                    · intro w1 hs hf K hK
                      go_big_quiet_op
                      first
                        | go_big_quiet_on
                        | (refine ⟨_, fun _ _ => rfl, ?_⟩; go_big_quiet_on)
                      rfl
                  refine wpR_one (A' := ?_) Stp.refl (by rfl) _ rfl 71 (by rfl) (by rfl) ?_ ?_ ?_
                  rotate_left 1
                  · simp only [Act.put, List.setIfInBounds_toArray, List.set_cons_zero, List.set_cons_succ]; rfl
                  · intro w1 hs hf K hK
                    refine cls_load 25 (.tmp 4) rfl (w.heap.size + 1) (0) rfl (LB) _ (fun w4 h2 => (RG.out w4 (HWS.out w4 (Stp.trans _ _ _ hs h2))).2.1) Tryd.underlying25 rfl ZB.out ?_
                    refine hK _ ?_
                    simp only [Act.put, List.setIfInBounds_toArray, List.set_cons_zero, List.set_cons_succ]
                    rfl
                  refine wpR_one (A' := ?_) Stp.refl (by rfl) _ rfl 71 (by rfl) (by rfl) ?_ ?_ ?_
                  rotate_left 1
                  · simp only [Act.put, List.setIfInBounds_toArray, List.set_cons_zero, List.set_cons_succ]; rfl
                  · intro w1 hs hf K hK
                    go_big_quiet_op
                    apply Exists.intro
                    refine ⟨fun w4 h2 => ?_, ?_⟩
                    · refine (RB.out w4).mono ?_
                      rintro e w3 ⟨rfl, h3⟩
                      exact ⟨rfl, Stp.trans _ _ _ h2 h3⟩
                    · go_big_quiet_on
                      rfl
                  iterate 2
                    refine wpR_one (A' := ?_) Stp.refl (by rfl) _ rfl 71 (by rfl) (by rfl) ?_ ?_ ?_
                    rotate_left 1
                    · simp only [Act.put, List.setIfInBounds_toArray, List.set_cons_zero, List.set_cons_succ]; rfl
                    · intro w1 hs hf K hK
                      go_big_quiet_op
                      first
                        | go_big_quiet_on
                        | (refine ⟨_, fun _ _ => rfl, ?_⟩; go_big_quiet_on)
                      rfl
                  iterate 1
                    refine wpR_one (A' := ?_) Stp.refl (by rfl) _ rfl 71 (by rfl) (by rfl) ?_ ?_ ?_
                    rotate_left 1
                    · simp only [Act.put, List.setIfInBounds_toArray, List.set_cons_zero, List.set_cons_succ]; rfl
                    · intro w1 hs hf K hK
                      go_big_quiet_op
                      first
                        | go_big_quiet_on
                        | (refine ⟨_, fun _ _ => rfl, ?_⟩; go_big_quiet_on)
                      rfl
                  refine wpR_one (A' := ?_) Stp.refl (by rfl) _ rfl 71 (by rfl) (by rfl) ?_ ?_ ?_
                  rotate_left 1
                  · simp only [Act.put, List.setIfInBounds_toArray, List.set_cons_zero, List.set_cons_succ]; rfl
                  · intro w1 hs hf K hK
                    refine cls_load_cell 3 (.tmp 15) rfl ⟨w.heap.size, 0, none⟩ rfl (.int .i64 a.s) (fun w h => by simp [go_sem, h]) (fun w4 h2 => (RC.out w4 (HWS.out w4 (Stp.trans _ _ _ hs h2))).1.1) ?_
                    refine hK _ ?_
                    simp only [Act.put, List.setIfInBounds_toArray, List.set_cons_zero, List.set_cons_succ]
                    rfl
                  iterate 1
                    refine wpR_one (A' := ?_) Stp.refl (by rfl) _ rfl 71 (by rfl) (by rfl) ?_ ?_ ?_
                    rotate_left 1
                    · simp only [Act.put, List.setIfInBounds_toArray, List.set_cons_zero, List.set_cons_succ]; rfl
                    · intro w1 hs hf K hK
                      go_big_quiet_op
                      first
                        | go_big_quiet_on
                        | (refine ⟨_, fun _ _ => rfl, ?_⟩; go_big_quiet_on)
                      rfl
                  refine wpR_one (A' := ?_) Stp.refl (by rfl) _ rfl 71 (by rfl) (by rfl) ?_ ?_ ?_
                  rotate_left 1
                  · simp only [Act.put, List.setIfInBounds_toArray, List.set_cons_zero, List.set_cons_succ]; rfl
                  · intro w1 hs hf K hK
                    refine cls_load_cell 3 (.tmp 17) rfl ⟨w.heap.size + 1, 0, none⟩ rfl (.int .i64 b.s) (fun w h => by simp [go_sem, h]) (fun w4 h2 => (RC.out w4 (HWS.out w4 (Stp.trans _ _ _ hs h2))).2.1) ?_
                    refine hK _ ?_
                    simp only [Act.put, List.setIfInBounds_toArray, List.set_cons_zero, List.set_cons_succ]
                    rfl
                  iterate 1
                    refine wpR_one (A' := ?_) Stp.refl (by rfl) _ rfl 71 (by rfl) (by rfl) ?_ ?_ ?_
                    rotate_left 1
                    · simp only [Act.put, List.setIfInBounds_toArray, List.set_cons_zero, List.set_cons_succ]; rfl
                    · intro w1 hs hf K hK
                      go_big_quiet_op
                      first
                        | go_big_quiet_on
                        | (refine ⟨_, fun _ _ => rfl, ?_⟩; go_big_quiet_on)
                      rfl
                  iterate 2
                    refine wpR_one (A' := ?_) Stp.refl (by rfl) _ rfl 71 (by rfl) (by rfl) ?_ ?_ ?_
                    rotate_left 1
                    · simp only [Act.put, List.setIfInBounds_toArray, List.set_cons_zero, List.set_cons_succ]; rfl
                    · intro w1 hs hf K hK
                      go_big_quiet_op
                      first
                        | go_big_quiet_on
                        | (refine ⟨_, fun _ _ => rfl, ?_⟩; go_big_quiet_on)
                      rfl
                  iterate 1
                    refine wpR_one (A' := ?_) Stp.refl (by rfl) _ rfl 71 (by rfl) (by rfl) ?_ ?_ ?_
                    rotate_left 1
                    · simp only [Act.put, List.setIfInBounds_toArray, List.set_cons_zero, List.set_cons_succ]; rfl
                    · intro w1 hs hf K hK
                      go_big_quiet_op
                      first
                        | go_big_quiet_on
                        | (refine ⟨_, fun _ _ => rfl, ?_⟩; go_big_quiet_on)
                      rfl
                  refine wpR_one (A' := ?_) Stp.refl (by rfl) _ rfl 71 (by rfl) (by rfl) ?_ ?_ ?_
                  rotate_left 1
                  · simp only [Act.put, List.setIfInBounds_toArray, List.set_cons_zero, List.set_cons_succ]; rfl
                  · intro w1 hs hf K hK
                    refine cls_load_cell 3 (.tmp 22) rfl ⟨w.heap.size + 1, 1, none⟩ rfl (.int .i64 b.t) (fun w h => by simp [go_sem, h]) (fun w4 h2 => (RC.out w4 (HWS.out w4 (Stp.trans _ _ _ hs h2))).2.2.1) ?_
                    refine hK _ ?_
                    simp only [Act.put, List.setIfInBounds_toArray, List.set_cons_zero, List.set_cons_succ]
                    rfl
                  iterate 1
                    refine wpR_one (A' := ?_) Stp.refl (by rfl) _ rfl 71 (by rfl) (by rfl) ?_ ?_ ?_
                    rotate_left 1
                    · simp only [Act.put, List.setIfInBounds_toArray, List.set_cons_zero, List.set_cons_succ]; rfl
                    · intro w1 hs hf K hK
                      go_big_quiet_op
                      first
                        | go_big_quiet_on
                        | (refine ⟨_, fun _ _ => rfl, ?_⟩; go_big_quiet_on)
                      rfl
                  refine wpR_one (A' := ?_) Stp.refl (by rfl) _ rfl 71 (by rfl) (by rfl) ?_ ?_ ?_
                  rotate_left 1
                  · simp only [Act.put, List.setIfInBounds_toArray, List.set_cons_zero, List.set_cons_succ]; rfl
                  · intro w1 hs hf K hK
                    refine cls_load_cell 3 (.tmp 24) rfl ⟨w.heap.size, 1, none⟩ rfl (.int .i64 a.t) (fun w h => by simp [go_sem, h]) (fun w4 h2 => (RC.out w4 (HWS.out w4 (Stp.trans _ _ _ hs h2))).1.2.1) ?_
                    refine hK _ ?_
                    simp only [Act.put, List.setIfInBounds_toArray, List.set_cons_zero, List.set_cons_succ]
                    rfl
                  iterate 2
                    refine wpR_one (A' := ?_) Stp.refl (by rfl) _ rfl 71 (by rfl) (by rfl) ?_ ?_ ?_
                    rotate_left 1
                    · simp only [Act.put, List.setIfInBounds_toArray, List.set_cons_zero, List.set_cons_succ]; rfl
                    · intro w1 hs hf K hK
                      go_big_quiet_op
                      first
                        | go_big_quiet_on
                        | (refine ⟨_, fun _ _ => rfl, ?_⟩; go_big_quiet_on)
                      rfl
                  iterate 2
                    refine wpR_one (A' := ?_) Stp.refl (by rfl) _ rfl 71 (by rfl) (by rfl) ?_ ?_ ?_
                    rotate_left 1
                    · simp only [Act.put, List.setIfInBounds_toArray, List.set_cons_zero, List.set_cons_succ]; rfl
                    · intro w1 hs hf K hK
                      go_big_quiet_op
                      first
                        | go_big_quiet_on
                        | (refine ⟨_, fun _ _ => rfl, ?_⟩; go_big_quiet_on)
                      rfl
                  iterate 1
                    refine wpR_one (A' := ?_) Stp.refl (by rfl) _ rfl 71 (by rfl) (by rfl) ?_ ?_ ?_
                    rotate_left 1
                    · simp only [Act.put, List.setIfInBounds_toArray, List.set_cons_zero, List.set_cons_succ]; rfl
                    · intro w1 hs hf K hK
                      go_big_quiet_op
                      first
                        | go_big_quiet_on
                        | (refine ⟨_, fun _ _ => rfl, ?_⟩; go_big_quiet_on)
                      rfl
                  refine wpR_one (A' := ?_) Stp.refl (by rfl) _ rfl 71 (by rfl) (by rfl) ?_ ?_ ?_
                  rotate_left 1
                  · simp only [Act.put, List.setIfInBounds_toArray, List.set_cons_zero, List.set_cons_succ]; rfl
                  · intro w1 hs hf K hK
                    refine cls_load_cell 3 (.tmp 30) rfl ⟨w.heap.size + 1, 2, none⟩ rfl (.int .i64 b.p) (fun w h => by simp [go_sem, h]) (fun w4 h2 => (RC.out w4 (HWS.out w4 (Stp.trans _ _ _ hs h2))).2.2.2) ?_
                    refine hK _ ?_
                    simp only [Act.put, List.setIfInBounds_toArray, List.set_cons_zero, List.set_cons_succ]
                    rfl
                  iterate 1
                    refine wpR_one (A' := ?_) Stp.refl (by rfl) _ rfl 71 (by rfl) (by rfl) ?_ ?_ ?_
                    rotate_left 1
                    · simp only [Act.put, List.setIfInBounds_toArray, List.set_cons_zero, List.set_cons_succ]; rfl
                    · intro w1 hs hf K hK
                      go_big_quiet_op
                      first
                        | go_big_quiet_on
                        | (refine ⟨_, fun _ _ => rfl, ?_⟩; go_big_quiet_on)
                      rfl
                  refine wpR_one (A' := ?_) Stp.refl (by rfl) _ rfl 71 (by rfl) (by rfl) ?_ ?_ ?_
                  rotate_left 1
                  · simp only [Act.put, List.setIfInBounds_toArray, List.set_cons_zero, List.set_cons_succ]; rfl
                  · intro w1 hs hf K hK
                    refine cls_load_cell 3 (.tmp 32) rfl ⟨w.heap.size, 2, none⟩ rfl (.int .i64 a.p) (fun w h => by simp [go_sem, h]) (fun w4 h2 => (RC.out w4 (HWS.out w4 (Stp.trans _ _ _ hs h2))).1.2.2) ?_
                    refine hK _ ?_
                    simp only [Act.put, List.setIfInBounds_toArray, List.set_cons_zero, List.set_cons_succ]
                    rfl
                  iterate 1
                    refine wpR_one (A' := ?_) Stp.refl (by rfl) _ rfl 71 (by rfl) (by rfl) ?_ ?_ ?_
                    rotate_left 1
                    · simp only [Act.put, List.setIfInBounds_toArray, List.set_cons_zero, List.set_cons_succ]; rfl
                    · intro w1 hs hf K hK
                      go_big_quiet_op
                      first
                        | go_big_quiet_on
                        | (refine ⟨_, fun _ _ => rfl, ?_⟩; go_big_quiet_on)
                      rfl
                  iterate 2
                    refine wpR_one (A' := ?_) Stp.refl (by rfl) _ rfl 71 (by rfl) (by rfl) ?_ ?_ ?_
                    rotate_left 1
                    · simp only [Act.put, List.setIfInBounds_toArray, List.set_cons_zero, List.set_cons_succ]; rfl
                    · intro w1 hs hf K hK
                      go_big_quiet_op
                      first
                        | go_big_quiet_on
                        | (refine ⟨_, fun _ _ => rfl, ?_⟩; go_big_quiet_on)
                      rfl
                  iterate 1
                    refine wpR_one (A' := ?_) Stp.refl (by rfl) _ rfl 71 (by rfl) (by rfl) ?_ ?_ ?_
                    rotate_left 1
                    · simp only [Act.put, List.setIfInBounds_toArray, List.set_cons_zero, List.set_cons_succ]; rfl
                    · intro w1 hs hf K hK
                      go_big_quiet_op
                      first
                        | go_big_quiet_on
                        | (refine ⟨_, fun _ _ => rfl, ?_⟩; go_big_quiet_on)
                      rfl
                  refine wpR_one (A' := ?_) Stp.refl (by rfl) _ rfl 71 (by rfl) (by rfl) ?_ ?_ ?_
                  rotate_left 1
                  · simp only [Act.put, List.setIfInBounds_toArray, List.set_cons_zero, List.set_cons_succ]; rfl
                  · intro w1 hs hf K hK
                    refine cls_load 23 (.tmp 37) rfl (w.heap.size + 1) (3) rfl ((b.d.map bv)) _ (fun w4 h2 => (RG.out w4 (HWS.out w4 (Stp.trans _ _ _ hs h2))).2.2.2) Tryd.underlying23 rfl ZD.out ?_
                    refine hK _ ?_
                    simp only [Act.put, List.setIfInBounds_toArray, List.set_cons_zero, List.set_cons_succ]
                    rfl
                  refine wpR_one (A' := ?_) Stp.refl (by rfl) _ rfl 71 (by rfl) (by rfl) ?_ ?_ ?_
                  rotate_left 1
                  · simp only [Act.put, List.setIfInBounds_toArray, List.set_cons_zero, List.set_cons_succ]; rfl
                  · intro w1 hs hf K hK
                    refine cls_load 25 (.tmp 3) rfl (w.heap.size) (0) rfl (LA) _ (fun w4 h2 => (RG.out w4 (HWS.out w4 (Stp.trans _ _ _ hs h2))).1) Tryd.underlying25 rfl ZA.out ?_
                    refine hK _ ?_
                    simp only [Act.put, List.setIfInBounds_toArray, List.set_cons_zero, List.set_cons_succ]
                    rfl
                  refine wpR_one (A' := ?_) Stp.refl (by rfl) _ rfl 71 (by rfl) (by rfl) ?_ ?_ ?_
                  rotate_left 1
                  · simp only [Act.put, List.setIfInBounds_toArray, List.set_cons_zero, List.set_cons_succ]; rfl
                  · intro w1 hs hf K hK
                    go_big_quiet_op
                    apply Exists.intro
                    refine ⟨fun w4 h2 => ?_, ?_⟩
                    · refine (IA.out w4).mono ?_
                      rintro e w3 ⟨rfl, h3⟩
                      exact ⟨rfl, Stp.trans _ _ _ h2 h3⟩
                    · go_big_quiet_on
                      rfl
                  iterate 1
                    refine wpR_one (A' := ?_) Stp.refl (by rfl) _ rfl 71 (by rfl) (by rfl) ?_ ?_ ?_
                    rotate_left 1
                    · simp only [Act.put, List.setIfInBounds_toArray, List.set_cons_zero, List.set_cons_succ]; rfl
                    · intro w1 hs hf K hK
                      go_big_quiet_op
                      first
                        | go_big_quiet_on
                        | (refine ⟨_, fun _ _ => rfl, ?_⟩; go_big_quiet_on)
                      rfl
                  iterate 2
                    refine wpR_one (A' := ?_) Stp.refl (by rfl) _ rfl 71 (by rfl) (by rfl) ?_ ?_ ?_
                    rotate_left 1
                    · simp only [Act.put, List.setIfInBounds_toArray, List.set_cons_zero, List.set_cons_succ]; rfl
                    · intro w1 hs hf K hK
                      go_big_quiet_op
                      first
                        | go_big_quiet_on
                        | (refine ⟨_, fun _ _ => rfl, ?_⟩; go_big_quiet_on)
                      rfl
                  intro z1 hs hf
                  have HT1 := Lib.hid (HWS.out z1 hs)
                  clear hs hf
                  obtain ⟨r1, r2, r3⟩ := RF.out z1 HT1.out
                  go_wp2_with (go_at_call 22; refine stop ?_)
                  unfold Stop
                  refine (FAB.out z1 (GL.out z1 HT1.out)).mono ?_
                  rintro r z2 ⟨rfl, t⟩
                  have HT2 := Lib.hid (HT1.out.trans t (fun _ _ h => h))
                  clear t r1 r2 r3
                  obtain ⟨r1, r2, r3⟩ := RF.out z2 HT2.out
                  go_wp2_with (go_at_call 22; refine stop ?_)
                  unfold Stop
                  refine (FCB.out z2 (GL.out z2 HT2.out)).mono ?_
                  rintro r z3 ⟨rfl, t⟩
                  have HT3 := Lib.hid (HT2.out.trans t (fun _ _ h => h))
                  clear t r1 r2 r3
                  obtain ⟨r1, r2, r3⟩ := RF.out z3 HT3.out
                  go_upto_region 5 with fail
                  have HWS3 := Lib.hid (fun (w' : World) (h : Stp z3.drew w') => show Turn (fun _ => False) w0 w' from HT3.out.trans (Turn.of_below (stp_start h (Below.refl _ _))) (fun _ _ h => h))
                  refine wp_region_rel 71 Stp [.one ?_, .one ?_, .one ?_, .one ?_, .one ?_, .one ?_] (by kernel_rfl) (by kernel_rfl) rfl (by kernel_rfl) Stp.refl Stp.trans trivial ?main
                  case main =>
                  refine wpR_one (A' := ?_) Stp.refl (by rfl) _ rfl 71 (by rfl) (by rfl) ?_ ?_ ?_
                  rotate_left 1
                  · simp only [Act.put, List.setIfInBounds_toArray, List.set_cons_zero, List.set_cons_succ]; rfl
                  · intro w1 hs hf K hK
                    refine cls_load 25 (.tmp 3) rfl (w.heap.size) (0) rfl (LA) _ (fun w4 h2 => (RG.out w4 (HWS3.out w4 (Stp.trans _ _ _ hs h2))).1) Tryd.underlying25 rfl ZA.out ?_
                    refine hK _ ?_
                    simp only [Act.put, List.setIfInBounds_toArray, List.set_cons_zero, List.set_cons_succ]
                    rfl
                  refine wpR_one (A' := ?_) Stp.refl (by rfl) _ rfl 71 (by rfl) (by rfl) ?_ ?_ ?_
                  rotate_left 1
                  · simp only [Act.put, List.setIfInBounds_toArray, List.set_cons_zero, List.set_cons_succ]; rfl
                  · intro w1 hs hf K hK
                    go_big_quiet_op
                    apply Exists.intro
                    refine ⟨fun w4 h2 => ?_, ?_⟩
                    · refine (IA.out w4).mono ?_
                      rintro e w3 ⟨rfl, h3⟩
                      exact ⟨rfl, Stp.trans _ _ _ h2 h3⟩
                    · go_big_quiet_on
                      rfl
                  refine wpR_one (A' := ?_) Stp.refl (by rfl) _ rfl 71 (by rfl) (by rfl) ?_ ?_ ?_
                  rotate_left 1
                  · simp only [Act.put, List.setIfInBounds_toArray, List.set_cons_zero, List.set_cons_succ]; rfl
                  · intro w1 hs hf K hK
                    refine cls_load 25 (.tmp 5) rfl (w.heap.size + 2) (0) rfl (LC) _ (fun w4 h2 => (RG.out w4 (HWS3.out w4 (Stp.trans _ _ _ hs h2))).2.2.1) Tryd.underlying25 rfl ZC.out ?_
                    refine hK _ ?_
                    simp only [Act.put, List.setIfInBounds_toArray, List.set_cons_zero, List.set_cons_succ]
                    rfl
                  refine wpR_one (A' := ?_) Stp.refl (by rfl) _ rfl 71 (by rfl) (by rfl) ?_ ?_ ?_
                  rotate_left 1
                  · simp only [Act.put, List.setIfInBounds_toArray, List.set_cons_zero, List.set_cons_succ]; rfl
                  · intro w1 hs hf K hK
                    go_big_quiet_op
                    apply Exists.intro
                    refine ⟨fun w4 h2 => ?_, ?_⟩
                    · refine (IC.out w4).mono ?_
                      rintro e w3 ⟨rfl, h3⟩
                      exact ⟨rfl, Stp.trans _ _ _ h2 h3⟩
                    · go_big_quiet_on
                      rfl
                  iterate 2
                    refine wpR_one (A' := ?_) Stp.refl (by rfl) _ rfl 71 (by rfl) (by rfl) ?_ ?_ ?_
                    rotate_left 1
                    · simp only [Act.put, List.setIfInBounds_toArray, List.set_cons_zero, List.set_cons_succ]; rfl
                    · intro w1 hs hf K hK
                      go_big_quiet_op
                      first
                        | go_big_quiet_on
                        | (refine ⟨_, fun _ _ => rfl, ?_⟩; go_big_quiet_on)
                      rfl
                  intro z7 hs hf
                  have HT7 := Lib.hid (HWS3.out z7 hs)
                  clear hs hf
                  go_wp2
                  go_ret
                  exact ⟨rfl, T0.out.trans HT7.out (fun _ _ h => h)⟩
              · rw [decide_eq_false oc] at FCB
                clear oa ob os ot op od oc hQ hJ
                go_enter Tryd.func6, Tryd.ntmps6
                go_upto_region 1 with fail
                change Code.wp _ _ _ _ (((w.alloc (.cells LA.toArray 25)).alloc (.cells LB.toArray 25)).alloc (.cells LC.toArray 25))
                rw [← hw0]
                clear hw0
                refine wp_region_rel 71 Stp (.one ?_ :: .one ?_ :: .one ?_ :: .one ?_ :: .one ?_ :: .one ?_ :: .one ?_ :: .one ?_ :: .one ?_ :: .one ?_ :: .one ?_ :: .one ?_ :: .one ?_ :: .one ?_ :: .one ?_ :: .one ?_ :: .one ?_ :: .one ?_ :: .one ?_ :: .one ?_ :: .one ?_ :: .one ?_ :: .one ?_ :: .one ?_ :: .one ?_ :: .one ?_ :: .one ?_ :: .one ?_ :: .one ?_ :: .one ?_ :: .one ?_ :: .one ?_ :: .one ?_ :: .one ?_ :: .one ?_ :: .one ?_ :: []) (by kernel_rfl) (by kernel_rfl) rfl (by kernel_rfl) Stp.refl Stp.trans trivial ?main
                case main =>
                refine wpR_one (A' := ?_) Stp.refl (by rfl) _ rfl 71 (by rfl) (by rfl) ?_ ?_ ?_
                rotate_left 1
                · simp only [Act.put, List.setIfInBounds_toArray, List.set_cons_zero, List.set_cons_succ]; rfl
                · intro w1 hs hf K hK
                  refine cls_load 25 (.tmp 3) rfl (w.heap.size) (0) rfl (LA) _ (fun w4 h2 => (RG.out w4 (HWS.out w4 (Stp.trans _ _ _ hs h2))).1) Tryd.underlying25 rfl ZA.out ?_
                  refine hK _ ?_
                  simp only [Act.put, List.setIfInBounds_toArray, List.set_cons_zero, List.set_cons_succ]
                  rfl
                refine wpR_one (A' := ?_) Stp.refl (by rfl) _ rfl 71 (by rfl) (by rfl) ?_ ?_ ?_
                rotate_left 1
                · simp only [Act.put, List.setIfInBounds_toArray, List.set_cons_zero, List.set_cons_succ]; rfl
                · intro w1 hs hf K hK
                  go_big_quiet_op
                  apply Exists.intro
                  refine ⟨fun w4 h2 => ?_, ?_⟩
                  · refine (RA.out w4).mono ?_
                    rintro e w3 ⟨rfl, h3⟩
                    exact ⟨rfl, Stp.trans _ _ _ h2 h3⟩
                  · go_big_quiet_on
                    rfl
                iterate 1
                  refine wpR_one (A' := ?_) Stp.refl (by rfl) _ rfl 71 (by rfl) (by rfl) ?_ ?_ ?_
                  rotate_left 1
                  · simp only [Act.put, List.setIfInBounds_toArray, List.set_cons_zero, List.set_cons_succ]; rfl
                  · intro w1 hs hf K hK
                    go_big_quiet_op
                    first
                      | go_big_quiet_on
                      | (refine ⟨_, fun _ _ => rfl, ?_⟩; go_big_quiet_on)
                    rfl
                refine wpR_one (A' := ?_) Stp.refl (by rfl) _ rfl 71 (by rfl) (by rfl) ?_ ?_ ?_
                rotate_left 1
                · simp only [Act.put, List.setIfInBounds_toArray, List.set_cons_zero, List.set_cons_succ]; rfl
                · intro w1 hs hf K hK
                  refine cls_load 25 (.tmp 4) rfl (w.heap.size + 1) (0) rfl (LB) _ (fun w4 h2 => (RG.out w4 (HWS.out w4 (Stp.trans _ _ _ hs h2))).2.1) Tryd.underlying25 rfl ZB.out ?_
                  refine hK _ ?_
                  simp only [Act.put, List.setIfInBounds_toArray, List.set_cons_zero, List.set_cons_succ]
                  rfl
                refine wpR_one (A' := ?_) Stp.refl (by rfl) _ rfl 71 (by rfl) (by rfl) ?_ ?_ ?_
                rotate_left 1
                · simp only [Act.put, List.setIfInBounds_toArray, List.set_cons_zero, List.set_cons_succ]; rfl
                · intro w1 hs hf K hK
                  go_big_quiet_op
                  apply Exists.intro
                  refine ⟨fun w4 h2 => ?_, ?_⟩
                  · refine (RB.out w4).mono ?_
                    rintro e w3 ⟨rfl, h3⟩
                    exact ⟨rfl, Stp.trans _ _ _ h2 h3⟩
                  · go_big_quiet_on
                    rfl
                iterate 2
                  refine wpR_one (A' := ?_) Stp.refl (by rfl) _ rfl 71 (by rfl) (by rfl) ?_ ?_ ?_
                  rotate_left 1
                  · simp only [Act.put, List.setIfInBounds_toArray, List.set_cons_zero, List.set_cons_succ]; rfl
                  · intro w1 hs hf K hK
                    go_big_quiet_op
                    first
                      | go_big_quiet_on
                      | (refine ⟨_, fun _ _ => rfl, ?_⟩; go_big_quiet_on)
                    rfl
                iterate 1
                  refine wpR_one (A' := ?_) Stp.refl (by rfl) _ rfl 71 (by rfl) (by rfl) ?_ ?_ ?_
                  rotate_left 1
                  · simp only [Act.put, List.setIfInBounds_toArray, List.set_cons_zero, List.set_cons_succ]; rfl
                  · intro w1 hs hf K hK
                    go_big_quiet_op
                    first
                      | go_big_quiet_on
                      | (refine ⟨_, fun _ _ => rfl, ?_⟩; go_big_quiet_on)
                    rfl
                refine wpR_one (A' := ?_) Stp.refl (by rfl) _ rfl 71 (by rfl) (by rfl) ?_ ?_ ?_
                rotate_left 1
                · simp only [Act.put, List.setIfInBounds_toArray, List.set_cons_zero, List.set_cons_succ]; rfl
                · intro w1 hs hf K hK
                  refine cls_load_cell 3 (.tmp 15) rfl ⟨w.heap.size, 0, none⟩ rfl (.int .i64 a.s) (fun w h => by simp [go_sem, h]) (fun w4 h2 => (RC.out w4 (HWS.out w4 (Stp.trans _ _ _ hs h2))).1.1) ?_
                  refine hK _ ?_
                  simp only [Act.put, List.setIfInBounds_toArray, List.set_cons_zero, List.set_cons_succ]
                  rfl
                iterate 1
                  refine wpR_one (A' := ?_) Stp.refl (by rfl) _ rfl 71 (by rfl) (by rfl) ?_ ?_ ?_
                  rotate_left 1
                  · simp only [Act.put, List.setIfInBounds_toArray, List.set_cons_zero, List.set_cons_succ]; rfl
                  · intro w1 hs hf K hK
                    go_big_quiet_op
                    first
                      | go_big_quiet_on
                      | (refine ⟨_, fun _ _ => rfl, ?_⟩; go_big_quiet_on)
                    rfl
                refine wpR_one (A' := ?_) Stp.refl (by rfl) _ rfl 71 (by rfl) (by rfl) ?_ ?_ ?_
                rotate_left 1
                · simp only [Act.put, List.setIfInBounds_toArray, List.set_cons_zero, List.set_cons_succ]; rfl
                · intro w1 hs hf K hK
                  refine cls_load_cell 3 (.tmp 17) rfl ⟨w.heap.size + 1, 0, none⟩ rfl (.int .i64 b.s) (fun w h => by simp [go_sem, h]) (fun w4 h2 => (RC.out w4 (HWS.out w4 (Stp.trans _ _ _ hs h2))).2.1) ?_
                  refine hK _ ?_
                  simp only [Act.put, List.setIfInBounds_toArray, List.set_cons_zero, List.set_cons_succ]
                  rfl
                iterate 1
                  refine wpR_one (A' := ?_) Stp.refl (by rfl) _ rfl 71 (by rfl) (by rfl) ?_ ?_ ?_
                  rotate_left 1
                  · simp only [Act.put, List.setIfInBounds_toArray, List.set_cons_zero, List.set_cons_succ]; rfl
                  · intro w1 hs hf K hK
                    go_big_quiet_op
                    first
                      | go_big_quiet_on
                      | (refine ⟨_, fun _ _ => rfl, ?_⟩; go_big_quiet_on)
                    rfl
                iterate 2
                  refine wpR_one (A' := ?_) Stp.refl (by rfl) _ rfl 71 (by rfl) (by rfl) ?_ ?_ ?_
                  rotate_left 1
                  · simp only [Act.put, List.setIfInBounds_toArray, List.set_cons_zero, List.set_cons_succ]; rfl
                  · intro w1 hs hf K hK
                    go_big_quiet_op
                    first
                      | go_big_quiet_on
                      | (refine ⟨_, fun _ _ => rfl, ?_⟩; go_big_quiet_on)
                    rfl
                iterate 1
                  refine wpR_one (A' := ?_) Stp.refl (by rfl) _ rfl 71 (by rfl) (by rfl) ?_ ?_ ?_
                  rotate_left 1
                  · simp only [Act.put, List.setIfInBounds_toArray, List.set_cons_zero, List.set_cons_succ]; rfl
                  · intro w1 hs hf K hK
                    go_big_quiet_op
                    first
                      | go_big_quiet_on
                      | (refine ⟨_, fun _ _ => rfl, ?_⟩; go_big_quiet_on)
                    rfl
                refine wpR_one (A' := ?_) Stp.refl (by rfl) _ rfl 71 (by rfl) (by rfl) ?_ ?_ ?_
                rotate_left 1
                · simp only [Act.put, List.setIfInBounds_toArray, List.set_cons_zero, List.set_cons_succ]; rfl
                · intro w1 hs hf K hK
                  refine cls_load_cell 3 (.tmp 22) rfl ⟨w.heap.size + 1, 1, none⟩ rfl (.int .i64 b.t) (fun w h => by simp [go_sem, h]) (fun w4 h2 => (RC.out w4 (HWS.out w4 (Stp.trans _ _ _ hs h2))).2.2.1) ?_
                  refine hK _ ?_
                  simp only [Act.put, List.setIfInBounds_toArray, List.set_cons_zero, List.set_cons_succ]
                  rfl
                iterate 1
                  refine wpR_one (A' := ?_) Stp.refl (by rfl) _ rfl 71 (by rfl) (by rfl) ?_ ?_ ?_
                  rotate_left 1
                  · simp only [Act.put, List.setIfInBounds_toArray, List.set_cons_zero, List.set_cons_succ]; rfl
                  · intro w1 hs hf K hK
                    go_big_quiet_op
                    first
                      | go_big_quiet_on
                      | (refine ⟨_, fun _ _ => rfl, ?_⟩; go_big_quiet_on)
                    rfl
                refine wpR_one (A' := ?_) Stp.refl (by rfl) _ rfl 71 (by rfl) (by rfl) ?_ ?_ ?_
                rotate_left 1
                · simp only [Act.put, List.setIfInBounds_toArray, List.set_cons_zero, List.set_cons_succ]; rfl
                · intro w1 hs hf K hK
                  refine cls_load_cell 3 (.tmp 24) rfl ⟨w.heap.size, 1, none⟩ rfl (.int .i64 a.t) (fun w h => by simp [go_sem, h]) (fun w4 h2 => (RC.out w4 (HWS.out w4 (Stp.trans _ _ _ hs h2))).1.2.1) ?_
                  refine hK _ ?_
                  simp only [Act.put, List.setIfInBounds_toArray, List.set_cons_zero, List.set_cons_succ]
                  rfl
                iterate 2
                  refine wpR_one (A' := ?_) Stp.refl (by rfl) _ rfl 71 (by rfl) (by rfl) ?_ ?_ ?_
                  rotate_left 1
                  · simp only [Act.put, List.setIfInBounds_toArray, List.set_cons_zero, List.set_cons_succ]; rfl
                  · intro w1 hs hf K hK
                    go_big_quiet_op
                    first
                      | go_big_quiet_on
                      | (refine ⟨_, fun _ _ => rfl, ?_⟩; go_big_quiet_on)
                    rfl
                iterate 2
                  refine wpR_one (A' := ?_) Stp.refl (by rfl) _ rfl 71 (by rfl) (by rfl) ?_ ?_ ?_
                  rotate_left 1
                  · simp only [Act.put, List.setIfInBounds_toArray, List.set_cons_zero, List.set_cons_succ]; rfl
                  · intro w1 hs hf K hK
                    go_big_quiet_op
                    first
                      | go_big_quiet_on
                      | (refine ⟨_, fun _ _ => rfl, ?_⟩; go_big_quiet_on)
                    rfl
                iterate 1
                  refine wpR_one (A' := ?_) Stp.refl (by rfl) _ rfl 71 (by rfl) (by rfl) ?_ ?_ ?_
                  rotate_left 1
                  · simp only [Act.put, List.setIfInBounds_toArray, List.set_cons_zero, List.set_cons_succ]; rfl
                  · intro w1 hs hf K hK
                    go_big_quiet_op
                    first
                      | go_big_quiet_on
                      | (refine ⟨_, fun _ _ => rfl, ?_⟩; go_big_quiet_on)
                    rfl
                refine wpR_one (A' := ?_) Stp.refl (by rfl) _ rfl 71 (by rfl) (by rfl) ?_ ?_ ?_
                rotate_left 1
                · simp only [Act.put, List.setIfInBounds_toArray, List.set_cons_zero, List.set_cons_succ]; rfl
                · intro w1 hs hf K hK
                  refine cls_load_cell 3 (.tmp 30) rfl ⟨w.heap.size + 1, 2, none⟩ rfl (.int .i64 b.p) (fun w h => by simp [go_sem, h]) (fun w4 h2 => (RC.out w4 (HWS.out w4 (Stp.trans _ _ _ hs h2))).2.2.2) ?_
                  refine hK _ ?_
                  simp only [Act.put, List.setIfInBounds_toArray, List.set_cons_zero, List.set_cons_succ]
                  rfl
                iterate 1
                  refine wpR_one (A' := ?_) Stp.refl (by rfl) _ rfl 71 (by rfl) (by rfl) ?_ ?_ ?_
                  rotate_left 1
                  · simp only [Act.put, List.setIfInBounds_toArray, List.set_cons_zero, List.set_cons_succ]; rfl
                  · intro w1 hs hf K hK
                    go_big_quiet_op
                    first
                      | go_big_quiet_on
                      | (refine ⟨_, fun _ _ => rfl, ?_⟩; go_big_quiet_on)
                    rfl
                refine wpR_one (A' := ?_) Stp.refl (by rfl) _ rfl 71 (by rfl) (by rfl) ?_ ?_ ?_
                rotate_left 1
                · simp only [Act.put, List.setIfInBounds_toArray, List.set_cons_zero, List.set_cons_succ]; rfl
                · intro w1 hs hf K hK
                  refine cls_load_cell 3 (.tmp 32) rfl ⟨w.heap.size, 2, none⟩ rfl (.int .i64 a.p) (fun w h => by simp [go_sem, h]) (fun w4 h2 => (RC.out w4 (HWS.out w4 (Stp.trans _ _ _ hs h2))).1.2.2) ?_
                  refine hK _ ?_
                  simp only [Act.put, List.setIfInBounds_toArray, List.set_cons_zero, List.set_cons_succ]
                  rfl
                iterate 1
                  refine wpR_one (A' := ?_) Stp.refl (by rfl) _ rfl 71 (by rfl) (by rfl) ?_ ?_ ?_
                  rotate_left 1
                  · simp only [Act.put, List.setIfInBounds_toArray, List.set_cons_zero, List.set_cons_succ]; rfl
                  · intro w1 hs hf K hK
                    go_big_quiet_op
                    first
                      | go_big_quiet_on
                      | (refine ⟨_, fun _ _ => rfl, ?_⟩; go_big_quiet_on)
                    rfl
                iterate 2
                  refine wpR_one (A' := ?_) Stp.refl (by rfl) _ rfl 71 (by rfl) (by rfl) ?_ ?_ ?_
                  rotate_left 1
                  · simp only [Act.put, List.setIfInBounds_toArray, List.set_cons_zero, List.set_cons_succ]; rfl
                  · intro w1 hs hf K hK
                    go_big_quiet_op
                    first
                      | go_big_quiet_on
                      | (refine ⟨_, fun _ _ => rfl, ?_⟩; go_big_quiet_on)
                    rfl
                iterate 1
                  refine wpR_one (A' := ?_) Stp.refl (by rfl) _ rfl 71 (by rfl) (by rfl) ?_ ?_ ?_
                  rotate_left 1
                  · simp only [Act.put, List.setIfInBounds_toArray, List.set_cons_zero, List.set_cons_succ]; rfl
                  · intro w1 hs hf K hK
                    go_big_quiet_op
                    first
                      | go_big_quiet_on
                      | (refine ⟨_, fun _ _ => rfl, ?_⟩; go_big_quiet_on)
                    rfl
                refine wpR_one (A' := ?_) Stp.refl (by rfl) _ rfl 71 (by rfl) (by rfl) ?_ ?_ ?_
                rotate_left 1
                · simp only [Act.put, List.setIfInBounds_toArray, List.set_cons_zero, List.set_cons_succ]; rfl
                · intro w1 hs hf K hK
                  refine cls_load 23 (.tmp 37) rfl (w.heap.size + 1) (3) rfl ((b.d.map bv)) _ (fun w4 h2 => (RG.out w4 (HWS.out w4 (Stp.trans _ _ _ hs h2))).2.2.2) Tryd.underlying23 rfl ZD.out ?_
                  refine hK _ ?_
                  simp only [Act.put, List.setIfInBounds_toArray, List.set_cons_zero, List.set_cons_succ]
                  rfl
                refine wpR_one (A' := ?_) Stp.refl (by rfl) _ rfl 71 (by rfl) (by rfl) ?_ ?_ ?_
                rotate_left 1
                · simp only [Act.put, List.setIfInBounds_toArray, List.set_cons_zero, List.set_cons_succ]; rfl
                · intro w1 hs hf K hK
                  refine cls_load 25 (.tmp 3) rfl (w.heap.size) (0) rfl (LA) _ (fun w4 h2 => (RG.out w4 (HWS.out w4 (Stp.trans _ _ _ hs h2))).1) Tryd.underlying25 rfl ZA.out ?_
                  refine hK _ ?_
                  simp only [Act.put, List.setIfInBounds_toArray, List.set_cons_zero, List.set_cons_succ]
                  rfl
                refine wpR_one (A' := ?_) Stp.refl (by rfl) _ rfl 71 (by rfl) (by rfl) ?_ ?_ ?_
                rotate_left 1
                · simp only [Act.put, List.setIfInBounds_toArray, List.set_cons_zero, List.set_cons_succ]; rfl
                · intro w1 hs hf K hK
                  go_big_quiet_op
                  apply Exists.intro
                  refine ⟨fun w4 h2 => ?_, ?_⟩
                  · refine (IA.out w4).mono ?_
                    rintro e w3 ⟨rfl, h3⟩
                    exact ⟨rfl, Stp.trans _ _ _ h2 h3⟩
                  · go_big_quiet_on
                    rfl
                iterate 1
                  refine wpR_one (A' := ?_) Stp.refl (by rfl) _ rfl 71 (by rfl) (by rfl) ?_ ?_ ?_
                  rotate_left 1
                  · simp only [Act.put, List.setIfInBounds_toArray, List.set_cons_zero, List.set_cons_succ]; rfl
                  · intro w1 hs hf K hK
                    go_big_quiet_op
                    first
                      | go_big_quiet_on
                      | (refine ⟨_, fun _ _ => rfl, ?_⟩; go_big_quiet_on)
                    rfl
                iterate 2
                  refine wpR_one (A' := ?_) Stp.refl (by rfl) _ rfl 71 (by rfl) (by rfl) ?_ ?_ ?_
                  rotate_left 1
                  · simp only [Act.put, List.setIfInBounds_toArray, List.set_cons_zero, List.set_cons_succ]; rfl
                  · intro w1 hs hf K hK
                    go_big_quiet_op
                    first
                      | go_big_quiet_on
                      | (refine ⟨_, fun _ _ => rfl, ?_⟩; go_big_quiet_on)
                    rfl
                intro z1 hs hf
                have HT1 := Lib.hid (HWS.out z1 hs)
                clear hs hf
                obtain ⟨r1, r2, r3⟩ := RF.out z1 HT1.out
                go_wp2_with (go_at_call 22; refine stop ?_)
                unfold Stop
                refine (FAB.out z1 (GL.out z1 HT1.out)).mono ?_
                rintro r z2 ⟨rfl, t⟩
                have HT2 := Lib.hid (HT1.out.trans t (fun _ _ h => h))
                clear t r1 r2 r3
                obtain ⟨r1, r2, r3⟩ := RF.out z2 HT2.out
                go_wp2_with (go_at_call 22; refine stop ?_)
                unfold Stop
                refine (FCB.out z2 (GL.out z2 HT2.out)).mono ?_
                rintro r z3 ⟨rfl, t⟩
                have HT3 := Lib.hid (HT2.out.trans t (fun _ _ h => h))
                clear t r1 r2 r3
                obtain ⟨r1, r2, r3⟩ := RF.out z3 HT3.out
                go_wp2_with (go_at_call 22; refine stop ?_)
                unfold Stop
                refine (FAA.out z3 (GL.out z3 HT3.out)).mono ?_
                rintro r z4 ⟨rfl, t⟩
                have HT4 := Lib.hid (HT3.out.trans t (fun _ _ h => h))
                clear t r1 r2 r3
                obtain ⟨r1, r2, r3⟩ := RF.out z4 HT4.out
                go_wp2_with (go_at_call 13; refine stop ?_)
                unfold Stop
                refine (AW.out z4 (GL.out z4 HT4.out)).mono ?_
                rintro r z9 ⟨rfl, t⟩
                have HT9 := Lib.hid (HT4.out.trans t (fun _ _ h => h))
                clear t r1 r2 r3
                go_wp2
                go_ret
                exact ⟨rfl, T0.out.trans HT9.out (fun _ _ h => h)⟩
            · rw [decide_eq_false od] at hI
              rw [show decide (fol a b) = false from decide_eq_false (fun h => od (FOL.out.1 h).2.2.2.2.2)] at FAB
              clear oa ob os ot op od
              go_enter Tryd.func6, Tryd.ntmps6
              go_upto_region 1 with fail
              change Code.wp _ _ _ _ (((w.alloc (.cells LA.toArray 25)).alloc (.cells LB.toArray 25)).alloc (.cells LC.toArray 25))
              rw [← hw0]
              clear hw0
              refine wp_region_rel 71 Stp (.one ?_ :: .one ?_ :: .one ?_ :: .one ?_ :: .one ?_ :: .one ?_ :: .one ?_ :: .one ?_ :: .one ?_ :: .one ?_ :: .one ?_ :: .one ?_ :: .one ?_ :: .one ?_ :: .one ?_ :: .one ?_ :: .one ?_ :: .one ?_ :: .one ?_ :: .one ?_ :: .one ?_ :: .one ?_ :: .one ?_ :: .one ?_ :: .one ?_ :: .one ?_ :: .one ?_ :: .one ?_ :: .one ?_ :: .one ?_ :: .one ?_ :: .one ?_ :: .one ?_ :: .one ?_ :: .one ?_ :: .one ?_ :: []) (by kernel_rfl) (by kernel_rfl) rfl (by kernel_rfl) Stp.refl Stp.trans trivial ?main
              case main =>
              refine wpR_one (A' := ?_) Stp.refl (by rfl) _ rfl 71 (by rfl) (by rfl) ?_ ?_ ?_
              rotate_left 1
              · simp only [Act.put, List.setIfInBounds_toArray, List.set_cons_zero, List.set_cons_succ]; rfl
              · intro w1 hs hf K hK
                refine cls_load 25 (.tmp 3) rfl (w.heap.size) (0) rfl (LA) _ (fun w4 h2 => (RG.out w4 (HWS.out w4 (Stp.trans _ _ _ hs h2))).1) Tryd.underlying25 rfl ZA.out ?_
                refine hK _ ?_
                simp only [Act.put, List.setIfInBounds_toArray, List.set_cons_zero, List.set_cons_succ]
                rfl
              refine wpR_one (A' := ?_) Stp.refl (by rfl) _ rfl 71 (by rfl) (by rfl) ?_ ?_ ?_
              rotate_left 1
              · simp only [Act.put, List.setIfInBounds_toArray, List.set_cons_zero, List.set_cons_succ]; rfl
              · intro w1 hs hf K hK
                go_big_quiet_op
                apply Exists.intro
                refine ⟨fun w4 h2 => ?_, ?_⟩
                · refine (RA.out w4).mono ?_
                  rintro e w3 ⟨rfl, h3⟩
                  exact ⟨rfl, Stp.trans _ _ _ h2 h3⟩
                · go_big_quiet_on
                  rfl
              iterate 1
                refine wpR_one (A' := ?_) Stp.refl (by rfl) _ rfl 71 (by rfl) (by rfl) ?_ ?_ ?_
                rotate_left 1
                · simp only [Act.put, List.setIfInBounds_toArray, List.set_cons_zero, List.set_cons_succ]; rfl
                · intro w1 hs hf K hK
                  go_big_quiet_op
                  first
                    | go_big_quiet_on
                    | (refine ⟨_, fun _ _ => rfl, ?_⟩; go_big_quiet_on)
                  rfl
              refine wpR_one (A' := ?_) Stp.refl (by rfl) _ rfl 71 (by rfl) (by rfl) ?_ ?_ ?_
              rotate_left 1
              · simp only [Act.put, List.setIfInBounds_toArray, List.set_cons_zero, List.set_cons_succ]; rfl
              · intro w1 hs hf K hK
                refine cls_load 25 (.tmp 4) rfl (w.heap.size + 1) (0) rfl (LB) _ (fun w4 h2 => (RG.out w4 (HWS.out w4 (Stp.trans _ _ _ hs h2))).2.1) Tryd.underlying25 rfl ZB.out ?_
                refine hK _ ?_
                simp only [Act.put, List.setIfInBounds_toArray, List.set_cons_zero, List.set_cons_succ]
                rfl
              refine wpR_one (A' := ?_) Stp.refl (by rfl) _ rfl 71 (by rfl) (by rfl) ?_ ?_ ?_
              rotate_left 1
              · simp only [Act.put, List.setIfInBounds_toArray, List.set_cons_zero, List.set_cons_succ]; rfl
              · intro w1 hs hf K hK
                go_big_quiet_op
                apply Exists.intro
                refine ⟨fun w4 h2 => ?_, ?_⟩
                · refine (RB.out w4).mono ?_
                  rintro e w3 ⟨rfl, h3⟩
                  exact ⟨rfl, Stp.trans _ _ _ h2 h3⟩
                · go_big_quiet_on
                  rfl
              iterate 2
                refine wpR_one (A' := ?_) Stp.refl (by rfl) _ rfl 71 (by rfl) (by rfl) ?_ ?_ ?_
                rotate_left 1
                · simp only [Act.put, List.setIfInBounds_toArray, List.set_cons_zero, List.set_cons_succ]; rfl
                · intro w1 hs hf K hK
                  go_big_quiet_op
                  first
                    | go_big_quiet_on
                    | (refine ⟨_, fun _ _ => rfl, ?_⟩; go_big_quiet_on)
                  rfl
              iterate 1
                refine wpR_one (A' := ?_) Stp.refl (by rfl) _ rfl 71 (by rfl) (by rfl) ?_ ?_ ?_
                rotate_left 1
                · simp only [Act.put, List.setIfInBounds_toArray, List.set_cons_zero, List.set_cons_succ]; rfl
                · intro w1 hs hf K hK
                  go_big_quiet_op
                  first
                    | go_big_quiet_on
                    | (refine ⟨_, fun _ _ => rfl, ?_⟩; go_big_quiet_on)
                  rfl
              refine wpR_one (A' := ?_) Stp.refl (by rfl) _ rfl 71 (by rfl) (by rfl) ?_ ?_ ?_
              rotate_left 1
              · simp only [Act.put, List.setIfInBounds_toArray, List.set_cons_zero, List.set_cons_succ]; rfl
              · intro w1 hs hf K hK
                refine cls_load_cell 3 (.tmp 15) rfl ⟨w.heap.size, 0, none⟩ rfl (.int .i64 a.s) (fun w h => by simp [go_sem, h]) (fun w4 h2 => (RC.out w4 (HWS.out w4 (Stp.trans _ _ _ hs h2))).1.1) ?_
                refine hK _ ?_
                simp only [Act.put, List.setIfInBounds_toArray, List.set_cons_zero, List.set_cons_succ]
                rfl
              iterate 1
                refine wpR_one (A' := ?_) Stp.refl (by rfl) _ rfl 71 (by rfl) (by rfl) ?_ ?_ ?_
                rotate_left 1
                · simp only [Act.put, List.setIfInBounds_toArray, List.set_cons_zero, List.set_cons_succ]; rfl
                · intro w1 hs hf K hK
                  go_big_quiet_op
                  first
                    | go_big_quiet_on
                    | (refine ⟨_, fun _ _ => rfl, ?_⟩; go_big_quiet_on)
                  rfl
              refine wpR_one (A' := ?_) Stp.refl (by rfl) _ rfl 71 (by rfl) (by rfl) ?_ ?_ ?_
              rotate_left 1
              · simp only [Act.put, List.setIfInBounds_toArray, List.set_cons_zero, List.set_cons_succ]; rfl
              · intro w1 hs hf K hK
                refine cls_load_cell 3 (.tmp 17) rfl ⟨w.heap.size + 1, 0, none⟩ rfl (.int .i64 b.s) (fun w h => by simp [go_sem, h]) (fun w4 h2 => (RC.out w4 (HWS.out w4 (Stp.trans _ _ _ hs h2))).2.1) ?_
                refine hK _ ?_
                simp only [Act.put, List.setIfInBounds_toArray, List.set_cons_zero, List.set_cons_succ]
                rfl
              iterate 1
                refine wpR_one (A' := ?_) Stp.refl (by rfl) _ rfl 71 (by rfl) (by rfl) ?_ ?_ ?_
                rotate_left 1
                · simp only [Act.put, List.setIfInBounds_toArray, List.set_cons_zero, List.set_cons_succ]; rfl
                · intro w1 hs hf K hK
                  go_big_quiet_op
                  first
                    | go_big_quiet_on
                    | (refine ⟨_, fun _ _ => rfl, ?_⟩; go_big_quiet_on)
                  rfl
              iterate 2
                refine wpR_one (A' := ?_) Stp.refl (by rfl) _ rfl 71 (by rfl) (by rfl) ?_ ?_ ?_
                rotate_left 1
                · simp only [Act.put, List.setIfInBounds_toArray, List.set_cons_zero, List.set_cons_succ]; rfl
                · intro w1 hs hf K hK
                  go_big_quiet_op
                  first
                    | go_big_quiet_on
                    | (refine ⟨_, fun _ _ => rfl, ?_⟩; go_big_quiet_on)
                  rfl
              iterate 1
                refine wpR_one (A' := ?_) Stp.refl (by rfl) _ rfl 71 (by rfl) (by rfl) ?_ ?_ ?_
                rotate_left 1
                · simp only [Act.put, List.setIfInBounds_toArray, List.set_cons_zero, List.set_cons_succ]; rfl
                · intro w1 hs hf K hK
                  go_big_quiet_op
                  first
                    | go_big_quiet_on
                    | (refine ⟨_, fun _ _ => rfl, ?_⟩; go_big_quiet_on)
                  rfl
              refine wpR_one (A' := ?_) Stp.refl (by rfl) _ rfl 71 (by rfl) (by rfl) ?_ ?_ ?_
              rotate_left 1
              · simp only [Act.put, List.setIfInBounds_toArray, List.set_cons_zero, List.set_cons_succ]; rfl
              · intro w1 hs hf K hK
                refine cls_load_cell 3 (.tmp 22) rfl ⟨w.heap.size + 1, 1, none⟩ rfl (.int .i64 b.t) (fun w h => by simp [go_sem, h]) (fun w4 h2 => (RC.out w4 (HWS.out w4 (Stp.trans _ _ _ hs h2))).2.2.1) ?_
                refine hK _ ?_
                simp only [Act.put, List.setIfInBounds_toArray, List.set_cons_zero, List.set_cons_succ]
                rfl
              iterate 1
                refine wpR_one (A' := ?_) Stp.refl (by rfl) _ rfl 71 (by rfl) (by rfl) ?_ ?_ ?_
                rotate_left 1
                · simp only [Act.put, List.setIfInBounds_toArray, List.set_cons_zero, List.set_cons_succ]; rfl
                · intro w1 hs hf K hK
                  go_big_quiet_op
                  first
                    | go_big_quiet_on
                    | (refine ⟨_, fun _ _ => rfl, ?_⟩; go_big_quiet_on)
                  rfl
              refine wpR_one (A' := ?_) Stp.refl (by rfl) _ rfl 71 (by rfl) (by rfl) ?_ ?_ ?_
              rotate_left 1
              · simp only [Act.put, List.setIfInBounds_toArray, List.set_cons_zero, List.set_cons_succ]; rfl
              · intro w1 hs hf K hK
                refine cls_load_cell 3 (.tmp 24) rfl ⟨w.heap.size, 1, none⟩ rfl (.int .i64 a.t) (fun w h => by simp [go_sem, h]) (fun w4 h2 => (RC.out w4 (HWS.out w4 (Stp.trans _ _ _ hs h2))).1.2.1) ?_
                refine hK _ ?_
                simp only [Act.put, List.setIfInBounds_toArray, List.set_cons_zero, List.set_cons_succ]
                rfl
              iterate 2
                refine wpR_one (A' := ?_) Stp.refl (by rfl) _ rfl 71 (by rfl) (by rfl) ?_ ?_ ?_
                rotate_left 1
                · simp only [Act.put, List.setIfInBounds_toArray, List.set_cons_zero, List.set_cons_succ]; rfl
                · intro w1 hs hf K hK
                  go_big_quiet_op
                  first
                    | go_big_quiet_on
                    | (refine ⟨_, fun _ _ => rfl, ?_⟩; go_big_quiet_on)
                  rfl
              iterate 2
                refine wpR_one (A' := ?_) Stp.refl (by rfl) _ rfl 71 (by rfl) (by rfl) ?_ ?_ ?_
                rotate_left 1
                · simp only [Act.put, List.setIfInBounds_toArray, List.set_cons_zero, List.set_cons_succ]; rfl
                · intro w1 hs hf K hK
                  go_big_quiet_op
                  first
                    | go_big_quiet_on
                    | (refine ⟨_, fun _ _ => rfl, ?_⟩; go_big_quiet_on)
                  rfl
              iterate 1
                refine wpR_one (A' := ?_) Stp.refl (by rfl) _ rfl 71 (by rfl) (by rfl) ?_ ?_ ?_
                rotate_left 1
                · simp only [Act.put, List.setIfInBounds_toArray, List.set_cons_zero, List.set_cons_succ]; rfl
                · intro w1 hs hf K hK
                  go_big_quiet_op
                  first
                    | go_big_quiet_on
                    | (refine ⟨_, fun _ _ => rfl, ?_⟩; go_big_quiet_on)
                  rfl
              refine wpR_one (A' := ?_) Stp.refl (by rfl) _ rfl 71 (by rfl) (by rfl) ?_ ?_ ?_
              rotate_left 1
              · simp only [Act.put, List.setIfInBounds_toArray, List.set_cons_zero, List.set_cons_succ]; rfl
              · intro w1 hs hf K hK
                refine cls_load_cell 3 (.tmp 30) rfl ⟨w.heap.size + 1, 2, none⟩ rfl (.int .i64 b.p) (fun w h => by simp [go_sem, h]) (fun w4 h2 => (RC.out w4 (HWS.out w4 (Stp.trans _ _ _ hs h2))).2.2.2) ?_
                refine hK _ ?_
                simp only [Act.put, List.setIfInBounds_toArray, List.set_cons_zero, List.set_cons_succ]
                rfl
              iterate 1
                refine wpR_one (A' := ?_) Stp.refl (by rfl) _ rfl 71 (by rfl) (by rfl) ?_ ?_ ?_
                rotate_left 1
                · simp only [Act.put, List.setIfInBounds_toArray, List.set_cons_zero, List.set_cons_succ]; rfl
                · intro w1 hs hf K hK
                  go_big_quiet_op
                  first
                    | go_big_quiet_on
                    | (refine ⟨_, fun _ _ => rfl, ?_⟩; go_big_quiet_on)
                  rfl
              refine wpR_one (A' := ?_) Stp.refl (by rfl) _ rfl 71 (by rfl) (by rfl) ?_ ?_ ?_
              rotate_left 1
              · simp only [Act.put, List.setIfInBounds_toArray, List.set_cons_zero, List.set_cons_succ]; rfl
              · intro w1 hs hf K hK
                refine cls_load_cell 3 (.tmp 32) rfl ⟨w.heap.size, 2, none⟩ rfl (.int .i64 a.p) (fun w h => by simp [go_sem, h]) (fun w4 h2 => (RC.out w4 (HWS.out w4 (Stp.trans _ _ _ hs h2))).1.2.2) ?_
                refine hK _ ?_
                simp only [Act.put, List.setIfInBounds_toArray, List.set_cons_zero, List.set_cons_succ]
                rfl
              iterate 1
                refine wpR_one (A' := ?_) Stp.refl (by rfl) _ rfl 71 (by rfl) (by rfl) ?_ ?_ ?_
                rotate_left 1
                · simp only [Act.put, List.setIfInBounds_toArray, List.set_cons_zero, List.set_cons_succ]; rfl
                · intro w1 hs hf K hK
                  go_big_quiet_op
                  first
                    | go_big_quiet_on
                    | (refine ⟨_, fun _ _ => rfl, ?_⟩; go_big_quiet_on)
                  rfl
              iterate 2
                refine wpR_one (A' := ?_) Stp.refl (by rfl) _ rfl 71 (by rfl) (by rfl) ?_ ?_ ?_
                rotate_left 1
                · simp only [Act.put, List.setIfInBounds_toArray, List.set_cons_zero, List.set_cons_succ]; rfl
                · intro w1 hs hf K hK
                  go_big_quiet_op
                  first
                    | go_big_quiet_on
                    | (refine ⟨_, fun _ _ => rfl, ?_⟩; go_big_quiet_on)
                  rfl
              iterate 1
                refine wpR_one (A' := ?_) Stp.refl (by rfl) _ rfl 71 (by rfl) (by rfl) ?_ ?_ ?_
                rotate_left 1
                · simp only [Act.put, List.setIfInBounds_toArray, List.set_cons_zero, List.set_cons_succ]; rfl
                · intro w1 hs hf K hK
                  go_big_quiet_op
                  first
                    | go_big_quiet_on
                    | (refine ⟨_, fun _ _ => rfl, ?_⟩; go_big_quiet_on)
                  rfl
              refine wpR_one (A' := ?_) Stp.refl (by rfl) _ rfl 71 (by rfl) (by rfl) ?_ ?_ ?_
              rotate_left 1
              · simp only [Act.put, List.setIfInBounds_toArray, List.set_cons_zero, List.set_cons_succ]; rfl
              · intro w1 hs hf K hK
                refine cls_load 23 (.tmp 37) rfl (w.heap.size + 1) (3) rfl ((b.d.map bv)) _ (fun w4 h2 => (RG.out w4 (HWS.out w4 (Stp.trans _ _ _ hs h2))).2.2.2) Tryd.underlying23 rfl ZD.out ?_
                refine hK _ ?_
                simp only [Act.put, List.setIfInBounds_toArray, List.set_cons_zero, List.set_cons_succ]
                rfl
              refine wpR_one (A' := ?_) Stp.refl (by rfl) _ rfl 71 (by rfl) (by rfl) ?_ ?_ ?_
              rotate_left 1
              · simp only [Act.put, List.setIfInBounds_toArray, List.set_cons_zero, List.set_cons_succ]; rfl
              · intro w1 hs hf K hK
                refine cls_load 25 (.tmp 3) rfl (w.heap.size) (0) rfl (LA) _ (fun w4 h2 => (RG.out w4 (HWS.out w4 (Stp.trans _ _ _ hs h2))).1) Tryd.underlying25 rfl ZA.out ?_
                refine hK _ ?_
                simp only [Act.put, List.setIfInBounds_toArray, List.set_cons_zero, List.set_cons_succ]
                rfl
              refine wpR_one (A' := ?_) Stp.refl (by rfl) _ rfl 71 (by rfl) (by rfl) ?_ ?_ ?_
              rotate_left 1
              · simp only [Act.put, List.setIfInBounds_toArray, List.set_cons_zero, List.set_cons_succ]; rfl
              · intro w1 hs hf K hK
                go_big_quiet_op
                apply Exists.intro
                refine ⟨fun w4 h2 => ?_, ?_⟩
                · refine (IA.out w4).mono ?_
                  rintro e w3 ⟨rfl, h3⟩
                  exact ⟨rfl, Stp.trans _ _ _ h2 h3⟩
                · go_big_quiet_on
                  rfl
              iterate 1
                refine wpR_one (A' := ?_) Stp.refl (by rfl) _ rfl 71 (by rfl) (by rfl) ?_ ?_ ?_
                rotate_left 1
                · simp only [Act.put, List.setIfInBounds_toArray, List.set_cons_zero, List.set_cons_succ]; rfl
                · intro w1 hs hf K hK
                  go_big_quiet_op
                  first
                    | go_big_quiet_on
                    | (refine ⟨_, fun _ _ => rfl, ?_⟩; go_big_quiet_on)
                  rfl
              iterate 2
                refine wpR_one (A' := ?_) Stp.refl (by rfl) _ rfl 71 (by rfl) (by rfl) ?_ ?_ ?_
                rotate_left 1
                · simp only [Act.put, List.setIfInBounds_toArray, List.set_cons_zero, List.set_cons_succ]; rfl
                · intro w1 hs hf K hK
                  go_big_quiet_op
                  first
                    | go_big_quiet_on
                    | (refine ⟨_, fun _ _ => rfl, ?_⟩; go_big_quiet_on)
                  rfl
              intro z1 hs hf
              have HT1 := Lib.hid (HWS.out z1 hs)
              clear hs hf
              obtain ⟨r1, r2, r3⟩ := RF.out z1 HT1.out
              go_wp2_with (go_at_call 22; refine stop ?_)
              unfold Stop
              refine (FAB.out z1 (GL.out z1 HT1.out)).mono ?_
              rintro r z2 ⟨rfl, t⟩
              have HT2 := Lib.hid (HT1.out.trans t (fun _ _ h => h))
              clear t r1 r2 r3
              obtain ⟨r1, r2, r3⟩ := RF.out z2 HT2.out
              go_wp2_with (go_at_call 22; refine stop ?_)
              unfold Stop
              refine (FAA.out z2 (GL.out z2 HT2.out)).mono ?_
              rintro r z3 ⟨rfl, t⟩
              have HT3 := Lib.hid (HT2.out.trans t (fun _ _ h => h))
              clear t r1 r2 r3
              obtain ⟨r1, r2, r3⟩ := RF.out z3 HT3.out
              go_wp2_with (go_at_call 13; refine stop ?_)
              unfold Stop
              refine (AW.out z3 (GL.out z3 HT3.out)).mono ?_
              rintro r z9 ⟨rfl, t⟩
              have HT9 := Lib.hid (HT3.out.trans t (fun _ _ h => h))
              clear t r1 r2 r3
              go_wp2
              go_ret
              exact ⟨rfl, T0.out.trans HT9.out (fun _ _ h => h)⟩
          · have qp : decide (a.p ≤ b.p) = false := decide_eq_false op
            rw [show decide (fol a b) = false from decide_eq_false (fun h => op (FOL.out.1 h).2.2.2.2.1)] at FAB
            clear oa ob os ot op hI
            go_enter Tryd.func6, Tryd.ntmps6
            go_upto_region 1 with fail
            change Code.wp _ _ _ _ (((w.alloc (.cells LA.toArray 25)).alloc (.cells LB.toArray 25)).alloc (.cells LC.toArray 25))
            rw [← hw0]
            clear hw0
            refine wp_region_rel 71 Stp (.one ?_ :: .one ?_ :: .one ?_ :: .one ?_ :: .one ?_ :: .one ?_ :: .one ?_ :: .one ?_ :: .one ?_ :: .one ?_ :: .one ?_ :: .one ?_ :: .one ?_ :: .one ?_ :: .one ?_ :: .one ?_ :: .one ?_ :: .one ?_ :: .one ?_ :: .one ?_ :: .one ?_ :: .one ?_ :: .one ?_ :: .one ?_ :: .one ?_ :: .one ?_ :: .one ?_ :: .one ?_ :: .one ?_ :: .one undef :: .one undef :: .one undef :: .one undef :: .one undef :: .one ?_ :: .one ?_ :: []) (by kernel_rfl) (by kernel_rfl) rfl (by kernel_rfl) Stp.refl Stp.trans trivial ?main
            case main =>
            refine wpR_one (A' := ?_) Stp.refl (by rfl) _ rfl 71 (by rfl) (by rfl) ?_ ?_ ?_
            rotate_left 1
            · simp only [Act.put, List.setIfInBounds_toArray, List.set_cons_zero, List.set_cons_succ]; rfl
            · intro w1 hs hf K hK
              refine cls_load 25 (.tmp 3) rfl (w.heap.size) (0) rfl (LA) _ (fun w4 h2 => (RG.out w4 (HWS.out w4 (Stp.trans _ _ _ hs h2))).1) Tryd.underlying25 rfl ZA.out ?_
              refine hK _ ?_
              simp only [Act.put, List.setIfInBounds_toArray, List.set_cons_zero, List.set_cons_succ]
              rfl
            refine wpR_one (A' := ?_) Stp.refl (by rfl) _ rfl 71 (by rfl) (by rfl) ?_ ?_ ?_
            rotate_left 1
            · simp only [Act.put, List.setIfInBounds_toArray, List.set_cons_zero, List.set_cons_succ]; rfl
            · intro w1 hs hf K hK
              go_big_quiet_op
              apply Exists.intro
              refine ⟨fun w4 h2 => ?_, ?_⟩
              · refine (RA.out w4).mono ?_
                rintro e w3 ⟨rfl, h3⟩
                exact ⟨rfl, Stp.trans _ _ _ h2 h3⟩
              · go_big_quiet_on
                rfl
            iterate 1
              refine wpR_one (A' := ?_) Stp.refl (by rfl) _ rfl 71 (by rfl) (by rfl) ?_ ?_ ?_
              rotate_left 1
              · simp only [Act.put, List.setIfInBounds_toArray, List.set_cons_zero, List.set_cons_succ]; rfl
              · intro w1 hs hf K hK
                go_big_quiet_op
                first
                  | go_big_quiet_on
                  | (refine ⟨_, fun _ _ => rfl, ?_⟩; go_big_quiet_on)
                rfl
            refine wpR_one (A' := ?_) Stp.refl (by rfl) _ rfl 71 (by rfl) (by rfl) ?_ ?_ ?_
            rotate_left 1
            · simp only [Act.put, List.setIfInBounds_toArray, List.set_cons_zero, List.set_cons_succ]; rfl
            · intro w1 hs hf K hK
              refine cls_load 25 (.tmp 4) rfl (w.heap.size + 1) (0) rfl (LB) _ (fun w4 h2 => (RG.out w4 (HWS.out w4 (Stp.trans _ _ _ hs h2))).2.1) Tryd.underlying25 rfl ZB.out ?_
              refine hK _ ?_
              simp only [Act.put, List.setIfInBounds_toArray, List.set_cons_zero, List.set_cons_succ]
              rfl
            refine wpR_one (A' := ?_) Stp.refl (by rfl) _ rfl 71 (by rfl) (by rfl) ?_ ?_ ?_
            rotate_left 1
            · simp only [Act.put, List.setIfInBounds_toArray, List.set_cons_zero, List.set_cons_succ]; rfl
            · intro w1 hs hf K hK
              go_big_quiet_op
              apply Exists.intro
              refine ⟨fun w4 h2 => ?_, ?_⟩
              · refine (RB.out w4).mono ?_
                rintro e w3 ⟨rfl, h3⟩
                exact ⟨rfl, Stp.trans _ _ _ h2 h3⟩
              · go_big_quiet_on
                rfl
            iterate 2
              refine wpR_one (A' := ?_) Stp.refl (by rfl) _ rfl 71 (by rfl) (by rfl) ?_ ?_ ?_
              rotate_left 1
              · simp only [Act.put, List.setIfInBounds_toArray, List.set_cons_zero, List.set_cons_succ]; rfl
              · intro w1 hs hf K hK
                go_big_quiet_op
                first
                  | go_big_quiet_on
                  | (refine ⟨_, fun _ _ => rfl, ?_⟩; go_big_quiet_on)
                rfl
            iterate 1
              refine wpR_one (A' := ?_) Stp.refl (by rfl) _ rfl 71 (by rfl) (by rfl) ?_ ?_ ?_
              rotate_left 1
              · simp only [Act.put, List.setIfInBounds_toArray, List.set_cons_zero, List.set_cons_succ]; rfl
              · intro w1 hs hf K hK
                go_big_quiet_op
                first
                  | go_big_quiet_on
                  | (refine ⟨_, fun _ _ => rfl, ?_⟩; go_big_quiet_on)
                rfl
            refine wpR_one (A' := ?_) Stp.refl (by rfl) _ rfl 71 (by rfl) (by rfl) ?_ ?_ ?_
            rotate_left 1
            · simp only [Act.put, List.setIfInBounds_toArray, List.set_cons_zero, List.set_cons_succ]; rfl
            · intro w1 hs hf K hK
              refine cls_load_cell 3 (.tmp 15) rfl ⟨w.heap.size, 0, none⟩ rfl (.int .i64 a.s) (fun w h => by simp [go_sem, h]) (fun w4 h2 => (RC.out w4 (HWS.out w4 (Stp.trans _ _ _ hs h2))).1.1) ?_
              refine hK _ ?_
              simp only [Act.put, List.setIfInBounds_toArray, List.set_cons_zero, List.set_cons_succ]
              rfl
            iterate 1
              refine wpR_one (A' := ?_) Stp.refl (by rfl) _ rfl 71 (by rfl) (by rfl) ?_ ?_ ?_
              rotate_left 1
              · simp only [Act.put, List.setIfInBounds_toArray, List.set_cons_zero, List.set_cons_succ]; rfl
              · intro w1 hs hf K hK
                go_big_quiet_op
                first
                  | go_big_quiet_on
                  | (refine ⟨_, fun _ _ => rfl, ?_⟩; go_big_quiet_on)
                rfl
            refine wpR_one (A' := ?_) Stp.refl (by rfl) _ rfl 71 (by rfl) (by rfl) ?_ ?_ ?_
            rotate_left 1
            · simp only [Act.put, List.setIfInBounds_toArray, List.set_cons_zero, List.set_cons_succ]; rfl
            · intro w1 hs hf K hK
              refine cls_load_cell 3 (.tmp 17) rfl ⟨w.heap.size + 1, 0, none⟩ rfl (.int .i64 b.s) (fun w h => by simp [go_sem, h]) (fun w4 h2 => (RC.out w4 (HWS.out w4 (Stp.trans _ _ _ hs h2))).2.1) ?_
              refine hK _ ?_
              simp only [Act.put, List.setIfInBounds_toArray, List.set_cons_zero, List.set_cons_succ]
              rfl
            iterate 1
              refine wpR_one (A' := ?_) Stp.refl (by rfl) _ rfl 71 (by rfl) (by rfl) ?_ ?_ ?_
              rotate_left 1
              · simp only [Act.put, List.setIfInBounds_toArray, List.set_cons_zero, List.set_cons_succ]; rfl
              · intro w1 hs hf K hK
                go_big_quiet_op
                first
                  | go_big_quiet_on
                  | (refine ⟨_, fun _ _ => rfl, ?_⟩; go_big_quiet_on)
                rfl
            iterate 2
              refine wpR_one (A' := ?_) Stp.refl (by rfl) _ rfl 71 (by rfl) (by rfl) ?_ ?_ ?_
              rotate_left 1
              · simp only [Act.put, List.setIfInBounds_toArray, List.set_cons_zero, List.set_cons_succ]; rfl
              · intro w1 hs hf K hK
                go_big_quiet_op
                first
                  | go_big_quiet_on
                  | (refine ⟨_, fun _ _ => rfl, ?_⟩; go_big_quiet_on)
                rfl
            iterate 1
              refine wpR_one (A' := ?_) Stp.refl (by rfl) _ rfl 71 (by rfl) (by rfl) ?_ ?_ ?_
              rotate_left 1
              · simp only [Act.put, List.setIfInBounds_toArray, List.set_cons_zero, List.set_cons_succ]; rfl
              · intro w1 hs hf K hK
                go_big_quiet_op
                first
                  | go_big_quiet_on
                  | (refine ⟨_, fun _ _ => rfl, ?_⟩; go_big_quiet_on)
                rfl
            refine wpR_one (A' := ?_) Stp.refl (by rfl) _ rfl 71 (by rfl) (by rfl) ?_ ?_ ?_
            rotate_left 1
            · simp only [Act.put, List.setIfInBounds_toArray, List.set_cons_zero, List.set_cons_succ]; rfl
            · intro w1 hs hf K hK
              refine cls_load_cell 3 (.tmp 22) rfl ⟨w.heap.size + 1, 1, none⟩ rfl (.int .i64 b.t) (fun w h => by simp [go_sem, h]) (fun w4 h2 => (RC.out w4 (HWS.out w4 (Stp.trans _ _ _ hs h2))).2.2.1) ?_
              refine hK _ ?_
              simp only [Act.put, List.setIfInBounds_toArray, List.set_cons_zero, List.set_cons_succ]
              rfl
            iterate 1
              refine wpR_one (A' := ?_) Stp.refl (by rfl) _ rfl 71 (by rfl) (by rfl) ?_ ?_ ?_
              rotate_left 1
              · simp only [Act.put, List.setIfInBounds_toArray, List.set_cons_zero, List.set_cons_succ]; rfl
              · intro w1 hs hf K hK
                go_big_quiet_op
                first
                  | go_big_quiet_on
                  | (refine ⟨_, fun _ _ => rfl, ?_⟩; go_big_quiet_on)
                rfl
            refine wpR_one (A' := ?_) Stp.refl (by rfl) _ rfl 71 (by rfl) (by rfl) ?_ ?_ ?_
            rotate_left 1
            · simp only [Act.put, List.setIfInBounds_toArray, List.set_cons_zero, List.set_cons_succ]; rfl
            · intro w1 hs hf K hK
              refine cls_load_cell 3 (.tmp 24) rfl ⟨w.heap.size, 1, none⟩ rfl (.int .i64 a.t) (fun w h => by simp [go_sem, h]) (fun w4 h2 => (RC.out w4 (HWS.out w4 (Stp.trans _ _ _ hs h2))).1.2.1) ?_
              refine hK _ ?_
              simp only [Act.put, List.setIfInBounds_toArray, List.set_cons_zero, List.set_cons_succ]
              rfl
            iterate 2
              refine wpR_one (A' := ?_) Stp.refl (by rfl) _ rfl 71 (by rfl) (by rfl) ?_ ?_ ?_
              rotate_left 1
              · simp only [Act.put, List.setIfInBounds_toArray, List.set_cons_zero, List.set_cons_succ]; rfl
              · intro w1 hs hf K hK
                go_big_quiet_op
                first
                  | go_big_quiet_on
                  | (refine ⟨_, fun _ _ => rfl, ?_⟩; go_big_quiet_on)
                rfl
            iterate 2
              refine wpR_one (A' := ?_) Stp.refl (by rfl) _ rfl 71 (by rfl) (by rfl) ?_ ?_ ?_
              rotate_left 1
              · simp only [Act.put, List.setIfInBounds_toArray, List.set_cons_zero, List.set_cons_succ]; rfl
              · intro w1 hs hf K hK
                go_big_quiet_op
                first
                  | go_big_quiet_on
                  | (refine ⟨_, fun _ _ => rfl, ?_⟩; go_big_quiet_on)
                rfl
            iterate 1
              refine wpR_one (A' := ?_) Stp.refl (by rfl) _ rfl 71 (by rfl) (by rfl) ?_ ?_ ?_
              rotate_left 1
              · simp only [Act.put, List.setIfInBounds_toArray, List.set_cons_zero, List.set_cons_succ]; rfl
              · intro w1 hs hf K hK
                go_big_quiet_op
                first
                  | go_big_quiet_on
                  | (refine ⟨_, fun _ _ => rfl, ?_⟩; go_big_quiet_on)
                rfl
            refine wpR_one (A' := ?_) Stp.refl (by rfl) _ rfl 71 (by rfl) (by rfl) ?_ ?_ ?_
            rotate_left 1
            · simp only [Act.put, List.setIfInBounds_toArray, List.set_cons_zero, List.set_cons_succ]; rfl
            · intro w1 hs hf K hK
              refine cls_load_cell 3 (.tmp 30) rfl ⟨w.heap.size + 1, 2, none⟩ rfl (.int .i64 b.p) (fun w h => by simp [go_sem, h]) (fun w4 h2 => (RC.out w4 (HWS.out w4 (Stp.trans _ _ _ hs h2))).2.2.2) ?_
              refine hK _ ?_
              simp only [Act.put, List.setIfInBounds_toArray, List.set_cons_zero, List.set_cons_succ]
              rfl
            iterate 1
              refine wpR_one (A' := ?_) Stp.refl (by rfl) _ rfl 71 (by rfl) (by rfl) ?_ ?_ ?_
              rotate_left 1
              · simp only [Act.put, List.setIfInBounds_toArray, List.set_cons_zero, List.set_cons_succ]; rfl
              · intro w1 hs hf K hK
                go_big_quiet_op
                first
                  | go_big_quiet_on
                  | (refine ⟨_, fun _ _ => rfl, ?_⟩; go_big_quiet_on)
                rfl
            refine wpR_one (A' := ?_) Stp.refl (by rfl) _ rfl 71 (by rfl) (by rfl) ?_ ?_ ?_
            rotate_left 1
            · simp only [Act.put, List.setIfInBounds_toArray, List.set_cons_zero, List.set_cons_succ]; rfl
            · intro w1 hs hf K hK
              refine cls_load_cell 3 (.tmp 32) rfl ⟨w.heap.size, 2, none⟩ rfl (.int .i64 a.p) (fun w h => by simp [go_sem, h]) (fun w4 h2 => (RC.out w4 (HWS.out w4 (Stp.trans _ _ _ hs h2))).1.2.2) ?_
              refine hK _ ?_
              simp only [Act.put, List.setIfInBounds_toArray, List.set_cons_zero, List.set_cons_succ]
              rfl
            iterate 1
              refine wpR_one (A' := ?_) Stp.refl (by rfl) _ rfl 71 (by rfl) (by rfl) ?_ ?_ ?_
              rotate_left 1
              · simp only [Act.put, List.setIfInBounds_toArray, List.set_cons_zero, List.set_cons_succ]; rfl
              · intro w1 hs hf K hK
                go_big_quiet_op
                first
                  | go_big_quiet_on
                  | (refine ⟨_, fun _ _ => rfl, ?_⟩; go_big_quiet_on)
                rfl
            iterate 2
              refine wpR_one (A' := ?_) Stp.refl (by rfl) _ rfl 71 (by rfl) (by rfl) ?_ ?_ ?_
              rotate_left 1
              · simp only [Act.put, List.setIfInBounds_toArray, List.set_cons_zero, List.set_cons_succ]; rfl
              · intro w1 hs hf K hK
                go_big_quiet_op
                first
                  | go_big_quiet_on
                  | (refine ⟨_, fun _ _ => rfl, ?_⟩; go_big_quiet_on)
                rfl
            iterate 5
              refine wpR_skip (A' := ?_) (by rfl) ?_ ?_
              rotate_left 1
              · simp only [Act.put, List.setIfInBounds_toArray, List.set_cons_zero, List.set_cons_succ]; rfl
            iterate 2
              refine wpR_one (A' := ?_) Stp.refl (by rfl) _ rfl 71 (by rfl) (by rfl) ?_ ?_ ?_
              rotate_left 1
              · simp only [Act.put, List.setIfInBounds_toArray, List.set_cons_zero, List.set_cons_succ]; rfl
              · intro w1 hs hf K hK
                go_big_quiet_op
                first
                  | go_big_quiet_on
                  | (refine ⟨_, fun _ _ => rfl, ?_⟩; go_big_quiet_on)
                rfl
            intro z1 hs hf
            have HT1 := Lib.hid (HWS.out z1 hs)
            clear hs hf
            obtain ⟨r1, r2, r3⟩ := RF.out z1 HT1.out
            go_wp2_with (go_at_call 22; refine stop ?_)
            unfold Stop
            refine (FAB.out z1 (GL.out z1 HT1.out)).mono ?_
            rintro r z2 ⟨rfl, t⟩
            have HT2 := Lib.hid (HT1.out.trans t (fun _ _ h => h))
            clear t r1 r2 r3
            obtain ⟨r1, r2, r3⟩ := RF.out z2 HT2.out
            go_wp2_with (go_at_call 22; refine stop ?_)
            unfold Stop
            refine (FAA.out z2 (GL.out z2 HT2.out)).mono ?_
            rintro r z3 ⟨rfl, t⟩
            have HT3 := Lib.hid (HT2.out.trans t (fun _ _ h => h))
            clear t r1 r2 r3
            obtain ⟨r1, r2, r3⟩ := RF.out z3 HT3.out
            go_wp2_with (go_at_call 13; refine stop ?_)
            unfold Stop
            refine (AW.out z3 (GL.out z3 HT3.out)).mono ?_
            rintro r z9 ⟨rfl, t⟩
            have HT9 := Lib.hid (HT3.out.trans t (fun _ _ h => h))
            clear t r1 r2 r3
            go_wp2
            go_ret
            exact ⟨rfl, T0.out.trans HT9.out (fun _ _ h => h)⟩
        · have qt : (b.t == a.t + 1) = false := by simp [ot]
          rw [show decide (fol a b) = false from decide_eq_false (fun h => ot (FOL.out.1 h).2.2.2.1)] at FAB
          clear oa ob os ot hI
          go_enter Tryd.func6, Tryd.ntmps6
          go_upto_region 1 with fail
          change Code.wp _ _ _ _ (((w.alloc (.cells LA.toArray 25)).alloc (.cells LB.toArray 25)).alloc (.cells LC.toArray 25))
          rw [← hw0]
          clear hw0
          refine wp_region_rel 71 Stp (.one ?_ :: .one ?_ :: .one ?_ :: .one ?_ :: .one ?_ :: .one ?_ :: .one ?_ :: .one ?_ :: .one ?_ :: .one ?_ :: .one ?_ :: .one ?_ :: .one ?_ :: .one ?_ :: .one ?_ :: .one ?_ :: .one ?_ :: .one ?_ :: .one ?_ :: .one ?_ :: .one ?_ :: .one ?_ :: .one undef :: .one undef :: .one undef :: .one undef :: .one undef :: .one ?_ :: .one ?_ :: .one undef :: .one undef :: .one undef :: .one undef :: .one undef :: .one ?_ :: .one ?_ :: []) (by kernel_rfl) (by kernel_rfl) rfl (by kernel_rfl) Stp.refl Stp.trans trivial ?main
          case main =>
          refine wpR_one (A' := ?_) Stp.refl (by rfl) _ rfl 71 (by rfl) (by rfl) ?_ ?_ ?_
          rotate_left 1
          · simp only [Act.put, List.setIfInBounds_toArray, List.set_cons_zero, List.set_cons_succ]; rfl
          · intro w1 hs hf K hK
            refine cls_load 25 (.tmp 3) rfl (w.heap.size) (0) rfl (LA) _ (fun w4 h2 => (RG.out w4 (HWS.out w4 (Stp.trans _ _ _ hs h2))).1) Tryd.underlying25 rfl ZA.out ?_
            refine hK _ ?_
            simp only [Act.put, List.setIfInBounds_toArray, List.set_cons_zero, List.set_cons_succ]
            rfl
          refine wpR_one (A' := ?_) Stp.refl (by rfl) _ rfl 71 (by rfl) (by rfl) ?_ ?_ ?_
          rotate_left 1
          · simp only [Act.put, List.setIfInBounds_toArray, List.set_cons_zero, List.set_cons_succ]; rfl
          · intro w1 hs hf K hK
            go_big_quiet_op
            apply Exists.intro
            refine ⟨fun w4 h2 => ?_, ?_⟩
            · refine (RA.out w4).mono ?_
              rintro e w3 ⟨rfl, h3⟩
              exact ⟨rfl, Stp.trans _ _ _ h2 h3⟩
            · go_big_quiet_on
              rfl
          iterate 1
            refine wpR_one (A' := ?_) Stp.refl (by rfl) _ rfl 71 (by rfl) (by rfl) ?_ ?_ ?_
            rotate_left 1
            · simp only [Act.put, List.setIfInBounds_toArray, List.set_cons_zero, List.set_cons_succ]; rfl
            · intro w1 hs hf K hK
              go_big_quiet_op
              first
                | go_big_quiet_on
                | (refine ⟨_, fun _ _ => rfl, ?_⟩; go_big_quiet_on)
              rfl
          refine wpR_one (A' := ?_) Stp.refl (by rfl) _ rfl 71 (by rfl) (by rfl) ?_ ?_ ?_
          rotate_left 1
          · simp only [Act.put, List.setIfInBounds_toArray, List.set_cons_zero, List.set_cons_succ]; rfl
          · intro w1 hs hf K hK
            refine cls_load 25 (.tmp 4) rfl (w.heap.size + 1) (0) rfl (LB) _ (fun w4 h2 => (RG.out w4 (HWS.out w4 (Stp.trans _ _ _ hs h2))).2.1) Tryd.underlying25 rfl ZB.out ?_
            refine hK _ ?_
            simp only [Act.put, List.setIfInBounds_toArray, List.set_cons_zero, List.set_cons_succ]
            rfl
          refine wpR_one (A' := ?_) Stp.refl (by rfl) _ rfl 71 (by rfl) (by rfl) ?_ ?_ ?_
          rotate_left 1
          · simp only [Act.put, List.setIfInBounds_toArray, List.set_cons_zero, List.set_cons_succ]; rfl
          · intro w1 hs hf K hK
            go_big_quiet_op
            apply Exists.intro
            refine ⟨fun w4 h2 => ?_, ?_⟩
            · refine (RB.out w4).mono ?_
              rintro e w3 ⟨rfl, h3⟩
              exact ⟨rfl, Stp.trans _ _ _ h2 h3⟩
            · go_big_quiet_on
              rfl
          iterate 2
            refine wpR_one (A' := ?_) Stp.refl (by rfl) _ rfl 71 (by rfl) (by rfl) ?_ ?_ ?_
            rotate_left 1
            · simp only [Act.put, List.setIfInBounds_toArray, List.set_cons_zero, List.set_cons_succ]; rfl
            · intro w1 hs hf K hK
              go_big_quiet_op
              first
                | go_big_quiet_on
                | (refine ⟨_, fun _ _ => rfl, ?_⟩; go_big_quiet_on)
              rfl
          iterate 1
            refine wpR_one (A' := ?_) Stp.refl (by rfl) _ rfl 71 (by rfl) (by rfl) ?_ ?_ ?_
            rotate_left 1
            · simp only [Act.put, List.setIfInBounds_toArray, List.set_cons_zero, List.set_cons_succ]; rfl
            · intro w1 hs hf K hK
              go_big_quiet_op
              first
                | go_big_quiet_on
                | (refine ⟨_, fun _ _ => rfl, ?_⟩; go_big_quiet_on)
              rfl
          refine wpR_one (A' := ?_) Stp.refl (by rfl) _ rfl 71 (by rfl) (by rfl) ?_ ?_ ?_
          rotate_left 1
          · simp only [Act.put, List.setIfInBounds_toArray, List.set_cons_zero, List.set_cons_succ]; rfl
          · intro w1 hs hf K hK
            refine cls_load_cell 3 (.tmp 15) rfl ⟨w.heap.size, 0, none⟩ rfl (.int .i64 a.s) (fun w h => by simp [go_sem, h]) (fun w4 h2 => (RC.out w4 (HWS.out w4 (Stp.trans _ _ _ hs h2))).1.1) ?_
            refine hK _ ?_
            simp only [Act.put, List.setIfInBounds_toArray, List.set_cons_zero, List.set_cons_succ]
            rfl
          iterate 1
            refine wpR_one (A' := ?_) Stp.refl (by rfl) _ rfl 71 (by rfl) (by rfl) ?_ ?_ ?_
            rotate_left 1
            · simp only [Act.put, List.setIfInBounds_toArray, List.set_cons_zero, List.set_cons_succ]; rfl
            · intro w1 hs hf K hK
              go_big_quiet_op
              first
                | go_big_quiet_on
                | (refine ⟨_, fun _ _ => rfl, ?_⟩; go_big_quiet_on)
              rfl
          refine wpR_one (A' := ?_) Stp.refl (by rfl) _ rfl 71 (by rfl) (by rfl) ?_ ?_ ?_
          rotate_left 1
          · simp only [Act.put, List.setIfInBounds_toArray, List.set_cons_zero, List.set_cons_succ]; rfl
          · intro w1 hs hf K hK
            refine cls_load_cell 3 (.tmp 17) rfl ⟨w.heap.size + 1, 0, none⟩ rfl (.int .i64 b.s) (fun w h => by simp [go_sem, h]) (fun w4 h2 => (RC.out w4 (HWS.out w4 (Stp.trans _ _ _ hs h2))).2.1) ?_
            refine hK _ ?_
            simp only [Act.put, List.setIfInBounds_toArray, List.set_cons_zero, List.set_cons_succ]
            rfl
          iterate 1
            refine wpR_one (A' := ?_) Stp.refl (by rfl) _ rfl 71 (by rfl) (by rfl) ?_ ?_ ?_
            rotate_left 1
            · simp only [Act.put, List.setIfInBounds_toArray, List.set_cons_zero, List.set_cons_succ]; rfl
            · intro w1 hs hf K hK
              go_big_quiet_op
              first
                | go_big_quiet_on
                | (refine ⟨_, fun _ _ => rfl, ?_⟩; go_big_quiet_on)
              rfl
          iterate 2
            refine wpR_one (A' := ?_) Stp.refl (by rfl) _ rfl 71 (by rfl) (by rfl) ?_ ?_ ?_
            rotate_left 1
            · simp only [Act.put, List.setIfInBounds_toArray, List.set_cons_zero, List.set_cons_succ]; rfl
            · intro w1 hs hf K hK
              go_big_quiet_op
              first
                | go_big_quiet_on
                | (refine ⟨_, fun _ _ => rfl, ?_⟩; go_big_quiet_on)
              rfl
          iterate 1
            refine wpR_one (A' := ?_) Stp.refl (by rfl) _ rfl 71 (by rfl) (by rfl) ?_ ?_ ?_
            rotate_left 1
            · simp only [Act.put, List.setIfInBounds_toArray, List.set_cons_zero, List.set_cons_succ]; rfl
            · intro w1 hs hf K hK
              go_big_quiet_op
              first
                | go_big_quiet_on
                | (refine ⟨_, fun _ _ => rfl, ?_⟩; go_big_quiet_on)
              rfl
          refine wpR_one (A' := ?_) Stp.refl (by rfl) _ rfl 71 (by rfl) (by rfl) ?_ ?_ ?_
          rotate_left 1
          · simp only [Act.put, List.setIfInBounds_toArray, List.set_cons_zero, List.set_cons_succ]; rfl
          · intro w1 hs hf K hK
            refine cls_load_cell 3 (.tmp 22) rfl ⟨w.heap.size + 1, 1, none⟩ rfl (.int .i64 b.t) (fun w h => by simp [go_sem, h]) (fun w4 h2 => (RC.out w4 (HWS.out w4 (Stp.trans _ _ _ hs h2))).2.2.1) ?_
            refine hK _ ?_
            simp only [Act.put, List.setIfInBounds_toArray, List.set_cons_zero, List.set_cons_succ]
            rfl
          iterate 1
            refine wpR_one (A' := ?_) Stp.refl (by rfl) _ rfl 71 (by rfl) (by rfl) ?_ ?_ ?_
            rotate_left 1
            · simp only [Act.put, List.setIfInBounds_toArray, List.set_cons_zero, List.set_cons_succ]; rfl
            · intro w1 hs hf K hK
              go_big_quiet_op
              first
                | go_big_quiet_on
                | (refine ⟨_, fun _ _ => rfl, ?_⟩; go_big_quiet_on)
              rfl
          refine wpR_one (A' := ?_) Stp.refl (by rfl) _ rfl 71 (by rfl) (by rfl) ?_ ?_ ?_
          rotate_left 1
          · simp only [Act.put, List.setIfInBounds_toArray, List.set_cons_zero, List.set_cons_succ]; rfl
          · intro w1 hs hf K hK
            refine cls_load_cell 3 (.tmp 24) rfl ⟨w.heap.size, 1, none⟩ rfl (.int .i64 a.t) (fun w h => by simp [go_sem, h]) (fun w4 h2 => (RC.out w4 (HWS.out w4 (Stp.trans _ _ _ hs h2))).1.2.1) ?_
            refine hK _ ?_
            simp only [Act.put, List.setIfInBounds_toArray, List.set_cons_zero, List.set_cons_succ]
            rfl
          iterate 2
            refine wpR_one (A' := ?_) Stp.refl (by rfl) _ rfl 71 (by rfl) (by rfl) ?_ ?_ ?_
            rotate_left 1
            · simp only [Act.put, List.setIfInBounds_toArray, List.set_cons_zero, List.set_cons_succ]; rfl
            · intro w1 hs hf K hK
              go_big_quiet_op
              first
                | go_big_quiet_on
                | (refine ⟨_, fun _ _ => rfl, ?_⟩; go_big_quiet_on)
              rfl
          iterate 2
            refine wpR_one (A' := ?_) Stp.refl (by rfl) _ rfl 71 (by rfl) (by rfl) ?_ ?_ ?_
            rotate_left 1
            · simp only [Act.put, List.setIfInBounds_toArray, List.set_cons_zero, List.set_cons_succ]; rfl
            · intro w1 hs hf K hK
              go_big_quiet_op
              first
                | go_big_quiet_on
                | (refine ⟨_, fun _ _ => rfl, ?_⟩; go_big_quiet_on)
              rfl
          iterate 5
            refine wpR_skip (A' := ?_) (by rfl) ?_ ?_
            rotate_left 1
            · simp only [Act.put, List.setIfInBounds_toArray, List.set_cons_zero, List.set_cons_succ]; rfl
          iterate 2
            refine wpR_one (A' := ?_) Stp.refl (by rfl) _ rfl 71 (by rfl) (by rfl) ?_ ?_ ?_
            rotate_left 1
            · simp only [Act.put, List.setIfInBounds_toArray, List.set_cons_zero, List.set_cons_succ]; rfl
            · intro w1 hs hf K hK
              go_big_quiet_op
              first
                | go_big_quiet_on
                | (refine ⟨_, fun _ _ => rfl, ?_⟩; go_big_quiet_on)
              rfl
          iterate 5
            refine wpR_skip (A' := ?_) (by rfl) ?_ ?_
            rotate_left 1
            · simp only [Act.put, List.setIfInBounds_toArray, List.set_cons_zero, List.set_cons_succ]; rfl
          iterate 2
            refine wpR_one (A' := ?_) Stp.refl (by rfl) _ rfl 71 (by rfl) (by rfl) ?_ ?_ ?_
            rotate_left 1
            · simp only [Act.put, List.setIfInBounds_toArray, List.set_cons_zero, List.set_cons_succ]; rfl
            · intro w1 hs hf K hK
              go_big_quiet_op
              first
                | go_big_quiet_on
                | (refine ⟨_, fun _ _ => rfl, ?_⟩; go_big_quiet_on)
              rfl
          intro z1 hs hf
          have HT1 := Lib.hid (HWS.out z1 hs)
          clear hs hf
          obtain ⟨r1, r2, r3⟩ := RF.out z1 HT1.out
          go_wp2_with (go_at_call 22; refine stop ?_)
          unfold Stop
          refine (FAB.out z1 (GL.out z1 HT1.out)).mono ?_
          rintro r z2 ⟨rfl, t⟩
          have HT2 := Lib.hid (HT1.out.trans t (fun _ _ h => h))
          clear t r1 r2 r3
          obtain ⟨r1, r2, r3⟩ := RF.out z2 HT2.out
          go_wp2_with (go_at_call 22; refine stop ?_)
          unfold Stop
          refine (FAA.out z2 (GL.out z2 HT2.out)).mono ?_
          rintro r z3 ⟨rfl, t⟩
          have HT3 := Lib.hid (HT2.out.trans t (fun _ _ h => h))
          clear t r1 r2 r3
          obtain ⟨r1, r2, r3⟩ := RF.out z3 HT3.out
          go_wp2_with (go_at_call 13; refine stop ?_)
          unfold Stop
          refine (AW.out z3 (GL.out z3 HT3.out)).mono ?_
          rintro r z9 ⟨rfl, t⟩
          have HT9 := Lib.hid (HT3.out.trans t (fun _ _ h => h))
          clear t r1 r2 r3
          go_wp2
          go_ret
          exact ⟨rfl, T0.out.trans HT9.out (fun _ _ h => h)⟩
      · have qs : (a.s == b.s) = false := by simp [os]
        rw [show decide (fol a b) = false from decide_eq_false (fun h => os (FOL.out.1 h).2.2.1)] at FAB
        clear oa ob os hI
        go_enter Tryd.func6, Tryd.ntmps6
        go_upto_region 1 with fail
        change Code.wp _ _ _ _ (((w.alloc (.cells LA.toArray 25)).alloc (.cells LB.toArray 25)).alloc (.cells LC.toArray 25))
        rw [← hw0]
        clear hw0
        refine wp_region_rel 71 Stp (.one ?_ :: .one ?_ :: .one ?_ :: .one ?_ :: .one ?_ :: .one ?_ :: .one ?_ :: .one ?_ :: .one ?_ :: .one ?_ :: .one ?_ :: .one ?_ :: .one ?_ :: .one ?_ :: .one undef :: .one undef :: .one undef :: .one undef :: .one undef :: .one undef :: .one ?_ :: .one ?_ :: .one undef :: .one undef :: .one undef :: .one undef :: .one undef :: .one ?_ :: .one ?_ :: .one undef :: .one undef :: .one undef :: .one undef :: .one undef :: .one ?_ :: .one ?_ :: []) (by kernel_rfl) (by kernel_rfl) rfl (by kernel_rfl) Stp.refl Stp.trans trivial ?main
        case main =>
        refine wpR_one (A' := ?_) Stp.refl (by rfl) _ rfl 71 (by rfl) (by rfl) ?_ ?_ ?_
        rotate_left 1
        · simp only [Act.put, List.setIfInBounds_toArray, List.set_cons_zero, List.set_cons_succ]; rfl
        · intro w1 hs hf K hK
          refine cls_load 25 (.tmp 3) rfl (w.heap.size) (0) rfl (LA) _ (fun w4 h2 => (RG.out w4 (HWS.out w4 (Stp.trans _ _ _ hs h2))).1) Tryd.underlying25 rfl ZA.out ?_
          refine hK _ ?_
          simp only [Act.put, List.setIfInBounds_toArray, List.set_cons_zero, List.set_cons_succ]
          rfl
        refine wpR_one (A' := ?_) Stp.refl (by rfl) _ rfl 71 (by rfl) (by rfl) ?_ ?_ ?_
        rotate_left 1
        · simp only [Act.put, List.setIfInBounds_toArray, List.set_cons_zero, List.set_cons_succ]; rfl
        · intro w1 hs hf K hK
          go_big_quiet_op
          apply Exists.intro
          refine ⟨fun w4 h2 => ?_, ?_⟩
          · refine (RA.out w4).mono ?_
            rintro e w3 ⟨rfl, h3⟩
            exact ⟨rfl, Stp.trans _ _ _ h2 h3⟩
          · go_big_quiet_on
            rfl
        iterate 1
          refine wpR_one (A' := ?_) Stp.refl (by rfl) _ rfl 71 (by rfl) (by rfl) ?_ ?_ ?_
          rotate_left 1
          · simp only [Act.put, List.setIfInBounds_toArray, List.set_cons_zero, List.set_cons_succ]; rfl
          · intro w1 hs hf K hK
            go_big_quiet_op
            first
              | go_big_quiet_on
              | (refine ⟨_, fun _ _ => rfl, ?_⟩; go_big_quiet_on)
            rfl
        refine wpR_one (A' := ?_) Stp.refl (by rfl) _ rfl 71 (by rfl) (by rfl) ?_ ?_ ?_
        rotate_left 1
        · simp only [Act.put, List.setIfInBounds_toArray, List.set_cons_zero, List.set_cons_succ]; rfl
        · intro w1 hs hf K hK
          refine cls_load 25 (.tmp 4) rfl (w.heap.size + 1) (0) rfl (LB) _ (fun w4 h2 => (RG.out w4 (HWS.out w4 (Stp.trans _ _ _ hs h2))).2.1) Tryd.underlying25 rfl ZB.out ?_
          refine hK _ ?_
          simp only [Act.put, List.setIfInBounds_toArray, List.set_cons_zero, List.set_cons_succ]
          rfl
        refine wpR_one (A' := ?_) Stp.refl (by rfl) _ rfl 71 (by rfl) (by rfl) ?_ ?_ ?_
        rotate_left 1
        · simp only [Act.put, List.setIfInBounds_toArray, List.set_cons_zero, List.set_cons_succ]; rfl
        · intro w1 hs hf K hK
          go_big_quiet_op
          apply Exists.intro
          refine ⟨fun w4 h2 => ?_, ?_⟩
          · refine (RB.out w4).mono ?_
            rintro e w3 ⟨rfl, h3⟩
            exact ⟨rfl, Stp.trans _ _ _ h2 h3⟩
          · go_big_quiet_on
            rfl
        iterate 2
          refine wpR_one (A' := ?_) Stp.refl (by rfl) _ rfl 71 (by rfl) (by rfl) ?_ ?_ ?_
          rotate_left 1
          · simp only [Act.put, List.setIfInBounds_toArray, List.set_cons_zero, List.set_cons_succ]; rfl
          · intro w1 hs hf K hK
            go_big_quiet_op
            first
              | go_big_quiet_on
              | (refine ⟨_, fun _ _ => rfl, ?_⟩; go_big_quiet_on)
            rfl
        iterate 1
          refine wpR_one (A' := ?_) Stp.refl (by rfl) _ rfl 71 (by rfl) (by rfl) ?_ ?_ ?_
          rotate_left 1
          · simp only [Act.put, List.setIfInBounds_toArray, List.set_cons_zero, List.set_cons_succ]; rfl
          · intro w1 hs hf K hK
            go_big_quiet_op
            first
              | go_big_quiet_on
              | (refine ⟨_, fun _ _ => rfl, ?_⟩; go_big_quiet_on)
            rfl
        refine wpR_one (A' := ?_) Stp.refl (by rfl) _ rfl 71 (by rfl) (by rfl) ?_ ?_ ?_
        rotate_left 1
        · simp only [Act.put, List.setIfInBounds_toArray, List.set_cons_zero, List.set_cons_succ]; rfl
        · intro w1 hs hf K hK
          refine cls_load_cell 3 (.tmp 15) rfl ⟨w.heap.size, 0, none⟩ rfl (.int .i64 a.s) (fun w h => by simp [go_sem, h]) (fun w4 h2 => (RC.out w4 (HWS.out w4 (Stp.trans _ _ _ hs h2))).1.1) ?_
          refine hK _ ?_
          simp only [Act.put, List.setIfInBounds_toArray, List.set_cons_zero, List.set_cons_succ]
          rfl
        iterate 1
          refine wpR_one (A' := ?_) Stp.refl (by rfl) _ rfl 71 (by rfl) (by rfl) ?_ ?_ ?_
          rotate_left 1
          · simp only [Act.put, List.setIfInBounds_toArray, List.set_cons_zero, List.set_cons_succ]; rfl
          · intro w1 hs hf K hK
            go_big_quiet_op
            first
              | go_big_quiet_on
              | (refine ⟨_, fun _ _ => rfl, ?_⟩; go_big_quiet_on)
            rfl
        refine wpR_one (A' := ?_) Stp.refl (by rfl) _ rfl 71 (by rfl) (by rfl) ?_ ?_ ?_
        rotate_left 1
        · simp only [Act.put, List.setIfInBounds_toArray, List.set_cons_zero, List.set_cons_succ]; rfl
        · intro w1 hs hf K hK
          refine cls_load_cell 3 (.tmp 17) rfl ⟨w.heap.size + 1, 0, none⟩ rfl (.int .i64 b.s) (fun w h => by simp [go_sem, h]) (fun w4 h2 => (RC.out w4 (HWS.out w4 (Stp.trans _ _ _ hs h2))).2.1) ?_
          refine hK _ ?_
          simp only [Act.put, List.setIfInBounds_toArray, List.set_cons_zero, List.set_cons_succ]
          rfl
        iterate 1
          refine wpR_one (A' := ?_) Stp.refl (by rfl) _ rfl 71 (by rfl) (by rfl) ?_ ?_ ?_
          rotate_left 1
          · simp only [Act.put, List.setIfInBounds_toArray, List.set_cons_zero, List.set_cons_succ]; rfl
          · intro w1 hs hf K hK
            go_big_quiet_op
            first
              | go_big_quiet_on
              | (refine ⟨_, fun _ _ => rfl, ?_⟩; go_big_quiet_on)
            rfl
        iterate 2
          refine wpR_one (A' := ?_) Stp.refl (by rfl) _ rfl 71 (by rfl) (by rfl) ?_ ?_ ?_
          rotate_left 1
          · simp only [Act.put, List.setIfInBounds_toArray, List.set_cons_zero, List.set_cons_succ]; rfl
          · intro w1 hs hf K hK
            go_big_quiet_op
            first
              | go_big_quiet_on
              | (refine ⟨_, fun _ _ => rfl, ?_⟩; go_big_quiet_on)
            rfl
        iterate 6
          refine wpR_skip (A' := ?_) (by rfl) ?_ ?_
          rotate_left 1
          · simp only [Act.put, List.setIfInBounds_toArray, List.set_cons_zero, List.set_cons_succ]; rfl
        iterate 2
          refine wpR_one (A' := ?_) Stp.refl (by rfl) _ rfl 71 (by rfl) (by rfl) ?_ ?_ ?_
          rotate_left 1
          · simp only [Act.put, List.setIfInBounds_toArray, List.set_cons_zero, List.set_cons_succ]; rfl
          · intro w1 hs hf K hK
            go_big_quiet_op
            first
              | go_big_quiet_on
              | (refine ⟨_, fun _ _ => rfl, ?_⟩; go_big_quiet_on)
            rfl
        iterate 5
          refine wpR_skip (A' := ?_) (by rfl) ?_ ?_
          rotate_left 1
          · simp only [Act.put, List.setIfInBounds_toArray, List.set_cons_zero, List.set_cons_succ]; rfl
        iterate 2
          refine wpR_one (A' := ?_) Stp.refl (by rfl) _ rfl 71 (by rfl) (by rfl) ?_ ?_ ?_
          rotate_left 1
          · simp only [Act.put, List.setIfInBounds_toArray, List.set_cons_zero, List.set_cons_succ]; rfl
          · intro w1 hs hf K hK
            go_big_quiet_op
            first
              | go_big_quiet_on
              | (refine ⟨_, fun _ _ => rfl, ?_⟩; go_big_quiet_on)
            rfl
        iterate 5
          refine wpR_skip (A' := ?_) (by rfl) ?_ ?_
          rotate_left 1
          · simp only [Act.put, List.setIfInBounds_toArray, List.set_cons_zero, List.set_cons_succ]; rfl
        iterate 2
          refine wpR_one (A' := ?_) Stp.refl (by rfl) _ rfl 71 (by rfl) (by rfl) ?_ ?_ ?_
          rotate_left 1
          · simp only [Act.put, List.setIfInBounds_toArray, List.set_cons_zero, List.set_cons_succ]; rfl
          · intro w1 hs hf K hK
            go_big_quiet_op
            first
              | go_big_quiet_on
              | (refine ⟨_, fun _ _ => rfl, ?_⟩; go_big_quiet_on)
            rfl
        intro z1 hs hf
        have HT1 := Lib.hid (HWS.out z1 hs)
        clear hs hf
        obtain ⟨r1, r2, r3⟩ := RF.out z1 HT1.out
        go_wp2_with (go_at_call 22; refine stop ?_)
        unfold Stop
        refine (FAB.out z1 (GL.out z1 HT1.out)).mono ?_
        rintro r z2 ⟨rfl, t⟩
        have HT2 := Lib.hid (HT1.out.trans t (fun _ _ h => h))
        clear t r1 r2 r3
        obtain ⟨r1, r2, r3⟩ := RF.out z2 HT2.out
        go_wp2_with (go_at_call 22; refine stop ?_)
        unfold Stop
        refine (FAA.out z2 (GL.out z2 HT2.out)).mono ?_
        rintro r z3 ⟨rfl, t⟩
        have HT3 := Lib.hid (HT2.out.trans t (fun _ _ h => h))
        clear t r1 r2 r3
        obtain ⟨r1, r2, r3⟩ := RF.out z3 HT3.out
        go_wp2_with (go_at_call 13; refine stop ?_)
        unfold Stop
        refine (AW.out z3 (GL.out z3 HT3.out)).mono ?_
        rintro r z9 ⟨rfl, t⟩
        have HT9 := Lib.hid (HT3.out.trans t (fun _ _ h => h))
        clear t r1 r2 r3
        go_wp2
        go_ret
        exact ⟨rfl, T0.out.trans HT9.out (fun _ _ h => h)⟩
    · rw [decide_eq_false ob] at RB
      rw [show decide (fol a b) = false from decide_eq_false (fun h => ob (FOL.out.1 h).2.1)] at FAB
      clear oa ob hI
      go_enter Tryd.func6, Tryd.ntmps6
      go_upto_region 1 with fail
      change Code.wp _ _ _ _ (((w.alloc (.cells LA.toArray 25)).alloc (.cells LB.toArray 25)).alloc (.cells LC.toArray 25))
      rw [← hw0]
      clear hw0
      refine wp_region_rel 71 Stp (.one ?_ :: .one ?_ :: .one ?_ :: .one ?_ :: .one ?_ :: .one ?_ :: .one ?_ :: .one undef :: .one undef :: .one undef :: .one undef :: .one undef :: .one ?_ :: .one ?_ :: .one undef :: .one undef :: .one undef :: .one undef :: .one undef :: .one undef :: .one ?_ :: .one ?_ :: .one undef :: .one undef :: .one undef :: .one undef :: .one undef :: .one ?_ :: .one ?_ :: .one undef :: .one undef :: .one undef :: .one undef :: .one undef :: .one ?_ :: .one ?_ :: []) (by kernel_rfl) (by kernel_rfl) rfl (by kernel_rfl) Stp.refl Stp.trans trivial ?main
      case main =>
      refine wpR_one (A' := ?_) Stp.refl (by rfl) _ rfl 71 (by rfl) (by rfl) ?_ ?_ ?_
      rotate_left 1
      · simp only [Act.put, List.setIfInBounds_toArray, List.set_cons_zero, List.set_cons_succ]; rfl
      · intro w1 hs hf K hK
        refine cls_load 25 (.tmp 3) rfl (w.heap.size) (0) rfl (LA) _ (fun w4 h2 => (RG.out w4 (HWS.out w4 (Stp.trans _ _ _ hs h2))).1) Tryd.underlying25 rfl ZA.out ?_
        refine hK _ ?_
        simp only [Act.put, List.setIfInBounds_toArray, List.set_cons_zero, List.set_cons_succ]
        rfl
      refine wpR_one (A' := ?_) Stp.refl (by rfl) _ rfl 71 (by rfl) (by rfl) ?_ ?_ ?_
      rotate_left 1
      · simp only [Act.put, List.setIfInBounds_toArray, List.set_cons_zero, List.set_cons_succ]; rfl
      · intro w1 hs hf K hK
        go_big_quiet_op
        apply Exists.intro
        refine ⟨fun w4 h2 => ?_, ?_⟩
        · refine (RA.out w4).mono ?_
          rintro e w3 ⟨rfl, h3⟩
          exact ⟨rfl, Stp.trans _ _ _ h2 h3⟩
        · go_big_quiet_on
          rfl
      iterate 1
        refine wpR_one (A' := ?_) Stp.refl (by rfl) _ rfl 71 (by rfl) (by rfl) ?_ ?_ ?_
        rotate_left 1
        · simp only [Act.put, List.setIfInBounds_toArray, List.set_cons_zero, List.set_cons_succ]; rfl
        · intro w1 hs hf K hK
          go_big_quiet_op
          first
            | go_big_quiet_on
            | (refine ⟨_, fun _ _ => rfl, ?_⟩; go_big_quiet_on)
          rfl
      refine wpR_one (A' := ?_) Stp.refl (by rfl) _ rfl 71 (by rfl) (by rfl) ?_ ?_ ?_
      rotate_left 1
      · simp only [Act.put, List.setIfInBounds_toArray, List.set_cons_zero, List.set_cons_succ]; rfl
      · intro w1 hs hf K hK
        refine cls_load 25 (.tmp 4) rfl (w.heap.size + 1) (0) rfl (LB) _ (fun w4 h2 => (RG.out w4 (HWS.out w4 (Stp.trans _ _ _ hs h2))).2.1) Tryd.underlying25 rfl ZB.out ?_
        refine hK _ ?_
        simp only [Act.put, List.setIfInBounds_toArray, List.set_cons_zero, List.set_cons_succ]
        rfl
      refine wpR_one (A' := ?_) Stp.refl (by rfl) _ rfl 71 (by rfl) (by rfl) ?_ ?_ ?_
      rotate_left 1
      · simp only [Act.put, List.setIfInBounds_toArray, List.set_cons_zero, List.set_cons_succ]; rfl
      · intro w1 hs hf K hK
        go_big_quiet_op
        apply Exists.intro
        refine ⟨fun w4 h2 => ?_, ?_⟩
        · refine (RB.out w4).mono ?_
          rintro e w3 ⟨rfl, h3⟩
          exact ⟨rfl, Stp.trans _ _ _ h2 h3⟩
        · go_big_quiet_on
          rfl
      iterate 2
        refine wpR_one (A' := ?_) Stp.refl (by rfl) _ rfl 71 (by rfl) (by rfl) ?_ ?_ ?_
        rotate_left 1
        · simp only [Act.put, List.setIfInBounds_toArray, List.set_cons_zero, List.set_cons_succ]; rfl
        · intro w1 hs hf K hK
          go_big_quiet_op
          first
            | go_big_quiet_on
            | (refine ⟨_, fun _ _ => rfl, ?_⟩; go_big_quiet_on)
          rfl
      iterate 5
        refine wpR_skip (A' := ?_) (by rfl) ?_ ?_
        rotate_left 1
        · simp only [Act.put, List.setIfInBounds_toArray, List.set_cons_zero, List.set_cons_succ]; rfl
      iterate 2
        refine wpR_one (A' := ?_) Stp.refl (by rfl) _ rfl 71 (by rfl) (by rfl) ?_ ?_ ?_
        rotate_left 1
        · simp only [Act.put, List.setIfInBounds_toArray, List.set_cons_zero, List.set_cons_succ]; rfl
        · intro w1 hs hf K hK
          go_big_quiet_op
          first
            | go_big_quiet_on
            | (refine ⟨_, fun _ _ => rfl, ?_⟩; go_big_quiet_on)
          rfl
      iterate 6
        refine wpR_skip (A' := ?_) (by rfl) ?_ ?_
        rotate_left 1
        · simp only [Act.put, List.setIfInBounds_toArray, List.set_cons_zero, List.set_cons_succ]; rfl
      iterate 2
        refine wpR_one (A' := ?_) Stp.refl (by rfl) _ rfl 71 (by rfl) (by rfl) ?_ ?_ ?_
        rotate_left 1
        · simp only [Act.put, List.setIfInBounds_toArray, List.set_cons_zero, List.set_cons_succ]; rfl
        · intro w1 hs hf K hK
          go_big_quiet_op
          first
            | go_big_quiet_on
            | (refine ⟨_, fun _ _ => rfl, ?_⟩; go_big_quiet_on)
          rfl
      iterate 5
        refine wpR_skip (A' := ?_) (by rfl) ?_ ?_
        rotate_left 1
        · simp only [Act.put, List.setIfInBounds_toArray, List.set_cons_zero, List.set_cons_succ]; rfl
      iterate 2
        refine wpR_one (A' := ?_) Stp.refl (by rfl) _ rfl 71 (by rfl) (by rfl) ?_ ?_ ?_
        rotate_left 1
        · simp only [Act.put, List.setIfInBounds_toArray, List.set_cons_zero, List.set_cons_succ]; rfl
        · intro w1 hs hf K hK
          go_big_quiet_op
          first
            | go_big_quiet_on
            | (refine ⟨_, fun _ _ => rfl, ?_⟩; go_big_quiet_on)
          rfl
      iterate 5
        refine wpR_skip (A' := ?_) (by rfl) ?_ ?_
        rotate_left 1
        · simp only [Act.put, List.setIfInBounds_toArray, List.set_cons_zero, List.set_cons_succ]; rfl
      iterate 2
        refine wpR_one (A' := ?_) Stp.refl (by rfl) _ rfl 71 (by rfl) (by rfl) ?_ ?_ ?_
        rotate_left 1
        · simp only [Act.put, List.setIfInBounds_toArray, List.set_cons_zero, List.set_cons_succ]; rfl
        · intro w1 hs hf K hK
          go_big_quiet_op
          first
            | go_big_quiet_on
            | (refine ⟨_, fun _ _ => rfl, ?_⟩; go_big_quiet_on)
          rfl
      intro z1 hs hf
      have HT1 := Lib.hid (HWS.out z1 hs)
      clear hs hf
      obtain ⟨r1, r2, r3⟩ := RF.out z1 HT1.out
      go_wp2_with (go_at_call 22; refine stop ?_)
      unfold Stop
      refine (FAB.out z1 (GL.out z1 HT1.out)).mono ?_
      rintro r z2 ⟨rfl, t⟩
      have HT2 := Lib.hid (HT1.out.trans t (fun _ _ h => h))
      clear t r1 r2 r3
      obtain ⟨r1, r2, r3⟩ := RF.out z2 HT2.out
      go_wp2_with (go_at_call 22; refine stop ?_)
      unfold Stop
      refine (FAA.out z2 (GL.out z2 HT2.out)).mono ?_
      rintro r z3 ⟨rfl, t⟩
      have HT3 := Lib.hid (HT2.out.trans t (fun _ _ h => h))
      clear t r1 r2 r3
      obtain ⟨r1, r2, r3⟩ := RF.out z3 HT3.out
      go_wp2_with (go_at_call 13; refine stop ?_)
      unfold Stop
      refine (AW.out z3 (GL.out z3 HT3.out)).mono ?_
      rintro r z9 ⟨rfl, t⟩
      have HT9 := Lib.hid (HT3.out.trans t (fun _ _ h => h))
      clear t r1 r2 r3
      go_wp2
      go_ret
      exact ⟨rfl, T0.out.trans HT9.out (fun _ _ h => h)⟩
  · rw [decide_eq_false oa] at RA
    rw [show decide (fol a b) = false from decide_eq_false (fun h => oa (FOL.out.1 h).1)] at FAB
    clear oa hI
    go_enter Tryd.func6, Tryd.ntmps6
    go_upto_region 1 with fail
    change Code.wp _ _ _ _ (((w.alloc (.cells LA.toArray 25)).alloc (.cells LB.toArray 25)).alloc (.cells LC.toArray 25))
    rw [← hw0]
    clear hw0
    refine wp_region_rel 71 Stp (.one ?_ :: .one ?_ :: .one ?_ :: .one undef :: .one undef :: .one ?_ :: .one ?_ :: .one undef :: .one undef :: .one undef :: .one undef :: .one undef :: .one ?_ :: .one ?_ :: .one undef :: .one undef :: .one undef :: .one undef :: .one undef :: .one undef :: .one ?_ :: .one ?_ :: .one undef :: .one undef :: .one undef :: .one undef :: .one undef :: .one ?_ :: .one ?_ :: .one undef :: .one undef :: .one undef :: .one undef :: .one undef :: .one ?_ :: .one ?_ :: []) (by kernel_rfl) (by kernel_rfl) rfl (by kernel_rfl) Stp.refl Stp.trans trivial ?main
    case main =>
    refine wpR_one (A' := ?_) Stp.refl (by rfl) _ rfl 71 (by rfl) (by rfl) ?_ ?_ ?_
    rotate_left 1
    · simp only [Act.put, List.setIfInBounds_toArray, List.set_cons_zero, List.set_cons_succ]; rfl
    · intro w1 hs hf K hK
      refine cls_load 25 (.tmp 3) rfl (w.heap.size) (0) rfl (LA) _ (fun w4 h2 => (RG.out w4 (HWS.out w4 (Stp.trans _ _ _ hs h2))).1) Tryd.underlying25 rfl ZA.out ?_
      refine hK _ ?_
      simp only [Act.put, List.setIfInBounds_toArray, List.set_cons_zero, List.set_cons_succ]
      rfl
    refine wpR_one (A' := ?_) Stp.refl (by rfl) _ rfl 71 (by rfl) (by rfl) ?_ ?_ ?_
    rotate_left 1
    · simp only [Act.put, List.setIfInBounds_toArray, List.set_cons_zero, List.set_cons_succ]; rfl
    · intro w1 hs hf K hK
      go_big_quiet_op
      apply Exists.intro
      refine ⟨fun w4 h2 => ?_, ?_⟩
      · refine (RA.out w4).mono ?_
        rintro e w3 ⟨rfl, h3⟩
        exact ⟨rfl, Stp.trans _ _ _ h2 h3⟩
      · go_big_quiet_on
        rfl
    iterate 1
      refine wpR_one (A' := ?_) Stp.refl (by rfl) _ rfl 71 (by rfl) (by rfl) ?_ ?_ ?_
      rotate_left 1
      · simp only [Act.put, List.setIfInBounds_toArray, List.set_cons_zero, List.set_cons_succ]; rfl
      · intro w1 hs hf K hK
        go_big_quiet_op
        first
          | go_big_quiet_on
          | (refine ⟨_, fun _ _ => rfl, ?_⟩; go_big_quiet_on)
        rfl
    iterate 2
      refine wpR_skip (A' := ?_) (by rfl) ?_ ?_
      rotate_left 1
      · simp only [Act.put, List.setIfInBounds_toArray, List.set_cons_zero, List.set_cons_succ]; rfl
    iterate 2
      refine wpR_one (A' := ?_) Stp.refl (by rfl) _ rfl 71 (by rfl) (by rfl) ?_ ?_ ?_
      rotate_left 1
      · simp only [Act.put, List.setIfInBounds_toArray, List.set_cons_zero, List.set_cons_succ]; rfl
      · intro w1 hs hf K hK
        go_big_quiet_op
        first
          | go_big_quiet_on
          | (refine ⟨_, fun _ _ => rfl, ?_⟩; go_big_quiet_on)
        rfl
    iterate 5
      refine wpR_skip (A' := ?_) (by rfl) ?_ ?_
      rotate_left 1
      · simp only [Act.put, List.setIfInBounds_toArray, List.set_cons_zero, List.set_cons_succ]; rfl
    iterate 2
      refine wpR_one (A' := ?_) Stp.refl (by rfl) _ rfl 71 (by rfl) (by rfl) ?_ ?_ ?_
      rotate_left 1
      · simp only [Act.put, List.setIfInBounds_toArray, List.set_cons_zero, List.set_cons_succ]; rfl
      · intro w1 hs hf K hK
        go_big_quiet_op
        first
          | go_big_quiet_on
          | (refine ⟨_, fun _ _ => rfl, ?_⟩; go_big_quiet_on)
        rfl
    iterate 6
      refine wpR_skip (A' := ?_) (by rfl) ?_ ?_
      rotate_left 1
      · simp only [Act.put, List.setIfInBounds_toArray, List.set_cons_zero, List.set_cons_succ]; rfl
    iterate 2
      refine wpR_one (A' := ?_) Stp.refl (by rfl) _ rfl 71 (by rfl) (by rfl) ?_ ?_ ?_
      rotate_left 1
      · simp only [Act.put, List.setIfInBounds_toArray, List.set_cons_zero, List.set_cons_succ]; rfl
      · intro w1 hs hf K hK
        go_big_quiet_op
        first
          | go_big_quiet_on
          | (refine ⟨_, fun _ _ => rfl, ?_⟩; go_big_quiet_on)
        rfl
    iterate 5
      refine wpR_skip (A' := ?_) (by rfl) ?_ ?_
      rotate_left 1
      · simp only [Act.put, List.setIfInBounds_toArray, List.set_cons_zero, List.set_cons_succ]; rfl
    iterate 2
      refine wpR_one (A' := ?_) Stp.refl (by rfl) _ rfl 71 (by rfl) (by rfl) ?_ ?_ ?_
      rotate_left 1
      · simp only [Act.put, List.setIfInBounds_toArray, List.set_cons_zero, List.set_cons_succ]; rfl
      · intro w1 hs hf K hK
        go_big_quiet_op
        first
          | go_big_quiet_on
          | (refine ⟨_, fun _ _ => rfl, ?_⟩; go_big_quiet_on)
        rfl
    iterate 5
      refine wpR_skip (A' := ?_) (by rfl) ?_ ?_
      rotate_left 1
      · simp only [Act.put, List.setIfInBounds_toArray, List.set_cons_zero, List.set_cons_succ]; rfl
    iterate 2
      refine wpR_one (A' := ?_) Stp.refl (by rfl) _ rfl 71 (by rfl) (by rfl) ?_ ?_ ?_
      rotate_left 1
      · simp only [Act.put, List.setIfInBounds_toArray, List.set_cons_zero, List.set_cons_succ]; rfl
      · intro w1 hs hf K hK
        go_big_quiet_op
        first
          | go_big_quiet_on
          | (refine ⟨_, fun _ _ => rfl, ?_⟩; go_big_quiet_on)
        rfl
    intro z1 hs hf
    have HT1 := Lib.hid (HWS.out z1 hs)
    clear hs hf
    obtain ⟨r1, r2, r3⟩ := RF.out z1 HT1.out
    go_wp2_with (go_at_call 22; refine stop ?_)
    unfold Stop
    refine (FAB.out z1 (GL.out z1 HT1.out)).mono ?_
    rintro r z2 ⟨rfl, t⟩
    have HT2 := Lib.hid (HT1.out.trans t (fun _ _ h => h))
    clear t r1 r2 r3
    obtain ⟨r1, r2, r3⟩ := RF.out z2 HT2.out
    go_wp2_with (go_at_call 22; refine stop ?_)
    unfold Stop
    refine (FAA.out z2 (GL.out z2 HT2.out)).mono ?_
    rintro r z3 ⟨rfl, t⟩
    have HT3 := Lib.hid (HT2.out.trans t (fun _ _ h => h))
    clear t r1 r2 r3
    obtain ⟨r1, r2, r3⟩ := RF.out z3 HT3.out
    go_wp2_with (go_at_call 13; refine stop ?_)
    unfold Stop
    refine (AW.out z3 (GL.out z3 HT3.out)).mono ?_
    rintro r z9 ⟨rfl, t⟩
    have HT9 := Lib.hid (HT3.out.trans t (fun _ _ h => h))
    clear t r1 r2 r3
    go_wp2
    go_ret
    exact ⟨rfl, T0.out.trans HT9.out (fun _ _ h => h)⟩
end Go.Proofs.YtoagneibaincpaaDoor
