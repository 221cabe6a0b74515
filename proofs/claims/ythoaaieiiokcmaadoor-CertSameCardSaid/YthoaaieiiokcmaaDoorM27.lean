/- Merged: CrH, the longer part. -/
import Derived.Test.YthoaaieiiokcmaaDoorM26
namespace Go.Proofs.YthoaaieiiokcmaaDoor
section
set_option linter.unusedVariables false
set_option linter.unusedSimpArgs false
open Go.RowKit
attribute [local go_sem ↓] loadAt_cr loadAt_hd loadAt_en loadAt_id
attribute [local go_sem] run_crLoad run_hdLoad run_enLoad run_idLoad rowOf_drew rowOf_drewN
set_option maxRecDepth 100000 in
set_option maxHeartbeats 4000000 in
theorem certSame_of (AW : ∀ w, Glob w → Calls Tryd.prog 8 #[] w fun r w' => r = .returned (.bool true) ∧ Turn (fun _ => False) w w') (CS : CSame) (x : Crt) (A : Option Addr) (c : Nat) (y : Crt) (A' : Option Addr) (c' : Nat) (w : World) (hx : x.L) (px : CPath w x A c) (mx : x.ids.length ≤ maxLen) (hy : y.L) (py : CPath w y A' c') (my : y.ids.length ≤ maxLen) (hG : Glob w) :
    Calls Tryd.prog 6 #[.agg (x.cells A c).toArray, .agg (y.cells A' c').toArray] w fun r w' => r = .returned (.bool true) ∧ Turn (fun _ => False) w w' := by
  have AW := Lib.hid AW
  have G1 := Lib.hid (fun w px => great_any x A c w hx px)
  have G2 := Lib.hid (fun w py => great_any y A' c' w hy py)
  have S1 := Lib.hid (fun w px py => stp_callC (CS x y A A' c c' w hx hy px py mx my))
  have S2 := Lib.hid (fun w px py => stp_callC (rcsame_any x y A A' c c' w hx hy px py mx my))
  have S3 := fun w px => stp_callC (CS x x A A c c w hx hx px px mx mx)
  simp only [Crt.same_self] at S3
  have S3 := Lib.hid S3
  have rx := fun w b h => cr_row (w := w) (b := b) (x := x) (A := A) (c := c) h hx
  have ry := fun w b h => cr_row (w := w) (b := b) (x := y) (A := A') (c := c') h hy
  have ZC := Lib.hid (show (Tryd.prog.info? 32).map (·.size) = some (x.cells A c).length by rw [Crt.len _ _ _ hx]; exact cr_info)
  have ZD := Lib.hid (show (Tryd.prog.info? 32).map (·.size) = some (y.cells A' c').length by rw [Crt.len _ _ _ hy]; exact cr_info)
  have AW5 := Lib.hid (fun w hG => stp_callC (AW.out w hG))
  unfold CAt at rx ry
  obtain ⟨LC, hC⟩ : ∃ C, C = x.cells A c := ⟨_, rfl⟩
  obtain ⟨LD, hD⟩ : ∃ D, D = y.cells A' c' := ⟨_, rfl⟩
  simp only [← hC, ← hD] at G1 G2 S1 S2 S3 rx ry ZC ZD ⊢
  obtain ⟨w1, hw1⟩ : ∃ w1, w1 = (w.alloc (.cells LC.toArray 32)).alloc (.cells LD.toArray 32) := ⟨_, rfl⟩
  have t1 : Turn (fun _ => False) w w1 := by rw [hw1]; exact ((Turn.refl _ _).alloc _).alloc _
  have e1 : w1.heap[w.heap.size]? = some (.cells LC.toArray 32 (0, 0)) := by rw [hw1]; exact heap_alloc2_old _ _ _
  have e2 : w1.heap[w.heap.size + 1]? = some (.cells LD.toArray 32 (0, 0)) := by rw [hw1]; exact heap_alloc2_new _ _ _
  have RX := Lib.hid (fun (w' : World) (t : Turn (fun _ => False) w1 w') => rx w' _ (t.heap e1 (fun h => h)))
  have RY := Lib.hid (fun (w' : World) (t : Turn (fun _ => False) w1 w') => ry w' _ (t.heap e2 (fun h => h)))
  have RG := Lib.hid (show ∀ w' : World, Turn (fun _ => False) w1 w' → w'.rangeAt w.heap.size 0 LC ∧ w'.rangeAt (w.heap.size + 1) 0 LD from fun w' t => by
    refine ⟨fun j v hj => ?_, fun j v hj => ?_⟩
    · rw [Nat.zero_add, cell_of_row _ _ _ _ _ _ (t.heap e1 (fun h => h)), List.getElem?_toArray]; exact hj
    · rw [Nat.zero_add, cell_of_row _ _ _ _ _ _ (t.heap e2 (fun h => h)), List.getElem?_toArray]; exact hj)
  have PX := Lib.hid (fun (w' : World) (t : Turn (fun _ => False) w1 w') => (px.turn t1).turn t)
  have PY := Lib.hid (fun (w' : World) (t : Turn (fun _ => False) w1 w') => (py.turn t1).turn t)
  have GL := Lib.hid (fun (w' : World) (t : Turn (fun _ => False) w1 w') => show Glob w' from glob_turn (glob_turn hG t1) t)
  have T1 := Lib.hid t1
  have T11 := Lib.hid (Turn.refl (fun _ => False) w1)
  clear t1 e1 e2 rx ry hC hD hG px py mx my hx hy CS
  generalize decide (40 < x.ids.length) = ga at *
  generalize decide (40 < y.ids.length) = gb at *
  generalize decide (x.same y) = sm at *
  go_enter Tryd.func6, Tryd.ntmps6
  go_upto_region 1 with fail
  change Code.wp _ _ _ _ ((w.alloc (.cells LC.toArray 32)).alloc (.cells LD.toArray 32))
  rw [← hw1]
  clear hw1
  have f1 := RX.out w1 T11.out
  go_wp2_with (go_at_call 7; refine stop ?_)
  unfold Stop
  refine (G1.out w1 (PX.out w1 T11.out)).mono ?_
  rintro r w2 ⟨rfl, t2⟩
  clear f1
  have T2 := Lib.hid t2
  clear t2
  cases ga with
  | true =>
    go_wp2_with (go_at_call 8; refine stop ?_)
    unfold Stop
    refine (AW.out w2 (GL.out w2 T2.out)).mono ?_
    rintro r w3 ⟨rfl, t3⟩
    have T3 := Lib.hid t3
    clear t3
    go_wp2
    go_ret
    exact ⟨rfl, (T1.out.trans T2.out (fun _ _ h => h)).trans T3.out (fun _ _ h => h)⟩
  | false =>
    have f2 := RY.out w2 T2.out
    go_wp2_with (go_at_call 7; refine stop ?_)
    unfold Stop
    refine (G2.out w2 (PY.out w2 T2.out)).mono ?_
    rintro r w3 ⟨rfl, t3⟩
    clear f2
    have T3 := Lib.hid (T2.out.trans t3 (fun _ _ h => h))
    clear t3
    cases gb with
    | true =>
      go_wp2_with (go_at_call 8; refine stop ?_)
      unfold Stop
      refine (AW.out w3 (GL.out w3 T3.out)).mono ?_
      rintro r w4 ⟨rfl, t4⟩
      have T4 := Lib.hid t4
      clear t4
      go_wp2
      go_ret
      exact ⟨rfl, (T1.out.trans T3.out (fun _ _ h => h)).trans T4.out (fun _ _ h => h)⟩
    | false =>
      go_upto_region 3 with fail
      have HW := Lib.hid (fun (w' : World) (h : Stp w3.drew w') => show Turn (fun _ => False) w1 w' from T3.out.trans (Turn.of_below (stp_start h (Below.refl _ _))) (fun _ _ h => h))
      cases sm with
      | true =>
        refine wp_region_rel 27 Stp [.one ?_, .one ?_, .one ?_, .one ?_, .one ?_, .one ?_, .one ?_, .one ?_, .one ?_, .one ?_, .one ?_, .one ?_, .one ?_, .one ?_, .one ?_, .one ?_] (by kernel_rfl) (by kernel_rfl) rfl (by kernel_rfl) Stp.refl Stp.trans trivial ?main
        case main =>
        refine wpR_one (A' := ?_) Stp.refl (by rfl) _ rfl 27 (by rfl) (by rfl) ?_ ?_ ?_
        rotate_left 1
        · simp only [Act.put, List.setIfInBounds_toArray, List.set_cons_zero, List.set_cons_succ]; rfl
        · intro w1 hs hf K hK
          refine cls_load 32 (.tmp 2) rfl (w.heap.size) (0) rfl (LC) _ (fun w4 h2 => (RG.out w4 (HW.out w4 (Stp.trans _ _ _ hs h2))).1) Tryd.underlying32 rfl ZC.out ?_
          refine hK _ ?_
          simp only [Act.put, List.setIfInBounds_toArray, List.set_cons_zero, List.set_cons_succ]
          rfl
        refine wpR_one (A' := ?_) Stp.refl (by rfl) _ rfl 27 (by rfl) (by rfl) ?_ ?_ ?_
        rotate_left 1
        · simp only [Act.put, List.setIfInBounds_toArray, List.set_cons_zero, List.set_cons_succ]; rfl
        · intro w1 hs hf K hK
          refine cls_load 32 (.tmp 3) rfl (w.heap.size + 1) (0) rfl (LD) _ (fun w4 h2 => (RG.out w4 (HW.out w4 (Stp.trans _ _ _ hs h2))).2) Tryd.underlying32 rfl ZD.out ?_
          refine hK _ ?_
          simp only [Act.put, List.setIfInBounds_toArray, List.set_cons_zero, List.set_cons_succ]
          rfl
        refine wpR_one (A' := ?_) Stp.refl (by rfl) _ rfl 27 (by rfl) (by rfl) ?_ ?_ ?_
        rotate_left 1
        · simp only [Act.put, List.setIfInBounds_toArray, List.set_cons_zero, List.set_cons_succ]; rfl
        · intro w1 hs hf K hK
          go_big_quiet_op
          apply Exists.intro
          refine ⟨fun w4 h2 => ?_, ?_⟩
          · refine (S1.out w4 (PX.out w4 (HW.out w4 (Stp.trans _ _ _ hs h2))) (PY.out w4 (HW.out w4 (Stp.trans _ _ _ hs h2)))).mono ?_
            rintro e w3 ⟨rfl, h3⟩
            exact ⟨rfl, Stp.trans _ _ _ h2 h3⟩
          · go_big_quiet_on
            rfl
        refine wpR_one (A' := ?_) Stp.refl (by rfl) _ rfl 27 (by rfl) (by rfl) ?_ ?_ ?_
        rotate_left 1
        · simp only [Act.put, List.setIfInBounds_toArray, List.set_cons_zero, List.set_cons_succ]; rfl
        · intro w1 hs hf K hK
          refine cls_load 32 (.tmp 2) rfl (w.heap.size) (0) rfl (LC) _ (fun w4 h2 => (RG.out w4 (HW.out w4 (Stp.trans _ _ _ hs h2))).1) Tryd.underlying32 rfl ZC.out ?_
          refine hK _ ?_
          simp only [Act.put, List.setIfInBounds_toArray, List.set_cons_zero, List.set_cons_succ]
          rfl
        refine wpR_one (A' := ?_) Stp.refl (by rfl) _ rfl 27 (by rfl) (by rfl) ?_ ?_ ?_
        rotate_left 1
        · simp only [Act.put, List.setIfInBounds_toArray, List.set_cons_zero, List.set_cons_succ]; rfl
        · intro w1 hs hf K hK
          refine cls_load 32 (.tmp 3) rfl (w.heap.size + 1) (0) rfl (LD) _ (fun w4 h2 => (RG.out w4 (HW.out w4 (Stp.trans _ _ _ hs h2))).2) Tryd.underlying32 rfl ZD.out ?_
          refine hK _ ?_
          simp only [Act.put, List.setIfInBounds_toArray, List.set_cons_zero, List.set_cons_succ]
          rfl
        refine wpR_one (A' := ?_) Stp.refl (by rfl) _ rfl 27 (by rfl) (by rfl) ?_ ?_ ?_
        rotate_left 1
        · simp only [Act.put, List.setIfInBounds_toArray, List.set_cons_zero, List.set_cons_succ]; rfl
        · intro w1 hs hf K hK
          go_big_quiet_op
          apply Exists.intro
          refine ⟨fun w4 h2 => ?_, ?_⟩
          · refine (S2.out w4 (PX.out w4 (HW.out w4 (Stp.trans _ _ _ hs h2))) (PY.out w4 (HW.out w4 (Stp.trans _ _ _ hs h2)))).mono ?_
            rintro e w3 ⟨rfl, h3⟩
            exact ⟨rfl, Stp.trans _ _ _ h2 h3⟩
          · go_big_quiet_on
            rfl
        iterate 2
          refine wpR_one (A' := ?_) Stp.refl (by rfl) _ rfl 27 (by rfl) (by rfl) ?_ ?_ ?_
          rotate_left 1
          · simp only [Act.put, List.setIfInBounds_toArray, List.set_cons_zero, List.set_cons_succ]; rfl
          · intro w1 hs hf K hK
            go_big_quiet_op
            first
              | go_big_quiet_on
              | (refine ⟨_, fun _ _ => rfl, ?_⟩; go_big_quiet_on)
            rfl
        refine wpR_one (A' := ?_) Stp.refl (by rfl) _ rfl 27 (by rfl) (by rfl) ?_ ?_ ?_
        rotate_left 1
        · simp only [Act.put, List.setIfInBounds_toArray, List.set_cons_zero, List.set_cons_succ]; rfl
        · intro w1 hs hf K hK
          refine cls_load 32 (.tmp 2) rfl (w.heap.size) (0) rfl (LC) _ (fun w4 h2 => (RG.out w4 (HW.out w4 (Stp.trans _ _ _ hs h2))).1) Tryd.underlying32 rfl ZC.out ?_
          refine hK _ ?_
          simp only [Act.put, List.setIfInBounds_toArray, List.set_cons_zero, List.set_cons_succ]
          rfl
        refine wpR_one (A' := ?_) Stp.refl (by rfl) _ rfl 27 (by rfl) (by rfl) ?_ ?_ ?_
        rotate_left 1
        · simp only [Act.put, List.setIfInBounds_toArray, List.set_cons_zero, List.set_cons_succ]; rfl
        · intro w1 hs hf K hK
          refine cls_load 32 (.tmp 2) rfl (w.heap.size) (0) rfl (LC) _ (fun w4 h2 => (RG.out w4 (HW.out w4 (Stp.trans _ _ _ hs h2))).1) Tryd.underlying32 rfl ZC.out ?_
          refine hK _ ?_
          simp only [Act.put, List.setIfInBounds_toArray, List.set_cons_zero, List.set_cons_succ]
          rfl
        refine wpR_one (A' := ?_) Stp.refl (by rfl) _ rfl 27 (by rfl) (by rfl) ?_ ?_ ?_
        rotate_left 1
        · simp only [Act.put, List.setIfInBounds_toArray, List.set_cons_zero, List.set_cons_succ]; rfl
        · intro w1 hs hf K hK
          go_big_quiet_op
          apply Exists.intro
          refine ⟨fun w4 h2 => ?_, ?_⟩
          · refine (S3.out w4 (PX.out w4 (HW.out w4 (Stp.trans _ _ _ hs h2)))).mono ?_
            rintro e w3 ⟨rfl, h3⟩
            exact ⟨rfl, Stp.trans _ _ _ h2 h3⟩
          · go_big_quiet_on
            rfl
        iterate 2
          refine wpR_one (A' := ?_) Stp.refl (by rfl) _ rfl 27 (by rfl) (by rfl) ?_ ?_ ?_
          rotate_left 1
          · simp only [Act.put, List.setIfInBounds_toArray, List.set_cons_zero, List.set_cons_succ]; rfl
          · intro w1 hs hf K hK
            go_big_quiet_op
            first
              | go_big_quiet_on
              | (refine ⟨_, fun _ _ => rfl, ?_⟩; go_big_quiet_on)
            rfl
        refine wpR_one (A' := ?_) Stp.refl (by rfl) _ rfl 27 (by rfl) (by rfl) ?_ ?_ ?_
        rotate_left 1
        · simp only [Act.put, List.setIfInBounds_toArray, List.set_cons_zero, List.set_cons_succ]; rfl
        · intro w1 hs hf K hK
          go_big_quiet_op
          apply Exists.intro
          refine ⟨fun w4 h2 => ?_, ?_⟩
          · refine (AW5.out w4 (GL.out w4 (HW.out w4 (Stp.trans _ _ _ hs h2)))).mono ?_
            rintro e w3 ⟨rfl, h3⟩
            exact ⟨rfl, Stp.trans _ _ _ h2 h3⟩
          · go_big_quiet_on
            rfl
        iterate 2
          refine wpR_one (A' := ?_) Stp.refl (by rfl) _ rfl 27 (by rfl) (by rfl) ?_ ?_ ?_
          rotate_left 1
          · simp only [Act.put, List.setIfInBounds_toArray, List.set_cons_zero, List.set_cons_succ]; rfl
          · intro w1 hs hf K hK
            go_big_quiet_op
            first
              | go_big_quiet_on
              | (refine ⟨_, fun _ _ => rfl, ?_⟩; go_big_quiet_on)
            rfl
        intro z5 hs hf
        have HT5 := Lib.hid (HW.out z5 hs)
        clear hs hf
        go_wp2
        go_ret
        exact ⟨rfl, T1.out.trans HT5.out (fun _ _ h => h)⟩
      | false =>
        refine wp_region_rel 27 Stp [.one ?_, .one ?_, .one ?_, .one ?_, .one ?_, .one ?_, .one ?_, .one ?_, .one ?_, .one ?_, .one ?_, .one ?_, .one ?_, .one ?_, .one ?_, .one ?_] (by kernel_rfl) (by kernel_rfl) rfl (by kernel_rfl) Stp.refl Stp.trans trivial ?main
        case main =>
        refine wpR_one (A' := ?_) Stp.refl (by rfl) _ rfl 27 (by rfl) (by rfl) ?_ ?_ ?_
        rotate_left 1
        · simp only [Act.put, List.setIfInBounds_toArray, List.set_cons_zero, List.set_cons_succ]; rfl
        · intro w1 hs hf K hK
          refine cls_load 32 (.tmp 2) rfl (w.heap.size) (0) rfl (LC) _ (fun w4 h2 => (RG.out w4 (HW.out w4 (Stp.trans _ _ _ hs h2))).1) Tryd.underlying32 rfl ZC.out ?_
          refine hK _ ?_
          simp only [Act.put, List.setIfInBounds_toArray, List.set_cons_zero, List.set_cons_succ]
          rfl
        refine wpR_one (A' := ?_) Stp.refl (by rfl) _ rfl 27 (by rfl) (by rfl) ?_ ?_ ?_
        rotate_left 1
        · simp only [Act.put, List.setIfInBounds_toArray, List.set_cons_zero, List.set_cons_succ]; rfl
        · intro w1 hs hf K hK
          refine cls_load 32 (.tmp 3) rfl (w.heap.size + 1) (0) rfl (LD) _ (fun w4 h2 => (RG.out w4 (HW.out w4 (Stp.trans _ _ _ hs h2))).2) Tryd.underlying32 rfl ZD.out ?_
          refine hK _ ?_
          simp only [Act.put, List.setIfInBounds_toArray, List.set_cons_zero, List.set_cons_succ]
          rfl
        refine wpR_one (A' := ?_) Stp.refl (by rfl) _ rfl 27 (by rfl) (by rfl) ?_ ?_ ?_
        rotate_left 1
        · simp only [Act.put, List.setIfInBounds_toArray, List.set_cons_zero, List.set_cons_succ]; rfl
        · intro w1 hs hf K hK
          go_big_quiet_op
          apply Exists.intro
          refine ⟨fun w4 h2 => ?_, ?_⟩
          · refine (S1.out w4 (PX.out w4 (HW.out w4 (Stp.trans _ _ _ hs h2))) (PY.out w4 (HW.out w4 (Stp.trans _ _ _ hs h2)))).mono ?_
            rintro e w3 ⟨rfl, h3⟩
            exact ⟨rfl, Stp.trans _ _ _ h2 h3⟩
          · go_big_quiet_on
            rfl
        refine wpR_one (A' := ?_) Stp.refl (by rfl) _ rfl 27 (by rfl) (by rfl) ?_ ?_ ?_
        rotate_left 1
        · simp only [Act.put, List.setIfInBounds_toArray, List.set_cons_zero, List.set_cons_succ]; rfl
        · intro w1 hs hf K hK
          refine cls_load 32 (.tmp 2) rfl (w.heap.size) (0) rfl (LC) _ (fun w4 h2 => (RG.out w4 (HW.out w4 (Stp.trans _ _ _ hs h2))).1) Tryd.underlying32 rfl ZC.out ?_
          refine hK _ ?_
          simp only [Act.put, List.setIfInBounds_toArray, List.set_cons_zero, List.set_cons_succ]
          rfl
        refine wpR_one (A' := ?_) Stp.refl (by rfl) _ rfl 27 (by rfl) (by rfl) ?_ ?_ ?_
        rotate_left 1
        · simp only [Act.put, List.setIfInBounds_toArray, List.set_cons_zero, List.set_cons_succ]; rfl
        · intro w1 hs hf K hK
          refine cls_load 32 (.tmp 3) rfl (w.heap.size + 1) (0) rfl (LD) _ (fun w4 h2 => (RG.out w4 (HW.out w4 (Stp.trans _ _ _ hs h2))).2) Tryd.underlying32 rfl ZD.out ?_
          refine hK _ ?_
          simp only [Act.put, List.setIfInBounds_toArray, List.set_cons_zero, List.set_cons_succ]
          rfl
        refine wpR_one (A' := ?_) Stp.refl (by rfl) _ rfl 27 (by rfl) (by rfl) ?_ ?_ ?_
        rotate_left 1
        · simp only [Act.put, List.setIfInBounds_toArray, List.set_cons_zero, List.set_cons_succ]; rfl
        · intro w1 hs hf K hK
          go_big_quiet_op
          apply Exists.intro
          refine ⟨fun w4 h2 => ?_, ?_⟩
          · refine (S2.out w4 (PX.out w4 (HW.out w4 (Stp.trans _ _ _ hs h2))) (PY.out w4 (HW.out w4 (Stp.trans _ _ _ hs h2)))).mono ?_
            rintro e w3 ⟨rfl, h3⟩
            exact ⟨rfl, Stp.trans _ _ _ h2 h3⟩
          · go_big_quiet_on
            rfl
        iterate 2
          refine wpR_one (A' := ?_) Stp.refl (by rfl) _ rfl 27 (by rfl) (by rfl) ?_ ?_ ?_
          rotate_left 1
          · simp only [Act.put, List.setIfInBounds_toArray, List.set_cons_zero, List.set_cons_succ]; rfl
          · intro w1 hs hf K hK
            go_big_quiet_op
            first
              | go_big_quiet_on
              | (refine ⟨_, fun _ _ => rfl, ?_⟩; go_big_quiet_on)
            rfl
        refine wpR_one (A' := ?_) Stp.refl (by rfl) _ rfl 27 (by rfl) (by rfl) ?_ ?_ ?_
        rotate_left 1
        · simp only [Act.put, List.setIfInBounds_toArray, List.set_cons_zero, List.set_cons_succ]; rfl
        · intro w1 hs hf K hK
          refine cls_load 32 (.tmp 2) rfl (w.heap.size) (0) rfl (LC) _ (fun w4 h2 => (RG.out w4 (HW.out w4 (Stp.trans _ _ _ hs h2))).1) Tryd.underlying32 rfl ZC.out ?_
          refine hK _ ?_
          simp only [Act.put, List.setIfInBounds_toArray, List.set_cons_zero, List.set_cons_succ]
          rfl
        refine wpR_one (A' := ?_) Stp.refl (by rfl) _ rfl 27 (by rfl) (by rfl) ?_ ?_ ?_
        rotate_left 1
        · simp only [Act.put, List.setIfInBounds_toArray, List.set_cons_zero, List.set_cons_succ]; rfl
        · intro w1 hs hf K hK
          refine cls_load 32 (.tmp 2) rfl (w.heap.size) (0) rfl (LC) _ (fun w4 h2 => (RG.out w4 (HW.out w4 (Stp.trans _ _ _ hs h2))).1) Tryd.underlying32 rfl ZC.out ?_
          refine hK _ ?_
          simp only [Act.put, List.setIfInBounds_toArray, List.set_cons_zero, List.set_cons_succ]
          rfl
        refine wpR_one (A' := ?_) Stp.refl (by rfl) _ rfl 27 (by rfl) (by rfl) ?_ ?_ ?_
        rotate_left 1
        · simp only [Act.put, List.setIfInBounds_toArray, List.set_cons_zero, List.set_cons_succ]; rfl
        · intro w1 hs hf K hK
          go_big_quiet_op
          apply Exists.intro
          refine ⟨fun w4 h2 => ?_, ?_⟩
          · refine (S3.out w4 (PX.out w4 (HW.out w4 (Stp.trans _ _ _ hs h2)))).mono ?_
            rintro e w3 ⟨rfl, h3⟩
            exact ⟨rfl, Stp.trans _ _ _ h2 h3⟩
          · go_big_quiet_on
            rfl
        iterate 2
          refine wpR_one (A' := ?_) Stp.refl (by rfl) _ rfl 27 (by rfl) (by rfl) ?_ ?_ ?_
          rotate_left 1
          · simp only [Act.put, List.setIfInBounds_toArray, List.set_cons_zero, List.set_cons_succ]; rfl
          · intro w1 hs hf K hK
            go_big_quiet_op
            first
              | go_big_quiet_on
              | (refine ⟨_, fun _ _ => rfl, ?_⟩; go_big_quiet_on)
            rfl
        refine wpR_one (A' := ?_) Stp.refl (by rfl) _ rfl 27 (by rfl) (by rfl) ?_ ?_ ?_
        rotate_left 1
        · simp only [Act.put, List.setIfInBounds_toArray, List.set_cons_zero, List.set_cons_succ]; rfl
        · intro w1 hs hf K hK
          go_big_quiet_op
          apply Exists.intro
          refine ⟨fun w4 h2 => ?_, ?_⟩
          · refine (AW5.out w4 (GL.out w4 (HW.out w4 (Stp.trans _ _ _ hs h2)))).mono ?_
            rintro e w3 ⟨rfl, h3⟩
            exact ⟨rfl, Stp.trans _ _ _ h2 h3⟩
          · go_big_quiet_on
            rfl
        iterate 2
          refine wpR_one (A' := ?_) Stp.refl (by rfl) _ rfl 27 (by rfl) (by rfl) ?_ ?_ ?_
          rotate_left 1
          · simp only [Act.put, List.setIfInBounds_toArray, List.set_cons_zero, List.set_cons_succ]; rfl
          · intro w1 hs hf K hK
            go_big_quiet_op
            first
              | go_big_quiet_on
              | (refine ⟨_, fun _ _ => rfl, ?_⟩; go_big_quiet_on)
            rfl
        intro z5 hs hf
        have HT5 := Lib.hid (HW.out z5 hs)
        clear hs hf
        go_wp2
        go_ret
        exact ⟨rfl, T1.out.trans HT5.out (fun _ _ h => h)⟩
end
end Go.Proofs.YthoaaieiiokcmaaDoor
