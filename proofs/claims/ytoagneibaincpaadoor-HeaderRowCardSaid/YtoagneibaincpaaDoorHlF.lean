/- 'HeaderForms' and 'HeaderReads': their walks, over what 'awake' comes to. -/
import Derived.Test.YtoagneibaincpaaDoorHcX
import Derived.Test.YtoagneibaincpaaDoorCls
set_option linter.unusedVariables false
set_option linter.unusedSimpArgs false
namespace Go.Proofs.YtoagneibaincpaaDoor
open Go.RowKit
attribute [local go_sem ↓] loadAt_hd loadAt_id
attribute [local go_sem] run_hdLoad run_idLoad rowOf_drew rowOf_drewN
set_option maxRecDepth 100000 in
/-- A block that holds these cells, in each world behind. -/
theorem row67_at {w w' : World} {b : Nat} {C : Array Value} {t : TypeId} (h : w.heap[b]? = some (.cells C t (0, 0))) (hC : C.size = 67) (k : Turn (fun _ => False) w w') : rowOf w' b 0 67 = some C := by
  have e : C = C.toList.toArray := by simp
  have g := k.heap h (fun h => h)
  rw [e] at g ⊢
  have := rowOf_block g 0 67 (by simp; omega)
  rw [List.drop_zero, List.take_of_length_le (by simp; omega)] at this
  exact this
theorem stp_call {f : FuncId} {args : Array Value} {w : World} {v : Value} (h : Calls Tryd.prog f args w fun r w' => r = .returned v ∧ Turn (fun _ => False) w w') : Calls Tryd.prog f args w fun r w' => r = .returned v ∧ Below w.heap.size w w' := h.mono fun _ _ ⟨h1, h2⟩ => ⟨h1, turn_stp' h2⟩
set_option maxRecDepth 100000 in
set_option maxHeartbeats 8000000 in
theorem headerForms_of (AW : ∀ w, Glob w → Calls Tryd.prog 13 #[] w fun r w' => r = .returned (.bool true) ∧ Turn (fun _ => False) w w') (e : Hdr) (w : World) (hd : e.L) (hG : Glob w) :
    Calls Tryd.prog 3 #[.agg e.cells.toArray] w fun r w' => r = .returned (.bool true) ∧ Turn (fun _ => False) w w' := by
  have AW := Lib.hid AW
  have TP := Lib.hid (fun w => hput_any e w hd)
  have TQ := Lib.hid (fun w => stp_call (hrright_any e w hd))
  have TR := Lib.hid (fun w => stp_call (hright_any e w hd))
  have TI := Lib.hid (fun w hG => stp_call (hcid_any e w hd hG))
  have TJ := Lib.hid (fun w => stp_call (hrid_any e w hd))
  have TU := Lib.hid (fun w h => hrput_any e w hd h)
  have hQ := fun w => eql_in_hdr e e hd hd w
  rw [show decide (e = e) = true from decide_eq_true rfl] at hQ
  have FR := Lib.hid (fun h => hform_read e hd h)
  have FL := Lib.hid (fun h => formH_le e hd h)
  have hI := fun w => eq_id (hid e) (hid e) (hid_len e) (hid_len e) w
  rw [show decide (hid e = hid e) = true from decide_eq_true rfl] at hI
  obtain ⟨D, hD⟩ : ∃ D, D = ((hid e).map bv).toArray := ⟨_, rfl⟩
  rw [← hD] at hI TI TJ
  obtain ⟨LC, hLC⟩ : ∃ L, L = e.cells := ⟨_, rfl⟩
  have FC := Lib.hid hLC
  rw [← hLC] at TP TQ TR TI TJ TU hQ ⊢
  obtain ⟨w0, hw0⟩ : ∃ w0, w0 = w.alloc (.cells LC.toArray 25) := ⟨_, rfl⟩
  have t0 : Turn (fun _ => False) w w0 := by rw [hw0]; exact (Turn.refl _ _).alloc _
  have g0 : w0.heap[w.heap.size]? = some (.cells LC.toArray 25 (0, 0)) := by rw [hw0]; exact heap_alloc_new _ _
  have sC : LC.length = 67 := by rw [hLC, Hdr.len _ hd]
  have RF := Lib.hid (show ∀ w' : World, Turn (fun _ => False) w0 w' → rowOf w' w.heap.size 0 67 = some LC.toArray from fun w' t => row67_at g0 (by simp [sC]) t)
  have RG := Lib.hid (show ∀ w' : World, Turn (fun _ => False) w0 w' → w'.rangeAt w.heap.size 0 LC from fun w' t j v hj => by
    rw [Nat.zero_add, cell_of_row _ _ _ _ _ _ (t.heap g0 (fun h => h)), List.getElem?_toArray]; exact hj)
  have GL := Lib.hid (fun (w' : World) (t : Turn (fun _ => False) w0 w') => show Glob w' from glob_turn (glob_turn hG t0) t)
  have ZX := Lib.hid (show (Tryd.prog.info? 25).map (·.size) = some LC.length by rw [sC]; exact hd_info)
  have K1 := Lib.hid (show (Tryd.prog.info? 25).map (·.size) = some LC.toArray.size by rw [List.size_toArray, sC]; exact hd_info)
  have K2 := Lib.hid (show Z67H.size = LC.toArray.size from (show Z67H.size = 67 from rfl).trans (by rw [List.size_toArray, sC]))
  have K3 := Lib.hid (show LC.toArray.all (·.oneCell') = true by rw [hLC]; exact Hdr.one _)
  have HSC := Lib.hid (show LC.toArray.size = 67 by simp [sC])
  have hzd := hd_zero
  have HT0 := Lib.hid (Turn.refl (fun _ => False) w0)
  have T0 := Lib.hid t0
  clear t0 g0 hLC sC hd hG hD
  by_cases hok : okH e
  · rw [decide_eq_true hok, show pH e = formH e from if_pos hok] at TP
    rw [decide_eq_true hok] at TQ TR
    obtain ⟨F, hF⟩ : ∃ F, F = formH e := ⟨_, rfl⟩
    have hfl := FL.out hok
    have TU := Lib.hid (fun w => TU.out w hok)
    obtain ⟨r1, r2⟩ := FR.out hok
    rw [← hF] at TP hfl TU r1 r2
    have RD := Lib.hid (fun (A : Option Addr) (c : Nat) (w' : World) (hs : Sl w' w'.heap.size A (F.map bv)) (hA : A = none → c = 0) (hc : F.length ≤ c) => hread_any A c F w' hs hA hc (by omega))
    rw [r1, r2, ← FC.out] at RD
    have HBY := Lib.hid (fun (X Y : Option Addr) (m n : Nat) (w' : World) (hx : Sl w' w'.heap.size X (F.map bv)) (hy : Sl w' w'.heap.size Y (F.map bv)) => show Calls Tryd.prog 15 #[.slice X F.length m, .slice Y F.length n] w' (fun e w'' => e = Ending.returned (.bool true) ∧ Turn (fun _ => False) w' w'') from (rbytes_any X Y m n _ _ F F w' hx hy (by unfold maxLen; omega) (by unfold maxLen; omega)).mono (fun e w'' ⟨h1, n, h2⟩ => ⟨by rw [h1]; simp, by rw [h2]; exact ⟨rfl, rfl, rfl, Nat.le_refl _, fun _ _ _ => rfl⟩⟩))
    clear r1 r2 hF hok FR FL FC
    go_enter Tryd.func3, Tryd.ntmps3
    go_upto_region 1 with fail
    change Code.wp _ _ _ _ (w.alloc (.cells LC.toArray 25))
    rw [← hw0]
    clear hw0
    have hr := RF.out w0 HT0.out
    go_wp2_with (go_at_call 8; refine stop ?_)
    unfold Stop
    refine (TP.out w0).mono ?_
    rintro r z1 ⟨u, rfl, ho, t⟩
    have HT1 := Lib.hid (HT0.out.trans t (fun _ _ h => h))
    obtain ⟨A1, k1, rfl, s1, -, hc1, ha1⟩ := own_sl ho
    have S1 := Lib.hid s1
    have HA1 := Lib.hid ha1
    clear ho s1 ha1 t hr
    go_upto_region 2 with fail
    have HWS := Lib.hid (fun (w' : World) (h : Stp z1.drew w') => show Turn (fun _ => False) z1 w' from Turn.of_below (stp_start h (Below.refl _ _)))
    have HW0 := Lib.hid (fun (w' : World) (h : Stp z1.drew w') => show Turn (fun _ => False) w0 w' from HT1.out.trans (HWS.out w' h) (fun _ _ h => h))
    refine wp_region_rel 58 Stp [.one ?_, .one ?_, .one ?_, .one ?_, .one ?_, .one ?_, .one ?_, .one ?_, .one ?_, .one ?_, .one ?_, .one ?_, .one ?_, .one ?_, .one ?_, .one ?_, .one ?_] (by kernel_rfl) (by kernel_rfl) rfl (by kernel_rfl) Stp.refl Stp.trans trivial ?main
    case main =>
    iterate 1
      refine wpR_one (A' := ?_) Stp.refl (by rfl) _ rfl 58 (by rfl) (by rfl) ?_ ?_ ?_
      rotate_left 1
      · simp only [Act.put, List.setIfInBounds_toArray, List.set_cons_zero, List.set_cons_succ]; rfl
      · intro w1 hs hf K hK
        go_big_quiet_op
        first
          | go_big_quiet_on
          | (refine ⟨_, fun _ _ => rfl, ?_⟩; go_big_quiet_on)
        rfl
    refine wpR_one (A' := ?_) Stp.refl (by rfl) _ rfl 58 (by rfl) (by rfl) ?_ ?_ ?_
    rotate_left 1
    · simp only [Act.put, List.setIfInBounds_toArray, List.set_cons_zero, List.set_cons_succ]; rfl
    · intro w1 hs hf K hK
      refine cls_load 25 (.tmp 1) rfl (w.heap.size) (0) rfl (LC) _ (fun w4 h2 => RG.out w4 (HW0.out w4 (Stp.trans _ _ _ hs h2))) Tryd.underlying25 rfl ZX.out ?_
      refine hK _ ?_
      simp only [Act.put, List.setIfInBounds_toArray, List.set_cons_zero, List.set_cons_succ]
      rfl
    refine wpR_one (A' := ?_) Stp.refl (by rfl) _ rfl 58 (by rfl) (by rfl) ?_ ?_ ?_
    rotate_left 1
    · simp only [Act.put, List.setIfInBounds_toArray, List.set_cons_zero, List.set_cons_succ]; rfl
    · intro w1 hs hf K hK
      go_big_quiet_op
      apply Exists.intro
      refine ⟨fun w4 h2 => ?_, ?_⟩
      · refine (TQ.out w4).mono ?_
        rintro e w3 ⟨rfl, h3⟩
        exact ⟨rfl, Stp.trans _ _ _ h2 h3⟩
      · go_big_quiet_on
        rfl
    iterate 2
      refine wpR_one (A' := ?_) Stp.refl (by rfl) _ rfl 58 (by rfl) (by rfl) ?_ ?_ ?_
      rotate_left 1
      · simp only [Act.put, List.setIfInBounds_toArray, List.set_cons_zero, List.set_cons_succ]; rfl
      · intro w1 hs hf K hK
        go_big_quiet_op
        first
          | go_big_quiet_on
          | (refine ⟨_, fun _ _ => rfl, ?_⟩; go_big_quiet_on)
        rfl
    refine wpR_one (A' := ?_) Stp.refl (by rfl) _ rfl 58 (by rfl) (by rfl) ?_ ?_ ?_
    rotate_left 1
    · simp only [Act.put, List.setIfInBounds_toArray, List.set_cons_zero, List.set_cons_succ]; rfl
    · intro w1 hs hf K hK
      refine cls_load 25 (.tmp 1) rfl (w.heap.size) (0) rfl (LC) _ (fun w4 h2 => RG.out w4 (HW0.out w4 (Stp.trans _ _ _ hs h2))) Tryd.underlying25 rfl ZX.out ?_
      refine hK _ ?_
      simp only [Act.put, List.setIfInBounds_toArray, List.set_cons_zero, List.set_cons_succ]
      rfl
    refine wpR_one (A' := ?_) Stp.refl (by rfl) _ rfl 58 (by rfl) (by rfl) ?_ ?_ ?_
    rotate_left 1
    · simp only [Act.put, List.setIfInBounds_toArray, List.set_cons_zero, List.set_cons_succ]; rfl
    · intro w1 hs hf K hK
      go_big_quiet_op
      apply Exists.intro
      refine ⟨fun w4 h2 => ?_, ?_⟩
      · refine (TR.out w4).mono ?_
        rintro e w3 ⟨rfl, h3⟩
        exact ⟨rfl, Stp.trans _ _ _ h2 h3⟩
      · go_big_quiet_on
        rfl
    iterate 4
      refine wpR_one (A' := ?_) Stp.refl (by rfl) _ rfl 58 (by rfl) (by rfl) ?_ ?_ ?_
      rotate_left 1
      · simp only [Act.put, List.setIfInBounds_toArray, List.set_cons_zero, List.set_cons_succ]; rfl
      · intro w1 hs hf K hK
        go_big_quiet_op
        first
          | go_big_quiet_on
          | (refine ⟨_, fun _ _ => rfl, ?_⟩; go_big_quiet_on)
        rfl
    refine wpR_one (A' := ?_) Stp.refl (by rfl) _ rfl 58 (by rfl) (by rfl) ?_ ?_ ?_
    rotate_left 1
    · simp only [Act.put, List.setIfInBounds_toArray, List.set_cons_zero, List.set_cons_succ]; rfl
    · intro w1 hs hf K hK
      refine cls_load 25 (.tmp 1) rfl (w.heap.size) (0) rfl (LC) _ (fun w4 h2 => RG.out w4 (HW0.out w4 (Stp.trans _ _ _ hs h2))) Tryd.underlying25 rfl ZX.out ?_
      refine hK _ ?_
      simp only [Act.put, List.setIfInBounds_toArray, List.set_cons_zero, List.set_cons_succ]
      rfl
    refine wpR_one (A' := ?_) Stp.refl (by rfl) _ rfl 58 (by rfl) (by rfl) ?_ ?_ ?_
    rotate_left 1
    · simp only [Act.put, List.setIfInBounds_toArray, List.set_cons_zero, List.set_cons_succ]; rfl
    · intro w1 hs hf K hK
      go_big_quiet_op
      apply Exists.intro
      refine ⟨fun w4 h2 => ?_, ?_⟩
      · refine (TI.out w4 (GL.out w4 (HW0.out w4 (Stp.trans _ _ _ hs h2)))).mono ?_
        rintro e w3 ⟨rfl, h3⟩
        exact ⟨rfl, Stp.trans _ _ _ h2 h3⟩
      · go_big_quiet_on
        rfl
    refine wpR_one (A' := ?_) Stp.refl (by rfl) _ rfl 58 (by rfl) (by rfl) ?_ ?_ ?_
    rotate_left 1
    · simp only [Act.put, List.setIfInBounds_toArray, List.set_cons_zero, List.set_cons_succ]; rfl
    · intro w1 hs hf K hK
      refine cls_load 25 (.tmp 1) rfl (w.heap.size) (0) rfl (LC) _ (fun w4 h2 => RG.out w4 (HW0.out w4 (Stp.trans _ _ _ hs h2))) Tryd.underlying25 rfl ZX.out ?_
      refine hK _ ?_
      simp only [Act.put, List.setIfInBounds_toArray, List.set_cons_zero, List.set_cons_succ]
      rfl
    refine wpR_one (A' := ?_) Stp.refl (by rfl) _ rfl 58 (by rfl) (by rfl) ?_ ?_ ?_
    rotate_left 1
    · simp only [Act.put, List.setIfInBounds_toArray, List.set_cons_zero, List.set_cons_succ]; rfl
    · intro w1 hs hf K hK
      go_big_quiet_op
      apply Exists.intro
      refine ⟨fun w4 h2 => ?_, ?_⟩
      · refine (TJ.out w4).mono ?_
        rintro e w3 ⟨rfl, h3⟩
        exact ⟨rfl, Stp.trans _ _ _ h2 h3⟩
      · go_big_quiet_on
        rfl
    iterate 2
      refine wpR_one (A' := ?_) Stp.refl (by rfl) _ rfl 58 (by rfl) (by rfl) ?_ ?_ ?_
      rotate_left 1
      · simp only [Act.put, List.setIfInBounds_toArray, List.set_cons_zero, List.set_cons_succ]; rfl
      · intro w1 hs hf K hK
        go_big_quiet_op
        first
          | go_big_quiet_on
          | (refine ⟨_, fun _ _ => rfl, ?_⟩; go_big_quiet_on)
        rfl
    intro z5 hs hf
    have HT5 := Lib.hid (HW0.out z5 hs)
    have S5 := Lib.hid (((HWS.out z5 hs).sl S1.out (fun _ _ h => h)).more (HWS.out z5 hs).size)
    clear hs hf S1
    go_wp2_with (go_at_call 14; refine stop ?_)
    unfold Stop
    refine (RD.out A1 k1 z5 S5.out HA1.out hc1).mono ?_
    rintro r z6 ⟨rfl, t⟩
    have HT6 := Lib.hid (HT5.out.trans t (fun _ _ h => h))
    have S6 := Lib.hid ((t.sl S5.out (fun _ _ h => h)).more t.size)
    clear t
    have HA := Lib.hid (show (z6.alloc (.cells Z67H 25)).heap[z6.heap.size]? = some (.cells Z67H 25 (0, 0)) from heap_alloc_new _ _)
    go_upto_region 7 with (refine wpList_store_row rfl _ _ _ rfl z6.heap.size LC.toArray rfl rfl 25 Z67H HA.out K1.out K2.out K3.out ?_)
    have t7 : Turn (fun _ => False) z6 ((z6.alloc (.cells Z67H 25)).setRow z6.heap.size LC.toArray) := ((Turn.refl (fun _ => False) z6).alloc _).setRow _ _ (fun h => by omega)
    have r7 := setRow_heap (z6.alloc (.cells Z67H 25)) z6.heap.size Z67H LC.toArray 25 (0, 0) HA.out
    obtain ⟨z7, hz7⟩ : ∃ z, z = (z6.alloc (.cells Z67H 25)).setRow z6.heap.size LC.toArray := ⟨_, rfl⟩
    change Code.wp _ _ _ _ ((z6.alloc (.cells Z67H 25)).setRow z6.heap.size LC.toArray)
    rw [← hz7] at t7 r7 ⊢
    clear hz7
    have HT7 := Lib.hid (HT6.out.trans t7 (fun _ _ h => h))
    have S7 := Lib.hid ((t7.sl S6.out (fun _ _ h => h)).more t7.size)
    have R7 := Lib.hid r7
    clear t7 r7
    generalize z6.heap.size = p6 at *
    have hr := RF.out z7 HT7.out
    go_wp2_with (go_at_call 16; refine stop ?_)
    unfold Stop
    refine (TU.out z7).mono ?_
    rintro r z8 ⟨u8, rfl, ho, t⟩
    obtain ⟨A8, k8, rfl, s8, -, -, -⟩ := own_sl ho
    have S8 := Lib.hid s8
    have S78 := Lib.hid ((t.sl S7.out (fun _ _ h => h)).more t.size)
    have HT78 := Lib.hid t
    have HT8 := Lib.hid (HT7.out.trans t (fun _ _ h => h))
    clear ho s8 t hr
    go_wp2_with (go_at_call 15; refine stop ?_)
    unfold Stop
    refine (HBY.out A1 A8 k1 k8 z8 S78.out S8.out).mono ?_
    rintro r z9 ⟨rfl, t⟩
    have HT79 := Lib.hid (HT78.out.trans t (fun _ _ h => h))
    have HT9 := Lib.hid (HT8.out.trans t (fun _ _ h => h))
    clear t
    have hr := RF.out z9 HT9.out
    have hr2 := row67_at R7.out HSC.out HT79.out
    go_wp2_with (go_at_call 13; refine stop ?_)
    unfold Stop
    refine (AW.out z9 (GL.out z9 HT9.out)).mono ?_
    rintro r z10 ⟨rfl, t⟩
    have HT10 := Lib.hid (HT9.out.trans t (fun _ _ h => h))
    clear t hr hr2
    go_wp2
    go_ret
    exact ⟨rfl, T0.out.trans HT10.out (fun _ _ h => h)⟩
  · rw [decide_eq_false hok, show pH e = [] from if_neg hok] at TP
    rw [decide_eq_false hok] at TQ TR
    clear hok FR FL FC TU
    go_enter Tryd.func3, Tryd.ntmps3
    go_upto_region 1 with fail
    change Code.wp _ _ _ _ (w.alloc (.cells LC.toArray 25))
    rw [← hw0]
    clear hw0
    have hr := RF.out w0 HT0.out
    go_wp2_with (go_at_call 8; refine stop ?_)
    unfold Stop
    refine (TP.out w0).mono ?_
    rintro r z1 ⟨u, rfl, ho, t⟩
    have HT1 := Lib.hid (HT0.out.trans t (fun _ _ h => h))
    obtain ⟨A1, k1, rfl, s1, -, hc1, ha1⟩ := own_sl ho
    have S1 := Lib.hid s1
    have HA1 := Lib.hid ha1
    clear ho s1 ha1 t hr
    go_upto_region 2 with fail
    have HWS := Lib.hid (fun (w' : World) (h : Stp z1.drew w') => show Turn (fun _ => False) z1 w' from Turn.of_below (stp_start h (Below.refl _ _)))
    have HW0 := Lib.hid (fun (w' : World) (h : Stp z1.drew w') => show Turn (fun _ => False) w0 w' from HT1.out.trans (HWS.out w' h) (fun _ _ h => h))
    refine wp_region_rel 58 Stp [.one ?_, .one ?_, .one ?_, .one ?_, .one ?_, .one ?_, .one ?_, .one ?_, .one ?_, .one ?_, .one ?_, .one ?_, .one ?_, .one ?_, .one ?_, .one ?_, .one ?_] (by kernel_rfl) (by kernel_rfl) rfl (by kernel_rfl) Stp.refl Stp.trans trivial ?main
    case main =>
    iterate 1
      refine wpR_one (A' := ?_) Stp.refl (by rfl) _ rfl 58 (by rfl) (by rfl) ?_ ?_ ?_
      rotate_left 1
      · simp only [Act.put, List.setIfInBounds_toArray, List.set_cons_zero, List.set_cons_succ]; rfl
      · intro w1 hs hf K hK
        go_big_quiet_op
        first
          | go_big_quiet_on
          | (refine ⟨_, fun _ _ => rfl, ?_⟩; go_big_quiet_on)
        rfl
    refine wpR_one (A' := ?_) Stp.refl (by rfl) _ rfl 58 (by rfl) (by rfl) ?_ ?_ ?_
    rotate_left 1
    · simp only [Act.put, List.setIfInBounds_toArray, List.set_cons_zero, List.set_cons_succ]; rfl
    · intro w1 hs hf K hK
      refine cls_load 25 (.tmp 1) rfl (w.heap.size) (0) rfl (LC) _ (fun w4 h2 => RG.out w4 (HW0.out w4 (Stp.trans _ _ _ hs h2))) Tryd.underlying25 rfl ZX.out ?_
      refine hK _ ?_
      simp only [Act.put, List.setIfInBounds_toArray, List.set_cons_zero, List.set_cons_succ]
      rfl
    refine wpR_one (A' := ?_) Stp.refl (by rfl) _ rfl 58 (by rfl) (by rfl) ?_ ?_ ?_
    rotate_left 1
    · simp only [Act.put, List.setIfInBounds_toArray, List.set_cons_zero, List.set_cons_succ]; rfl
    · intro w1 hs hf K hK
      go_big_quiet_op
      apply Exists.intro
      refine ⟨fun w4 h2 => ?_, ?_⟩
      · refine (TQ.out w4).mono ?_
        rintro e w3 ⟨rfl, h3⟩
        exact ⟨rfl, Stp.trans _ _ _ h2 h3⟩
      · go_big_quiet_on
        rfl
    iterate 2
      refine wpR_one (A' := ?_) Stp.refl (by rfl) _ rfl 58 (by rfl) (by rfl) ?_ ?_ ?_
      rotate_left 1
      · simp only [Act.put, List.setIfInBounds_toArray, List.set_cons_zero, List.set_cons_succ]; rfl
      · intro w1 hs hf K hK
        go_big_quiet_op
        first
          | go_big_quiet_on
          | (refine ⟨_, fun _ _ => rfl, ?_⟩; go_big_quiet_on)
        rfl
    refine wpR_one (A' := ?_) Stp.refl (by rfl) _ rfl 58 (by rfl) (by rfl) ?_ ?_ ?_
    rotate_left 1
    · simp only [Act.put, List.setIfInBounds_toArray, List.set_cons_zero, List.set_cons_succ]; rfl
    · intro w1 hs hf K hK
      refine cls_load 25 (.tmp 1) rfl (w.heap.size) (0) rfl (LC) _ (fun w4 h2 => RG.out w4 (HW0.out w4 (Stp.trans _ _ _ hs h2))) Tryd.underlying25 rfl ZX.out ?_
      refine hK _ ?_
      simp only [Act.put, List.setIfInBounds_toArray, List.set_cons_zero, List.set_cons_succ]
      rfl
    refine wpR_one (A' := ?_) Stp.refl (by rfl) _ rfl 58 (by rfl) (by rfl) ?_ ?_ ?_
    rotate_left 1
    · simp only [Act.put, List.setIfInBounds_toArray, List.set_cons_zero, List.set_cons_succ]; rfl
    · intro w1 hs hf K hK
      go_big_quiet_op
      apply Exists.intro
      refine ⟨fun w4 h2 => ?_, ?_⟩
      · refine (TR.out w4).mono ?_
        rintro e w3 ⟨rfl, h3⟩
        exact ⟨rfl, Stp.trans _ _ _ h2 h3⟩
      · go_big_quiet_on
        rfl
    iterate 4
      refine wpR_one (A' := ?_) Stp.refl (by rfl) _ rfl 58 (by rfl) (by rfl) ?_ ?_ ?_
      rotate_left 1
      · simp only [Act.put, List.setIfInBounds_toArray, List.set_cons_zero, List.set_cons_succ]; rfl
      · intro w1 hs hf K hK
        go_big_quiet_op
        first
          | go_big_quiet_on
          | (refine ⟨_, fun _ _ => rfl, ?_⟩; go_big_quiet_on)
        rfl
    refine wpR_one (A' := ?_) Stp.refl (by rfl) _ rfl 58 (by rfl) (by rfl) ?_ ?_ ?_
    rotate_left 1
    · simp only [Act.put, List.setIfInBounds_toArray, List.set_cons_zero, List.set_cons_succ]; rfl
    · intro w1 hs hf K hK
      refine cls_load 25 (.tmp 1) rfl (w.heap.size) (0) rfl (LC) _ (fun w4 h2 => RG.out w4 (HW0.out w4 (Stp.trans _ _ _ hs h2))) Tryd.underlying25 rfl ZX.out ?_
      refine hK _ ?_
      simp only [Act.put, List.setIfInBounds_toArray, List.set_cons_zero, List.set_cons_succ]
      rfl
    refine wpR_one (A' := ?_) Stp.refl (by rfl) _ rfl 58 (by rfl) (by rfl) ?_ ?_ ?_
    rotate_left 1
    · simp only [Act.put, List.setIfInBounds_toArray, List.set_cons_zero, List.set_cons_succ]; rfl
    · intro w1 hs hf K hK
      go_big_quiet_op
      apply Exists.intro
      refine ⟨fun w4 h2 => ?_, ?_⟩
      · refine (TI.out w4 (GL.out w4 (HW0.out w4 (Stp.trans _ _ _ hs h2)))).mono ?_
        rintro e w3 ⟨rfl, h3⟩
        exact ⟨rfl, Stp.trans _ _ _ h2 h3⟩
      · go_big_quiet_on
        rfl
    refine wpR_one (A' := ?_) Stp.refl (by rfl) _ rfl 58 (by rfl) (by rfl) ?_ ?_ ?_
    rotate_left 1
    · simp only [Act.put, List.setIfInBounds_toArray, List.set_cons_zero, List.set_cons_succ]; rfl
    · intro w1 hs hf K hK
      refine cls_load 25 (.tmp 1) rfl (w.heap.size) (0) rfl (LC) _ (fun w4 h2 => RG.out w4 (HW0.out w4 (Stp.trans _ _ _ hs h2))) Tryd.underlying25 rfl ZX.out ?_
      refine hK _ ?_
      simp only [Act.put, List.setIfInBounds_toArray, List.set_cons_zero, List.set_cons_succ]
      rfl
    refine wpR_one (A' := ?_) Stp.refl (by rfl) _ rfl 58 (by rfl) (by rfl) ?_ ?_ ?_
    rotate_left 1
    · simp only [Act.put, List.setIfInBounds_toArray, List.set_cons_zero, List.set_cons_succ]; rfl
    · intro w1 hs hf K hK
      go_big_quiet_op
      apply Exists.intro
      refine ⟨fun w4 h2 => ?_, ?_⟩
      · refine (TJ.out w4).mono ?_
        rintro e w3 ⟨rfl, h3⟩
        exact ⟨rfl, Stp.trans _ _ _ h2 h3⟩
      · go_big_quiet_on
        rfl
    iterate 2
      refine wpR_one (A' := ?_) Stp.refl (by rfl) _ rfl 58 (by rfl) (by rfl) ?_ ?_ ?_
      rotate_left 1
      · simp only [Act.put, List.setIfInBounds_toArray, List.set_cons_zero, List.set_cons_succ]; rfl
      · intro w1 hs hf K hK
        go_big_quiet_op
        first
          | go_big_quiet_on
          | (refine ⟨_, fun _ _ => rfl, ?_⟩; go_big_quiet_on)
        rfl
    intro z5 hs hf
    have HT5 := Lib.hid (HW0.out z5 hs)
    have S5 := Lib.hid (((HWS.out z5 hs).sl S1.out (fun _ _ h => h)).more (HWS.out z5 hs).size)
    clear hs hf S1
    go_wp2_with (go_at_call 13; refine stop ?_)
    unfold Stop
    refine (AW.out z5 (GL.out z5 HT5.out)).mono ?_
    rintro r z10 ⟨rfl, t⟩
    have HT10 := Lib.hid (HT5.out.trans t (fun _ _ h => h))
    clear t
    go_wp2
    go_ret
    exact ⟨rfl, T0.out.trans HT10.out (fun _ _ h => h)⟩
end Go.Proofs.YtoagneibaincpaaDoor
