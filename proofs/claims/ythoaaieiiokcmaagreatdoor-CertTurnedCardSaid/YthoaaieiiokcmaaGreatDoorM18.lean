/- Merged: Merged: 'ifRight' and 'behind': their contracts. 'Leaves': its contract. 'Next': its contract. 'Follows': its contract. -/
import Derived.Test.YthoaaieiiokcmaaGreatDoorM17
namespace Go.Proofs.YthoaaieiiokcmaaGreatDoor
section

section
set_option linter.unusedVariables false
set_option linter.unusedSimpArgs false

open Go.RowKit
attribute [local go_sem ↓] loadAt_hd loadAt_id
attribute [local go_sem] run_hdLoad run_idLoad rowOf_drew rowOf_drewN
/-- A header, if it is right. -/
def ifV (e : Hdr) : Hdr := if okH e then e else HZ
theorem ifV_L {e : Hdr} (h : e.L) : (ifV e).L := by
  unfold ifV
  split
  · exact h
  · exact HZ_L
set_option maxRecDepth 100000 in
set_option maxHeartbeats 4000000 in
theorem hifRight_any (e : Hdr) (w : World) (hd : e.L) : Calls Tryz.prog 43 #[.agg e.cells.toArray] w fun r w' => r = .returned (.tuple #[.agg (ifV e).cells.toArray, .bool (decide (okH e))]) ∧ Turn (fun _ => False) w w' := by
  have TR := Lib.hid (fun w => hright_any e w hd)
  have HV := Lib.hid (show ifV e = if okH e then e else HZ from rfl)
  obtain ⟨C, hC⟩ : ∃ C, C = e.cells.toArray := ⟨_, rfl⟩
  obtain ⟨V, hV⟩ : ∃ V, V = (ifV e).cells.toArray := ⟨_, rfl⟩
  rw [← hC] at TR
  rw [← hC, ← hV]
  have HCV := Lib.hid (And.intro hC hV)
  obtain ⟨w1, hw1⟩ : ∃ w1, w1 = (w.alloc (.cells C 33)).alloc (.cells Z67H 33) := ⟨_, rfl⟩
  have t1 : Turn (fun _ => False) w w1 := by rw [hw1]; exact ((Turn.refl _ _).alloc _).alloc _
  have e1 : HAt w1 w.heap.size e := by rw [hw1, hC]; exact heap_alloc2_old _ _ _
  have z1 : w1.heap[w.heap.size + 1]? = some (.cells Z67H 33 (0, 0)) := by rw [hw1]; exact heap_alloc2_new _ _ _
  have RF := Lib.hid (show ∀ w' : World, Turn (fun _ => False) w1 w' → rowOf w' w.heap.size 0 67 = some C from fun w' t => by rw [hC]; exact (e1.turn t (fun h => h)).row hd)
  have sV : V.size = 67 := by rw [hV, List.size_toArray, Hdr.len _ (ifV_L hd)]
  have K1 := Lib.hid (show (Tryz.prog.info? 33).map (·.size) = some V.size by rw [sV]; exact hd_info)
  have K2 := Lib.hid (show Z67H.size = V.size by rw [sV]; rfl)
  have K3 := Lib.hid (show V.all (·.oneCell') = true by rw [hV]; exact Hdr.one _)
  have HSV := Lib.hid sV
  have T1 := Lib.hid t1
  have Z1 := Lib.hid z1
  have hzd := hd_zero
  clear t1 e1 z1 hC hV sV hd
  by_cases hok : okH e
  · rw [decide_eq_true hok] at TR ⊢
    have hv := HV.out
    rw [if_pos hok] at hv
    have HVC := Lib.hid (show V = C by rw [HCV.out.1, HCV.out.2, hv])
    clear hok hv HV HCV
    go_enter Tryz.func43, Tryz.ntmps43
    go_upto_region 1 with fail
    change Code.wp _ _ _ _ ((w.alloc (.cells C 33)).alloc (.cells Z67H 33))
    rw [← hw1]
    clear hw1
    have r1 := RF.out w1 (Turn.refl _ _)
    go_wp2_with (go_at_call 44; refine stop ?_)
    unfold Stop
    refine (TR.out w1).mono ?_
    rintro r w2 ⟨rfl, t⟩
    have T2 := Lib.hid t
    clear t r1
    have r2 := RF.out w2 T2.out
    rw [← HVC.out] at r2
    have Z9 := Lib.hid (T2.out.heap Z1.out (fun h => h))
    go_wp2_with (refine wpList_store_row rfl _ _ _ rfl (w.heap.size + 1) V rfl rfl 33 Z67H Z9.out K1.out K2.out K3.out ?_)
    have h3 := setRow_heap w2 (w.heap.size + 1) Z67H V 33 (0, 0) Z9.out
    refine bodyPost_ret (v := .tuple #[.agg V, .bool true]) ?_ rfl ⟨rfl, (T1.out.trans T2.out (fun _ _ h => h)).trans ((Turn.refl (fun i => i = w.heap.size + 1) _).setRow _ _ (fun _ => rfl)) (fun i hi h => by have h' : i = w.heap.size + 1 := h; omega)⟩
    exact results_hd Tryz.results43 _ _ (w.heap.size + 1) _ _ rfl rfl h3 HSV.out
  · rw [decide_eq_false hok] at TR ⊢
    have hv := HV.out
    rw [if_neg hok] at hv
    have HVC := Lib.hid (show V = Z67H by rw [HCV.out.2, hv, HZ_eq])
    clear hok hv HV HCV
    go_enter Tryz.func43, Tryz.ntmps43
    go_upto_region 1 with fail
    change Code.wp _ _ _ _ ((w.alloc (.cells C 33)).alloc (.cells Z67H 33))
    rw [← hw1]
    clear hw1
    have r1 := RF.out w1 (Turn.refl _ _)
    go_wp2_with (go_at_call 44; refine stop ?_)
    unfold Stop
    refine (TR.out w1).mono ?_
    rintro r w2 ⟨rfl, t⟩
    have T2 := Lib.hid t
    clear t r1
    have Z9 := Lib.hid (T2.out.heap Z1.out (fun h => h))
    go_wp2_with (refine wpList_store_row rfl _ _ _ rfl (w.heap.size + 1) V rfl (by rw [HVC.out]; rfl) 33 Z67H Z9.out K1.out K2.out K3.out ?_)
    have h3 := setRow_heap w2 (w.heap.size + 1) Z67H V 33 (0, 0) Z9.out
    refine bodyPost_ret (v := .tuple #[.agg V, .bool false]) ?_ rfl ⟨rfl, (T1.out.trans T2.out (fun _ _ h => h)).trans ((Turn.refl (fun i => i = w.heap.size + 1) _).setRow _ _ (fun _ => rfl)) (fun i hi h => by have h' : i = w.heap.size + 1 := h; omega)⟩
    exact results_hd Tryz.results43 _ _ (w.heap.size + 1) _ _ rfl rfl h3 HSV.out
/-- What stands behind a header. -/
def bhd (e : Hdr) (p : Int) (r : List B8) : Hdr := ⟨e.s, e.t + 1, p, hid e, r⟩
theorem bhd_L (e : Hdr) (p : Int) (r : List B8) (hr : r.length = 32) : (bhd e p r).L := ⟨hid_len e, hr⟩
set_option maxRecDepth 100000 in
theorem built_b64 (x0 x1 x2 x3 x4 x5 x6 x7 x8 x9 x10 x11 x12 x13 x14 x15 x16 x17 x18 x19 x20 x21 x22 x23 x24 x25 x26 x27 x28 x29 x30 x31 x32 x33 x34 x35 x36 x37 x38 x39 x40 x41 x42 x43 x44 x45 x46 x47 x48 x49 x50 x51 x52 x53 x54 x55 x56 x57 x58 x59 x60 x61 x62 x63 : Value) (s t p : Int) : Tryz.prog.built 33 [(0, .int .i64 s), (1, .int .i64 t), (2, .int .i64 p), (3, .agg #[x0, x1, x2, x3, x4, x5, x6, x7, x8, x9, x10, x11, x12, x13, x14, x15, x16, x17, x18, x19, x20, x21, x22, x23, x24, x25, x26, x27, x28, x29, x30, x31]), (4, .agg #[x32, x33, x34, x35, x36, x37, x38, x39, x40, x41, x42, x43, x44, x45, x46, x47, x48, x49, x50, x51, x52, x53, x54, x55, x56, x57, x58, x59, x60, x61, x62, x63])] = some #[.int .i64 s, .int .i64 t, .int .i64 p, x0, x1, x2, x3, x4, x5, x6, x7, x8, x9, x10, x11, x12, x13, x14, x15, x16, x17, x18, x19, x20, x21, x22, x23, x24, x25, x26, x27, x28, x29, x30, x31, x32, x33, x34, x35, x36, x37, x38, x39, x40, x41, x42, x43, x44, x45, x46, x47, x48, x49, x50, x51, x52, x53, x54, x55, x56, x57, x58, x59, x60, x61, x62, x63] := by kernel_rfl
set_option maxRecDepth 100000 in
theorem built_b (d l : List Value) (s t p : Int) (hd : d.length = 32) (h : l.length = 32) : Tryz.prog.built 33 [(0, .int .i64 s), (1, .int .i64 t), (2, .int .i64 p), (3, .agg d.toArray), (4, .agg l.toArray)] = some ([Value.int .i64 s, .int .i64 t, .int .i64 p] ++ (d ++ l)).toArray := by
  match d, hd with
  | [x0, x1, x2, x3, x4, x5, x6, x7, x8, x9, x10, x11, x12, x13, x14, x15, x16, x17, x18, x19, x20, x21, x22, x23, x24, x25, x26, x27, x28, x29, x30, x31], _ =>
    match l, h with
    | [x32, x33, x34, x35, x36, x37, x38, x39, x40, x41, x42, x43, x44, x45, x46, x47, x48, x49, x50, x51, x52, x53, x54, x55, x56, x57, x58, x59, x60, x61, x62, x63], _ => exact built_b64 x0 x1 x2 x3 x4 x5 x6 x7 x8 x9 x10 x11 x12 x13 x14 x15 x16 x17 x18 x19 x20 x21 x22 x23 x24 x25 x26 x27 x28 x29 x30 x31 x32 x33 x34 x35 x36 x37 x38 x39 x40 x41 x42 x43 x44 x45 x46 x47 x48 x49 x50 x51 x52 x53 x54 x55 x56 x57 x58 x59 x60 x61 x62 x63 s t p
theorem cls_build {P : Program} {C : World → Prop} {o : Oper} {a : Act} {K : Act → Prop} (ty : TypeId) (parts : Array (Nat × Operand)) (ho : o.op = .build ty parts) (cs : Array Value) (hf' : P.built ty (parts.toList.map fun p => (p.1, a.eval p.2)) = some cs) (hK : K (a.put o.dst (.agg cs))) : o.quiet P a C K :=
  cls_cell (.agg cs) (fun w _ => by
    have hf : P.built ty (parts.map fun (i, x) => (i, a.eval x)).toList = some cs := by rw [Array.toList_map]; exact hf'
    unfold execOp
    simp only [ho, Sem.run_bind, run_build w ty _ cs hf, Result.andThen_ok]
    rfl) hK
theorem stp_c {f : FuncId} {args : Array Value} {w : World} {v : Value} (h : Calls Tryz.prog f args w fun r w' => r = .returned v ∧ Turn (fun _ => False) w w') : Calls Tryz.prog f args w fun r w' => r = .returned v ∧ Below w.heap.size w w' := h.mono fun _ _ ⟨h1, h2⟩ => ⟨h1, turn_stp' h2⟩
set_option maxRecDepth 100000 in
set_option maxHeartbeats 4000000 in
theorem hbehind_any (e : Hdr) (p : Int) (r : List B8) (w : World) (hd : e.L) (hr : r.length = 32) (hok : okH e) (hG : Glob w) : Calls Tryz.prog 45 #[.agg e.cells.toArray, .int .i64 p, .agg (r.map bv).toArray] w fun q w' => q = .returned (.agg (bhd e p r).cells.toArray) ∧ Turn (fun _ => False) w w' := by
  have IA := Lib.hid (fun w hG => stp_c (hcid_any e w hd hG))
  have ht : -1 ≤ e.t ∧ e.t ≤ 1099511627776 := by unfold okH at hok; omega
  obtain ⟨DA, hDA⟩ : ∃ D, D = ((hid e).map bv).toArray := ⟨_, rfl⟩
  rw [← hDA] at IA
  obtain ⟨C, hC⟩ : ∃ C, C = e.cells := ⟨_, rfl⟩
  rw [← hC] at IA ⊢
  obtain ⟨R, hR⟩ : ∃ R, R = r.map bv := ⟨_, rfl⟩
  rw [← hR]
  have sR : R.length = 32 := by rw [hR, List.length_map, hr]
  have sC : C.length = 67 := by rw [hC, Hdr.len _ hd]
  obtain ⟨V, hV⟩ : ∃ V, V = (bhd e p r).cells.toArray := ⟨_, rfl⟩
  rw [← hV]
  have HB := Lib.hid (show Tryz.prog.built 33 [(0, .int .i64 e.s), (1, .int .i64 (e.t + 1)), (2, .int .i64 p), (3, .agg DA), (4, .agg R.toArray)] = some V by
    rw [hDA, hR, hV, built_b _ _ _ _ _ (by rw [List.length_map]; exact hid_len e) (by rw [List.length_map]; exact hr)]
    rfl)
  have sV : V.size = 67 := by rw [hV, List.size_toArray, Hdr.len _ (bhd_L e p r hr)]
  have K1 := Lib.hid (show (Tryz.prog.info? 33).map (·.size) = some V.size by rw [sV]; exact hd_info)
  have K2 := Lib.hid (show Z67H.size = V.size by rw [sV]; rfl)
  have K3 := Lib.hid (show V.all (·.oneCell') = true by rw [hV]; exact Hdr.one _)
  obtain ⟨w1, hw1⟩ : ∃ w1, w1 = ((w.alloc (.cells C.toArray 33)).alloc (.cells R.toArray 24)).alloc (.cells Z67H 33) := ⟨_, rfl⟩
  have t1 : Turn (fun _ => False) w w1 := by rw [hw1]; exact (((Turn.refl _ _).alloc _).alloc _).alloc _
  have g0 : w1.heap[w.heap.size]? = some (.cells C.toArray 33 (0, 0)) := by rw [hw1, Below.heap_alloc _ _ _ (by simp; omega)]; exact heap_alloc2_old w _ _
  have g1 : w1.heap[w.heap.size + 1]? = some (.cells R.toArray 24 (0, 0)) := by rw [hw1, Below.heap_alloc _ _ _ (by simp)]; exact heap_alloc2_new w _ _
  have g2 : w1.heap[w.heap.size + 2]? = some (.cells Z67H 33 (0, 0)) := by
    have := heap_alloc_new ((w.alloc (.cells C.toArray 33)).alloc (.cells R.toArray 24)) (.cells Z67H 33)
    rw [← hw1] at this
    simpa using this
  have RG := Lib.hid (show ∀ w' : World, Turn (fun _ => False) w1 w' → w'.rangeAt w.heap.size 0 C ∧ w'.rangeAt (w.heap.size + 1) 0 R from fun w' t => by
    refine ⟨fun j v hj => ?_, fun j v hj => ?_⟩
    · rw [Nat.zero_add, cell_of_row _ _ _ _ _ _ (t.heap g0 (fun h => h)), List.getElem?_toArray]; exact hj
    · rw [Nat.zero_add, cell_of_row _ _ _ _ _ _ (t.heap g1 (fun h => h)), List.getElem?_toArray]; exact hj)
  have RC := Lib.hid (show ∀ w' : World, Turn (fun _ => False) w1 w' → w'.cell? ⟨w.heap.size, 0, none⟩ = some (.int .i64 e.s) ∧ w'.cell? ⟨w.heap.size, 1, none⟩ = some (.int .i64 e.t) from fun w' t => by
    rw [hC] at g0
    have := HAt.c (e := e) (t.heap g0 (fun h => h))
    exact ⟨this.1, this.2.1⟩)
  have GL := Lib.hid (fun (w' : World) (t : Turn (fun _ => False) w1 w') => show Glob w' from glob_turn (glob_turn hG t1) t)
  have ZC := Lib.hid (show (Tryz.prog.info? 33).map (·.size) = some C.length by rw [sC]; exact hd_info)
  have ZR := Lib.hid (show (Tryz.prog.info? 24).map (·.size) = some R.length by rw [sR]; exact id_info)
  have T1 := Lib.hid t1
  have Z1 := Lib.hid g2
  have HWS := Lib.hid (fun (w' : World) (h : Stp w1.drew w') => show Turn (fun _ => False) w1 w' from Turn.of_below (stp_start h (Below.refl _ _)))
  have hzd := hd_zero
  clear t1 g0 g1 g2 hC hR hV hDA sC sR sV hd hr hok hG
  go_enter Tryz.func45, Tryz.ntmps45
  go_upto_region 1 with fail
  change Code.wp _ _ _ _ (((w.alloc (.cells C.toArray 33)).alloc (.cells R.toArray 24)).alloc (.cells Z67H 33))
  rw [← hw1]
  clear hw1
  refine wp_region_rel_tail 10 17 (by kernel_rfl) (by kernel_rfl) Stp [.one ?_, .one ?_, .one ?_, .one ?_, .one ?_, .one ?_, .one ?_, .one ?_, .one ?_, .one ?_] (by kernel_rfl) rfl (by kernel_rfl) Stp.refl Stp.trans trivial ?main
  case main =>
  simp only [List.take_succ_cons, List.take_zero, List.drop_succ_cons, List.drop_zero]
  iterate 1
    refine wpR_one (A' := ?_) Stp.refl (by rfl) _ rfl 17 (by rfl) (by rfl) ?_ ?_ ?_
    rotate_left 1
    · simp only [Act.put, List.setIfInBounds_toArray, List.set_cons_zero, List.set_cons_succ]; rfl
    · intro w1 hs hf K hK
      go_big_quiet_op
      first
        | go_big_quiet_on
        | (refine ⟨_, fun _ _ => rfl, ?_⟩; go_big_quiet_on)
      rfl
  refine wpR_one (A' := ?_) Stp.refl (by rfl) _ rfl 17 (by rfl) (by rfl) ?_ ?_ ?_
  rotate_left 1
  · simp only [Act.put, List.setIfInBounds_toArray, List.set_cons_zero, List.set_cons_succ]; rfl
  · intro w1 hs hf K hK
    refine cls_load_cell 3 (.tmp 7) rfl ⟨w.heap.size, 0, none⟩ rfl (.int .i64 e.s) (fun w h => by simp [go_sem, h]) (fun w4 h2 => (RC.out w4 (HWS.out w4 (Stp.trans _ _ _ hs h2))).1) ?_
    refine hK _ ?_
    simp only [Act.put, List.setIfInBounds_toArray, List.set_cons_zero, List.set_cons_succ]
    rfl
  iterate 1
    refine wpR_one (A' := ?_) Stp.refl (by rfl) _ rfl 17 (by rfl) (by rfl) ?_ ?_ ?_
    rotate_left 1
    · simp only [Act.put, List.setIfInBounds_toArray, List.set_cons_zero, List.set_cons_succ]; rfl
    · intro w1 hs hf K hK
      go_big_quiet_op
      first
        | go_big_quiet_on
        | (refine ⟨_, fun _ _ => rfl, ?_⟩; go_big_quiet_on)
      rfl
  refine wpR_one (A' := ?_) Stp.refl (by rfl) _ rfl 17 (by rfl) (by rfl) ?_ ?_ ?_
  rotate_left 1
  · simp only [Act.put, List.setIfInBounds_toArray, List.set_cons_zero, List.set_cons_succ]; rfl
  · intro w1 hs hf K hK
    refine cls_load_cell 3 (.tmp 9) rfl ⟨w.heap.size, 1, none⟩ rfl (.int .i64 e.t) (fun w h => by simp [go_sem, h]) (fun w4 h2 => (RC.out w4 (HWS.out w4 (Stp.trans _ _ _ hs h2))).2) ?_
    refine hK _ ?_
    simp only [Act.put, List.setIfInBounds_toArray, List.set_cons_zero, List.set_cons_succ]
    rfl
  iterate 2
    refine wpR_one (A' := ?_) Stp.refl (by rfl) _ rfl 17 (by rfl) (by rfl) ?_ ?_ ?_
    rotate_left 1
    · simp only [Act.put, List.setIfInBounds_toArray, List.set_cons_zero, List.set_cons_succ]; rfl
    · intro w1 hs hf K hK
      go_big_quiet_op
      first
        | go_big_quiet_on
        | (refine ⟨_, fun _ _ => rfl, ?_⟩; go_big_quiet_on)
      rfl
  refine wpR_one (A' := ?_) Stp.refl (by rfl) _ rfl 17 (by rfl) (by rfl) ?_ ?_ ?_
  rotate_left 1
  · simp only [Act.put, List.setIfInBounds_toArray, List.set_cons_zero, List.set_cons_succ]; rfl
  · intro w1 hs hf K hK
    refine cls_load 33 (.tmp 3) rfl (w.heap.size) (0) rfl (C) _ (fun w4 h2 => (RG.out w4 (HWS.out w4 (Stp.trans _ _ _ hs h2))).1) Tryz.underlying33 rfl ZC.out ?_
    refine hK _ ?_
    simp only [Act.put, List.setIfInBounds_toArray, List.set_cons_zero, List.set_cons_succ]
    rfl
  refine wpR_one (A' := ?_) Stp.refl (by rfl) _ rfl 17 (by rfl) (by rfl) ?_ ?_ ?_
  rotate_left 1
  · simp only [Act.put, List.setIfInBounds_toArray, List.set_cons_zero, List.set_cons_succ]; rfl
  · intro w1 hs hf K hK
    go_big_quiet_op
    apply Exists.intro
    refine ⟨fun w4 h2 => ?_, ?_⟩
    · refine (IA.out w4 (GL.out w4 (HWS.out w4 (Stp.trans _ _ _ hs h2)))).mono ?_
      rintro e w3 ⟨rfl, h3⟩
      exact ⟨rfl, Stp.trans _ _ _ h2 h3⟩
    · go_big_quiet_on
      rfl
  refine wpR_one (A' := ?_) Stp.refl (by rfl) _ rfl 17 (by rfl) (by rfl) ?_ ?_ ?_
  rotate_left 1
  · simp only [Act.put, List.setIfInBounds_toArray, List.set_cons_zero, List.set_cons_succ]; rfl
  · intro w1 hs hf K hK
    refine cls_load 24 (.tmp 5) rfl (w.heap.size + 1) (0) rfl (R) _ (fun w4 h2 => (RG.out w4 (HWS.out w4 (Stp.trans _ _ _ hs h2))).2) Tryz.underlying24 rfl ZR.out ?_
    refine hK _ ?_
    simp only [Act.put, List.setIfInBounds_toArray, List.set_cons_zero, List.set_cons_succ]
    rfl
  refine wpR_one (A' := ?_) Stp.refl (by rfl) _ rfl 17 (by rfl) (by rfl) ?_ ?_ ?_
  rotate_left 1
  · simp only [Act.put, List.setIfInBounds_toArray, List.set_cons_zero, List.set_cons_succ]; rfl
  · intro w1 hs hf K hK
    refine cls_build 33 #[(0, .tmp 8), (1, .tmp 11), (2, .tmp 12), (3, .tmp 14), (4, .tmp 15)] rfl V HB.out ?_
    refine hK _ ?_
    simp only [Act.put, List.setIfInBounds_toArray, List.set_cons_zero, List.set_cons_succ]
    rfl
  intro w2 hs1 hf
  have T2 := Lib.hid (HWS.out w2 hs1)
  have Z9 := Lib.hid (T2.out.heap Z1.out (fun h => h))
  clear hs1 hf
  refine wpList_store_row rfl _ _ _ rfl (w.heap.size + 2) V rfl rfl 33 Z67H Z9.out K1.out K2.out K3.out ?_
  have h3 := setRow_heap w2 (w.heap.size + 2) Z67H V 33 (0, 0) Z9.out
  go_wp2_with fail
  refine bodyPost_ret (v := .agg V) ?_ rfl ⟨rfl, (T1.out.trans T2.out (fun _ _ h => h)).trans ((Turn.refl (fun i => i = w.heap.size + 2) _).setRow _ _ (fun _ => rfl)) (fun i hi h => by have h' : i = w.heap.size + 2 := h; omega)⟩
  exact results_cell_row Tryz.results45 _ _ (w.heap.size + 2) _ V (0, 0) _ rfl h3 Tryz.underlying33 rfl K1.out

end
section
set_option linter.unusedVariables false
set_option linter.unusedSimpArgs false

open Go.RowKit
attribute [local go_sem ↓] loadAt_en loadAt_id
attribute [local go_sem] run_enLoad run_idLoad rowOf_drew rowOf_drewN
theorem bts_sl {w : World} {A : Option Addr} {xs : List B8} (h : Bts w A xs) : Sl w w.heap.size A (xs.map bv) := fun j u hu => by
  obtain ⟨ad, h1, h2⟩ := h j u hu
  refine ⟨ad, h1, ?_, h2⟩
  have := World.block_lt_of_cell? _ _ h2
  rwa [add_block] at this
theorem bts_turn {w w' : World} {A : Option Addr} {xs : List B8} (h : Bts w A xs) (t : Turn (fun _ => False) w w') : Bts w' A xs := fun j u hu => by
  obtain ⟨ad, h1, h2⟩ := h j u hu
  exact ⟨ad, h1, t.cell h2 (fun h => h)⟩
set_option maxRecDepth 100000 in
set_option maxHeartbeats 4000000 in
theorem hleaves_any (A : Option Addr) (c : Nat) (b : List B8) (e : Ent) (n : Nat) (w : World) (hB : Bts w A b) (hA : A = none → c = 0) (hc : b.length ≤ c) (hlen : b.length ≤ 1000000) (hd : e.d.length = 32) (hn : n < 18446744073709551616) :
    Calls Tryz.prog 13 #[.slice A b.length c, .agg e.cells.toArray, .int .u64 (n : Int)] w fun r w' => Turn (fun _ => False) w w' ∧ (if okL e n then ∃ g, r = .returned (.tuple #[.slice (some ⟨g, 0, none⟩) 3 3, .bool true]) ∧ w.heap.size ≤ g ∧ LstN w' (some ⟨g, 0, none⟩) [b, formE e, numB n] else r = .returned (.tuple #[.slice none 0 0, .bool false])) := by
  have TP := Lib.hid (fun w => put_any e w hd)
  have TC := Lib.hid (fun w h => clone_any A c w.heap.size b w h hA hc (by omega))
  obtain ⟨C, hC⟩ : ∃ C, C = e.cells.toArray := ⟨_, rfl⟩
  rw [← hC] at TP ⊢
  obtain ⟨w1, hw1⟩ : ∃ w1, w1 = w.alloc (.cells C 27) := ⟨_, rfl⟩
  have t1 : Turn (fun _ => False) w w1 := by rw [hw1]; exact (Turn.refl _ _).alloc _
  have e1 : EAt w1 w.heap.size e := by rw [hw1, hC]; exact heap_alloc_new _ _
  have RF := Lib.hid (show ∀ w' : World, Turn (fun _ => False) w1 w' → rowOf w' w.heap.size 0 37 = some C from fun w' t => by rw [hC]; exact (e1.turn t (fun h => h)).row hd)
  have T1 := Lib.hid t1
  have HBT := Lib.hid (fun (w' : World) (t : Turn (fun _ => False) w1 w') => show Bts w' A b from bts_turn (bts_turn hB t1) t)
  have HP := Lib.hid (show pE e = if okB e then formE e else [] from rfl)
  have HN := Lib.hid (numB_le hn)
  have hn' := hn
  clear t1 e1 hC hd hB hA hc hlen
  have r1 := RF.out w1 (Turn.refl _ _)
  obtain ⟨bl, hbl⟩ : ∃ bl, bl = b.length := ⟨_, rfl⟩
  rw [← hbl] at TC ⊢
  have HBL := Lib.hid hbl
  clear hbl
  by_cases hok : okB e
  · rw [decide_eq_true hok] at TP
    by_cases hbig : 4611686018427387904 < n
    · have q1 : decide ((4611686018427387904 : Int) < (n : Int)) = true := by rw [decide_eq_true_eq]; omega
      have HI := Lib.hid (show ¬ okL e n from fun h => by have := h.2; omega)
      simp only [if_neg HI.out]
      clear hok hbig
      go_enter Tryz.func13, Tryz.ntmps13
      go_upto_region 1 with fail
      change Code.wp _ _ _ _ (w.alloc (.cells C 27))
      rw [← hw1]
      clear hw1
      go_wp2_with (go_at_call 22; refine stop ?_)
      unfold Stop
      refine (TP.out w1).mono ?_
      rintro r w2 ⟨u2, rfl, o2, t2⟩
      have T2 := Lib.hid t2
      clear t2 r1 o2
      go_wp2
      go_ret2
      exact ⟨T1.out.trans T2.out (fun _ _ h => h), rfl⟩
    · have q1 : decide ((4611686018427387904 : Int) < (n : Int)) = false := by rw [decide_eq_false_iff_not]; omega
      have HI := Lib.hid (show okL e n from ⟨hok, by omega⟩)
      simp only [if_pos HI.out]
      have hp := HP.out
      rw [if_pos hok] at hp
      rw [hp] at TP
      obtain ⟨F, hF⟩ : ∃ F, F = formE e := ⟨_, rfl⟩
      obtain ⟨G, hG⟩ : ∃ G, G = numB n := ⟨_, rfl⟩
      rw [← hF] at TP ⊢
      rw [← hG]
      have HG := Lib.hid hG
      clear hok hbig hF hG hp HP
      go_enter Tryz.func13, Tryz.ntmps13
      go_upto_region 1 with fail
      change Code.wp _ _ _ _ (w.alloc (.cells C 27))
      rw [← hw1]
      clear hw1
      go_wp2_with (go_at_call 22; refine stop ?_)
      unfold Stop
      refine (TP.out w1).mono ?_
      rintro r w2 ⟨u2, rfl, o2, t2⟩
      obtain ⟨A2, c2, rfl, s2, -, hc2, ha2⟩ := own_sl o2
      have T2 := Lib.hid t2
      have S2 := Lib.hid (And.intro s2 (And.intro ha2 hc2))
      clear o2 s2 hc2 ha2 t2 r1
      obtain ⟨w3, hw3⟩ : ∃ w3, w3 = w2.alloc (.cells #[.slice none 0 0] 65) := ⟨_, rfl⟩
      have hp3 : PenAt w3 w2.heap.size (w2.heap.size + 1) (.slice none 0 0) [] := by rw [hw3]; exact ⟨heap_alloc_new _ _, World.ownsRow_nil _ _ _ _, by omega, by simp⟩
      have T3 := Lib.hid (show Turn (fun _ => False) w2 w3 by rw [hw3]; exact (Turn.refl _ _).alloc _)
      have HP3 := Lib.hid hp3
      clear hp3
      go_upto_region 5 with fail
      change Code.wp _ _ _ _ (w2.alloc (.cells #[.slice none 0 0] 65))
      rw [← hw3]
      clear hw3
      have TF := Lib.hid (pnum_any w2.heap.size _ _ _ n w3 HP3.out hn' (by simp only [List.length_nil]; omega))
      go_wp2_with (go_at_call 25; refine stop ?_)
      unfold Stop
      refine TF.out.mono ?_
      rintro r w4 ⟨rfl, v4, hp4, st4⟩
      have T4 := Lib.hid (show Turn (fun _ => False) w2 w4 from T3.out.trans st4.1 (fun i hi h => by
        rcases h with h | h
        · omega
        · cases h))
      rw [List.nil_append, ← HG.out] at hp4
      have HP4 := Lib.hid hp4
      have TW4 := Lib.hid (show Turn (fun _ => False) w1 w4 from T2.out.trans T4.out (fun _ _ h => h))
      have S24 := Lib.hid (T4.out.sl S2.out.1 (fun _ _ h => h))
      clear hp4 st4 TF HP3 T3
      generalize w2.heap.size = q at *
      go_wp2_with (go_at_call 41; refine stop ?_)
      unfold Stop
      refine (TC.out w4 (bts_sl (HBT.out w4 TW4.out))).mono ?_
      rintro r w5 ⟨u5, rfl, o5, t5⟩
      obtain ⟨A5, c5, rfl, s5, -, hc5, ha5⟩ := own_sl o5
      have S5 := Lib.hid (And.intro s5 (And.intro ha5 hc5))
      have TW5 := Lib.hid (TW4.out.trans t5 (fun _ _ h => h))
      have S25 := Lib.hid (t5.sl S24.out (fun _ _ h => h))
      have HP5 := Lib.hid (show PenAt w5 q (q + 1) v4 G from ⟨t5.heap HP4.out.1 (fun h => h), t5.own HP4.out.2.1 (fun _ _ h => h), HP4.out.2.2.1, Nat.le_trans HP4.out.2.2.2 t5.size⟩)
      clear o5 s5 hc5 ha5 t5 HP4 S24
      have TB := Lib.hid (pbytes_any q _ _ _ w5 HP5.out (by have := HN.out; rw [HG.out]; omega))
      go_wp2_with (go_at_call 27; refine stop ?_)
      unfold Stop
      refine TB.out.mono ?_
      rintro r w6 ⟨u6, rfl, o6, t6⟩
      obtain ⟨A6, c6, rfl, s6, -, hc6, ha6⟩ := own_sl o6
      have S6 := Lib.hid (And.intro s6 (And.intro ha6 hc6))
      have TW6 := Lib.hid (TW5.out.trans t6 (fun _ _ h => h))
      have S26 := Lib.hid (t6.sl S25.out (fun _ _ h => h))
      have S56 := Lib.hid (t6.sl S5.out.1 (fun _ _ h => h))
      clear o6 s6 hc6 ha6 t6 TB HP5 S25
      go_wp2_with fail
      go_ret2
      have hc5 := S5.out.2.2
      rw [HBL.out] at hc5
      have hl := lstn_three A5 A2 A6 b F G c5 c2 c6 (Bts.of_sl S56.out) (Bts.of_sl S26.out) (Bts.of_sl S6.out.1) hc5 S2.out.2.2 S6.out.2.2 S5.out.2.1 S2.out.2.1 S6.out.2.1 22
      refine ⟨(T1.out.trans TW6.out (fun _ _ h => h)).alloc _, _, rfl, (T1.out.trans TW6.out (fun _ _ h => h)).size, ?_⟩
      rw [HBL.out]
      exact hl
  · rw [decide_eq_false hok] at TP
    have HI := Lib.hid (show ¬ okL e n from fun h => hok h.1)
    simp only [if_neg HI.out]
    clear hok
    go_enter Tryz.func13, Tryz.ntmps13
    go_upto_region 1 with fail
    change Code.wp _ _ _ _ (w.alloc (.cells C 27))
    rw [← hw1]
    clear hw1
    go_wp2_with (go_at_call 22; refine stop ?_)
    unfold Stop
    refine (TP.out w1).mono ?_
    rintro r w2 ⟨u2, rfl, o2, t2⟩
    have T2 := Lib.hid t2
    clear t2 r1 o2
    go_wp2
    go_ret2
    exact ⟨T1.out.trans T2.out (fun _ _ h => h), rfl⟩

end
section
set_option linter.unusedVariables false
set_option linter.unusedSimpArgs false

open Go.RowKit
attribute [local go_sem ↓] loadAt_hd loadAt_id
attribute [local go_sem] run_hdLoad run_idLoad rowOf_drew rowOf_drewN
theorem n_if {prev : Hdr} {first : Bool} {n : Nat} {root : List B8} {shard epoch : Int} {w w' : World} {V : Array Value} {b : Bool} (h3 : n = 3) (hf : first = true ∨ (okH prev ∧ prev.p ≤ epoch)) (hV : V = (ifV (nxB prev first root shard epoch)).cells.toArray) (hb : b = decide (okH (nxB prev first root shard epoch))) (t : Turn (fun _ => False) w w') : NPost prev first n root shard epoch w (.returned (.tuple #[.agg V, .bool b])) w' := by
  have h : okN prev first n root shard epoch ↔ okH (nxB prev first root shard epoch) := ⟨fun h => h.2.2, fun h => ⟨h3, hf, h⟩⟩
  rw [hV, hb]
  by_cases hk : okH (nxB prev first root shard epoch)
  · rw [decide_eq_true hk, show ifV (nxB prev first root shard epoch) = nxB prev first root shard epoch from if_pos hk]
    exact n_yes (h.2 hk) rfl t
  · rw [decide_eq_false hk, show ifV (nxB prev first root shard epoch) = HZ from if_neg hk, HZ_eq]
    exact n_no (fun x => hk (h.1 x)) t
set_option maxRecDepth 100000 in
set_option maxHeartbeats 8000000 in
theorem hnext_any (prev : Hdr) (first : Bool) (A : Option Addr) (c n : Nat) (ls : List (List B8)) (shard epoch : Int) (w : World) (hn : n = ls.length) (hp : prev.L) (hL : LstN w A ls) (hc : n ≤ c) (hA : A = none → c = 0) (hs : ∀ xs ∈ ls, xs.length ≤ 1000000) (hG : Glob w) :
    Calls Tryz.prog 14 #[.agg prev.cells.toArray, .bool first, .slice A n c, .int .i64 shard, .int .i64 epoch] w (NPost prev first n (rootD ls) shard epoch w) := by
  have TR := Lib.hid (fun w => hright_any prev w hp)
  obtain ⟨R, hR⟩ : ∃ R, R = rootD ls := ⟨_, rfl⟩
  have hR32 : R.length = 32 := by rw [hR]; exact rootD_len _
  have TB := Lib.hid (fun w hok hG => hbehind_any prev epoch R w hp hR32 hok hG)
  obtain ⟨C, hC⟩ : ∃ C, C = prev.cells.toArray := ⟨_, rfl⟩
  rw [← hC] at TR TB ⊢
  have hzd := hd_zero
  obtain ⟨w1, hw1⟩ : ∃ w1, w1 = (w.alloc (.cells C 33)).alloc (.cells Z67H 33) := ⟨_, rfl⟩
  have t1 : Turn (fun _ => False) w w1 := by rw [hw1]; exact ((Turn.refl _ _).alloc _).alloc _
  have b1 : Below w.heap.size w w1 := by rw [hw1]; exact ((Below.refl _ _).alloc (Nat.le_refl _) _).alloc (by simp) _
  have e1 : HAt w1 w.heap.size prev := by rw [hw1, hC]; exact heap_alloc2_old _ _ _
  have z1 : w1.heap[w.heap.size + 1]? = some (.cells Z67H 33 (0, 0)) := by rw [hw1]; exact heap_alloc2_new _ _ _
  have RF := Lib.hid (show ∀ w' : World, Turn (fun _ => False) w1 w' → rowOf w' w.heap.size 0 67 = some C ∧ (w'.cell? ⟨w.heap.size, 0, none⟩ = some (.int .i64 prev.s) ∧ w'.cell? ⟨w.heap.size, 1, none⟩ = some (.int .i64 prev.t) ∧ w'.cell? ⟨w.heap.size, 2, none⟩ = some (.int .i64 prev.p)) from fun w' t => by rw [hC]; exact ⟨(e1.turn t (fun h => h)).row hp, (e1.turn t (fun h => h)).c⟩)
  have HL1 := Lib.hid (hL.below b1)
  have GL := Lib.hid (fun (w' : World) (t : Turn (fun _ => False) w1 w') => show Glob w' from glob_turn (glob_turn hG t1) t)
  have RT := Lib.hid (fun (h : n = 3) (w' : World) (k : Turn (fun _ => False) w1 w') => root_any ls.length ls (Nat.le_refl _) (by omega) hs A c w' (LstN.lst (ls := ls) (fun i xs hi => by
    obtain ⟨ad, Ai, ci, q1, q2, q3, q4, q5⟩ := HL1.out i xs hi
    exact ⟨ad, Ai, ci, q1, k.cell q2 (fun h => h), q3, q4, fun j u hu => by obtain ⟨ad', q6, q7⟩ := q5 j u hu; exact ⟨ad', q6, k.cell q7 (fun h => h)⟩⟩)) (by omega) (GL.out w' k))
  rw [← hR]
  rw [← hR, ← hn] at RT
  have HR32 := Lib.hid hR32
  have NO := Lib.hid (fun (w' : World) (h : ¬ okN prev first n R shard epoch) (t : Turn (fun _ => False) w w') => n_no h t)
  obtain ⟨CZ, hCZ⟩ : ∃ CZ, CZ = Z67H := ⟨_, rfl⟩
  have sZ : CZ.size = 67 := by rw [hCZ]; rfl
  have K1 := Lib.hid (show (Tryz.prog.info? 33).map (·.size) = some CZ.size by rw [sZ]; exact hd_info)
  have K2 := Lib.hid (show Z67H.size = CZ.size by rw [sZ]; rfl)
  have K3 := Lib.hid (show CZ.all (·.oneCell') = true by rw [hCZ, ← HZ_eq]; exact Hdr.one _)
  have HCZ := Lib.hid hCZ
  have HSZ := Lib.hid sZ
  have T1 := Lib.hid t1
  have Z1 := Lib.hid z1
  have OKN := Lib.hid (show okN prev first n R shard epoch ↔ (n = 3 ∧ (first = true ∨ (okH prev ∧ prev.p ≤ epoch)) ∧ okH (nxB prev first R shard epoch)) from Iff.rfl)
  have NBL := nxB_L prev first R shard epoch hR32
  have TN := Lib.hid (fun w => hifRight_any (nxB prev first R shard epoch) w NBL)
  obtain ⟨CB, hCB⟩ : ∃ CB, CB = (nxB prev first R shard epoch).cells.toArray := ⟨_, rfl⟩
  obtain ⟨V, hV⟩ : ∃ V, V = (ifV (nxB prev first R shard epoch)).cells.toArray := ⟨_, rfl⟩
  obtain ⟨OK, hOK⟩ : ∃ OK, OK = decide (okH (nxB prev first R shard epoch)) := ⟨_, rfl⟩
  rw [← hCB, ← hV, ← hOK] at TN
  have YES := Lib.hid (fun (w' : World) (h3 : n = 3) (hf : first = true ∨ (okH prev ∧ prev.p ≤ epoch)) (t : Turn (fun _ => False) w w') => n_if (w := w) h3 hf hV hOK t)
  have sV : V.size = 67 := by rw [hV, List.size_toArray, Hdr.len _ (ifV_L NBL)]
  have V1 := Lib.hid (show (Tryz.prog.info? 33).map (·.size) = some V.size by rw [sV]; exact hd_info)
  have V2 := Lib.hid (show Z67H.size = V.size by rw [sV]; rfl)
  have V3 := Lib.hid (show V.all (·.oneCell') = true by rw [hV]; exact Hdr.one _)
  have HSV := Lib.hid sV
  obtain ⟨RA, hRA⟩ : ∃ RA, RA = (R.map bv).toArray := ⟨_, rfl⟩
  rw [← hRA] at RT TB
  have sR : RA.size = 32 := by rw [hRA]; simpa using hR32
  have R1 := Lib.hid (show (Tryz.prog.info? 24).map (·.size) = some RA.size by rw [sR]; exact id_info)
  have R2 := Lib.hid (show ZIdT.size = RA.size by rw [sR]; rfl)
  have R3 := Lib.hid (show RA.all (·.oneCell') = true by rw [hRA]; exact all_oneCell_toArray (bv_one _))
  have RROW := Lib.hid (show ∀ (w' : World) (g : Nat), w'.heap[g]? = some (.cells RA 24 (0, 0)) → rowOf w' g 0 32 = some RA from fun w' g h => by
    rw [hRA] at h ⊢
    have := rowOf_block h 0 32 (by simp [hR32])
    rw [List.drop_zero, List.take_of_length_le (by simp [hR32])] at this
    exact this)
  have HCB := Lib.hid hCB
  have HRA := Lib.hid hRA
  clear hC hL hA hs t1 b1 e1 z1 HL1 hCZ sZ hR hn hR32 hG NBL hCB hV hOK sV sR hRA hp
  by_cases h3 : n = 3
  · have h3i : ((n : Int) != 3) = false := by simp; omega
    have H3 := Lib.hid h3
    clear h3
    cases first
    · by_cases hok : okH prev
      · rw [decide_eq_true hok] at TR
        by_cases hle : prev.p ≤ epoch
        · have q1 : decide (epoch < prev.p) = false := by rw [decide_eq_false_iff_not]; omega
          have HFP := Lib.hid (show false = true ∨ (okH prev ∧ prev.p ≤ epoch) from .inr ⟨hok, hle⟩)
          have TBH := Lib.hid (fun w hG => TB.out w hok hG)
          rw [show bhd prev epoch R = nxB prev false R shard epoch from rfl, ← HCB.out] at TBH
          clear hok hle TB
          go_enter Tryz.func14, Tryz.ntmps14
          go_upto_region 1 with fail
          change Code.wp _ _ _ _ ((w.alloc (.cells C 33)).alloc (.cells Z67H 33))
          rw [← hw1]
          clear hw1
          go_wp2_with (go_at_call 42; refine stop ?_)
          unfold Stop
          refine (RT.out H3.out w1 (Turn.refl _ _)).mono ?_
          rintro r w2 ⟨rfl, kk⟩
          have T2 := Lib.hid (of_turn kk)
          clear kk
          have HA := Lib.hid (show (w2.alloc (.cells ZIdT 24)).heap[w2.heap.size]? = some (.cells ZIdT 24 (0, 0)) from heap_alloc_new _ _)
          go_upto_region 4 with (refine wpList_store_row rfl _ _ _ rfl w2.heap.size RA rfl rfl 24 ZIdT HA.out R1.out R2.out R3.out ?_)
          obtain ⟨w3, hw3⟩ : ∃ w3, w3 = (w2.alloc (.cells ZIdT 24)).setRow w2.heap.size RA := ⟨_, rfl⟩
          have T3 := Lib.hid (show Turn (fun _ => False) w1 w3 by rw [hw3]; exact T2.out.trans (((Turn.refl (fun _ => False) w2).alloc _).setRow _ _ (fun h => by omega)) (fun _ _ h => h))
          have H3r := Lib.hid (show w3.heap[w2.heap.size]? = some (.cells RA 24 (0, 0)) by rw [hw3]; exact setRow_heap _ _ _ _ _ _ HA.out)
          change Code.wp _ _ _ _ ((w2.alloc (.cells ZIdT 24)).setRow w2.heap.size RA)
          rw [← hw3]
          clear hw3 HA T2
          generalize w2.heap.size = Q at *
          obtain ⟨r1, c0, c1, c2⟩ := RF.out w3 T3.out
          go_wp2_with (go_at_call 44; refine stop ?_)
          unfold Stop
          refine (TR.out w3).mono ?_
          rintro r w4 ⟨rfl, t⟩
          have T4 := Lib.hid (T3.out.trans t (fun _ _ h => h))
          have H4r := Lib.hid (t.heap H3r.out (fun h => h))
          clear t r1 c0 c1 c2
          obtain ⟨r1, c0, c1, c2⟩ := RF.out w4 T4.out
          have rr := RROW.out w4 Q H4r.out
          go_wp2_with (go_at_call 45; refine stop ?_)
          unfold Stop
          refine (TBH.out w4 (GL.out w4 T4.out)).mono ?_
          rintro r w5 ⟨rfl, t⟩
          have T5 := Lib.hid (T4.out.trans t (fun _ _ h => h))
          clear t rr r1 c0 c1 c2
          go_wp2_with (go_at_call 43; refine stop ?_)
          unfold Stop
          refine (TN.out w5).mono ?_
          rintro r w6 ⟨rfl, t⟩
          have T6 := Lib.hid (T5.out.trans t (fun _ _ h => h))
          clear t
          have Z9 := Lib.hid (T6.out.heap Z1.out (fun h => h))
          go_wp2_with (refine wpList_store_row rfl _ _ _ rfl (w.heap.size + 1) V rfl rfl 33 Z67H Z9.out V1.out V2.out V3.out ?_)
          have h3 := setRow_heap w6 (w.heap.size + 1) Z67H V 33 (0, 0) Z9.out
          refine bodyPost_ret (v := .tuple #[.agg V, .bool OK]) ?_ rfl (YES.out _ H3.out HFP.out ((T1.out.trans T6.out (fun _ _ h => h)).trans ((Turn.refl (fun i => i = w.heap.size + 1) _).setRow _ _ (fun _ => rfl)) (fun i hi h => by have h' : i = w.heap.size + 1 := h; omega)))
          exact results_hd Tryz.results14 _ _ (w.heap.size + 1) _ _ rfl rfl h3 HSV.out
        · have q1 : decide (epoch < prev.p) = true := by rw [decide_eq_true_eq]; omega
          have HNO := Lib.hid (show ¬ okN prev false n R shard epoch from fun h => by
            rcases (OKN.out.1 h).2.1 with h | h
            · cases h
            · exact hle h.2)
          clear hok hle TB
          go_enter Tryz.func14, Tryz.ntmps14
          go_upto_region 1 with fail
          change Code.wp _ _ _ _ ((w.alloc (.cells C 33)).alloc (.cells Z67H 33))
          rw [← hw1]
          clear hw1
          go_wp2_with (go_at_call 42; refine stop ?_)
          unfold Stop
          refine (RT.out H3.out w1 (Turn.refl _ _)).mono ?_
          rintro r w2 ⟨rfl, kk⟩
          have T2 := Lib.hid (of_turn kk)
          clear kk
          have HA := Lib.hid (show (w2.alloc (.cells ZIdT 24)).heap[w2.heap.size]? = some (.cells ZIdT 24 (0, 0)) from heap_alloc_new _ _)
          go_upto_region 4 with (refine wpList_store_row rfl _ _ _ rfl w2.heap.size RA rfl rfl 24 ZIdT HA.out R1.out R2.out R3.out ?_)
          obtain ⟨w3, hw3⟩ : ∃ w3, w3 = (w2.alloc (.cells ZIdT 24)).setRow w2.heap.size RA := ⟨_, rfl⟩
          have T3 := Lib.hid (show Turn (fun _ => False) w1 w3 by rw [hw3]; exact T2.out.trans (((Turn.refl (fun _ => False) w2).alloc _).setRow _ _ (fun h => by omega)) (fun _ _ h => h))
          have H3r := Lib.hid (show w3.heap[w2.heap.size]? = some (.cells RA 24 (0, 0)) by rw [hw3]; exact setRow_heap _ _ _ _ _ _ HA.out)
          change Code.wp _ _ _ _ ((w2.alloc (.cells ZIdT 24)).setRow w2.heap.size RA)
          rw [← hw3]
          clear hw3 HA T2
          generalize w2.heap.size = Q at *
          obtain ⟨r1, c0, c1, c2⟩ := RF.out w3 T3.out
          go_wp2_with (go_at_call 44; refine stop ?_)
          unfold Stop
          refine (TR.out w3).mono ?_
          rintro r w4 ⟨rfl, t⟩
          have T4 := Lib.hid (T3.out.trans t (fun _ _ h => h))
          have H4r := Lib.hid (t.heap H3r.out (fun h => h))
          clear t r1 c0 c1 c2
          obtain ⟨r1, c0, c1, c2⟩ := RF.out w4 T4.out
          have Z9 := Lib.hid (T4.out.heap Z1.out (fun h => h))
          go_wp2_with (refine wpList_store_row rfl _ _ _ rfl (w.heap.size + 1) CZ rfl (by rw [HCZ.out]; rfl) 33 Z67H Z9.out K1.out K2.out K3.out ?_)
          have h3 := setRow_heap w4 (w.heap.size + 1) Z67H CZ 33 (0, 0) Z9.out
          refine bodyPost_ret (v := .tuple #[.agg CZ, .bool false]) ?_ rfl (by rw [HCZ.out]; exact NO.out _ HNO.out ((T1.out.trans T4.out (fun _ _ h => h)).trans ((Turn.refl (fun i => i = w.heap.size + 1) _).setRow _ _ (fun _ => rfl)) (fun i hi h => by have h' : i = w.heap.size + 1 := h; omega)))
          exact results_hd Tryz.results14 _ _ (w.heap.size + 1) _ _ rfl rfl h3 HSZ.out
      · rw [decide_eq_false hok] at TR
        have HNO := Lib.hid (show ¬ okN prev false n R shard epoch from fun h => by
          rcases (OKN.out.1 h).2.1 with h | h
          · cases h
          · exact hok h.1)
        clear hok TB
        go_enter Tryz.func14, Tryz.ntmps14
        go_upto_region 1 with fail
        change Code.wp _ _ _ _ ((w.alloc (.cells C 33)).alloc (.cells Z67H 33))
        rw [← hw1]
        clear hw1
        go_wp2_with (go_at_call 42; refine stop ?_)
        unfold Stop
        refine (RT.out H3.out w1 (Turn.refl _ _)).mono ?_
        rintro r w2 ⟨rfl, kk⟩
        have T2 := Lib.hid (of_turn kk)
        clear kk
        have HA := Lib.hid (show (w2.alloc (.cells ZIdT 24)).heap[w2.heap.size]? = some (.cells ZIdT 24 (0, 0)) from heap_alloc_new _ _)
        go_upto_region 4 with (refine wpList_store_row rfl _ _ _ rfl w2.heap.size RA rfl rfl 24 ZIdT HA.out R1.out R2.out R3.out ?_)
        obtain ⟨w3, hw3⟩ : ∃ w3, w3 = (w2.alloc (.cells ZIdT 24)).setRow w2.heap.size RA := ⟨_, rfl⟩
        have T3 := Lib.hid (show Turn (fun _ => False) w1 w3 by rw [hw3]; exact T2.out.trans (((Turn.refl (fun _ => False) w2).alloc _).setRow _ _ (fun h => by omega)) (fun _ _ h => h))
        have H3r := Lib.hid (show w3.heap[w2.heap.size]? = some (.cells RA 24 (0, 0)) by rw [hw3]; exact setRow_heap _ _ _ _ _ _ HA.out)
        change Code.wp _ _ _ _ ((w2.alloc (.cells ZIdT 24)).setRow w2.heap.size RA)
        rw [← hw3]
        clear hw3 HA T2
        generalize w2.heap.size = Q at *
        obtain ⟨r1, c0, c1, c2⟩ := RF.out w3 T3.out
        go_wp2_with (go_at_call 44; refine stop ?_)
        unfold Stop
        refine (TR.out w3).mono ?_
        rintro r w4 ⟨rfl, t⟩
        have T4 := Lib.hid (T3.out.trans t (fun _ _ h => h))
        have H4r := Lib.hid (t.heap H3r.out (fun h => h))
        clear t r1 c0 c1 c2
        obtain ⟨r1, c0, c1, c2⟩ := RF.out w4 T4.out
        have Z9 := Lib.hid (T4.out.heap Z1.out (fun h => h))
        go_wp2_with (refine wpList_store_row rfl _ _ _ rfl (w.heap.size + 1) CZ rfl (by rw [HCZ.out]; rfl) 33 Z67H Z9.out K1.out K2.out K3.out ?_)
        have h3 := setRow_heap w4 (w.heap.size + 1) Z67H CZ 33 (0, 0) Z9.out
        refine bodyPost_ret (v := .tuple #[.agg CZ, .bool false]) ?_ rfl (by rw [HCZ.out]; exact NO.out _ HNO.out ((T1.out.trans T4.out (fun _ _ h => h)).trans ((Turn.refl (fun i => i = w.heap.size + 1) _).setRow _ _ (fun _ => rfl)) (fun i hi h => by have h' : i = w.heap.size + 1 := h; omega)))
        exact results_hd Tryz.results14 _ _ (w.heap.size + 1) _ _ rfl rfl h3 HSZ.out
    · have HFP := Lib.hid (show true = true ∨ (okH prev ∧ prev.p ≤ epoch) from .inl rfl)
      have HBU := Lib.hid (show Tryz.prog.built 33 [(0, .int .i64 shard), (1, .int .i64 1), (2, .int .i64 epoch), (4, .agg RA)] = some CB by
        rw [HRA.out, built_hd (R.map bv) shard 1 epoch (by rw [List.length_map]; exact HR32.out), HCB.out]; rfl)
      clear TB
      go_enter Tryz.func14, Tryz.ntmps14
      go_upto_region 1 with fail
      change Code.wp _ _ _ _ ((w.alloc (.cells C 33)).alloc (.cells Z67H 33))
      rw [← hw1]
      clear hw1
      go_wp2_with (go_at_call 42; refine stop ?_)
      unfold Stop
      refine (RT.out H3.out w1 (Turn.refl _ _)).mono ?_
      rintro r w2 ⟨rfl, kk⟩
      have T2 := Lib.hid (of_turn kk)
      clear kk
      have HA := Lib.hid (show (w2.alloc (.cells ZIdT 24)).heap[w2.heap.size]? = some (.cells ZIdT 24 (0, 0)) from heap_alloc_new _ _)
      go_upto_region 4 with (refine wpList_store_row rfl _ _ _ rfl w2.heap.size RA rfl rfl 24 ZIdT HA.out R1.out R2.out R3.out ?_)
      obtain ⟨w3, hw3⟩ : ∃ w3, w3 = (w2.alloc (.cells ZIdT 24)).setRow w2.heap.size RA := ⟨_, rfl⟩
      have T3 := Lib.hid (show Turn (fun _ => False) w1 w3 by rw [hw3]; exact T2.out.trans (((Turn.refl (fun _ => False) w2).alloc _).setRow _ _ (fun h => by omega)) (fun _ _ h => h))
      have H3r := Lib.hid (show w3.heap[w2.heap.size]? = some (.cells RA 24 (0, 0)) by rw [hw3]; exact setRow_heap _ _ _ _ _ _ HA.out)
      change Code.wp _ _ _ _ ((w2.alloc (.cells ZIdT 24)).setRow w2.heap.size RA)
      rw [← hw3]
      clear hw3 HA T2
      generalize w2.heap.size = Q at *
      have rr := RROW.out w3 Q H3r.out
      go_wp2_with (first
        | (refine wpList_build_eq (o := ⟨some 23, _, _, _, _, _⟩) rfl 33 #[(0, .tmp 20), (1, .const (.int .i64 1)), (2, .tmp 21), (4, .tmp 22)] rfl CB HBU.out ?_)
        | (go_at_call 43; refine stop ?_))
      unfold Stop
      refine (TN.out w3).mono ?_
      rintro r w5 ⟨rfl, t⟩
      have T5 := Lib.hid (T3.out.trans t (fun _ _ h => h))
      clear t rr
      have Z9 := Lib.hid (T5.out.heap Z1.out (fun h => h))
      go_wp2_with (refine wpList_store_row rfl _ _ _ rfl (w.heap.size + 1) V rfl rfl 33 Z67H Z9.out V1.out V2.out V3.out ?_)
      have h3 := setRow_heap w5 (w.heap.size + 1) Z67H V 33 (0, 0) Z9.out
      refine bodyPost_ret (v := .tuple #[.agg V, .bool OK]) ?_ rfl (YES.out _ H3.out HFP.out ((T1.out.trans T5.out (fun _ _ h => h)).trans ((Turn.refl (fun i => i = w.heap.size + 1) _).setRow _ _ (fun _ => rfl)) (fun i hi h => by have h' : i = w.heap.size + 1 := h; omega)))
      exact results_hd Tryz.results14 _ _ (w.heap.size + 1) _ _ rfl rfl h3 HSV.out
  · have h3i : ((n : Int) != 3) = true := by simp; omega
    have HNO := Lib.hid (show ¬ okN prev first n R shard epoch from fun h => h3 (OKN.out.1 h).1)
    have T0 := Lib.hid (Turn.refl (fun _ => False) w1)
    clear TB h3
    go_enter Tryz.func14, Tryz.ntmps14
    go_upto_region 1 with fail
    change Code.wp _ _ _ _ ((w.alloc (.cells C 33)).alloc (.cells Z67H 33))
    rw [← hw1]
    clear hw1
    have Z9 := Lib.hid (T0.out.heap Z1.out (fun h => h))
    go_wp2_with (refine wpList_store_row rfl _ _ _ rfl (w.heap.size + 1) CZ rfl (by rw [HCZ.out]; rfl) 33 Z67H Z9.out K1.out K2.out K3.out ?_)
    have h3 := setRow_heap w1 (w.heap.size + 1) Z67H CZ 33 (0, 0) Z9.out
    refine bodyPost_ret (v := .tuple #[.agg CZ, .bool false]) ?_ rfl (by rw [HCZ.out]; exact NO.out _ HNO.out ((T1.out.trans T0.out (fun _ _ h => h)).trans ((Turn.refl (fun i => i = w.heap.size + 1) _).setRow _ _ (fun _ => rfl)) (fun i hi h => by have h' : i = w.heap.size + 1 := h; omega)))
    exact results_hd Tryz.results14 _ _ (w.heap.size + 1) _ _ rfl rfl h3 HSZ.out

end
section
set_option linter.unusedVariables false
set_option linter.unusedSimpArgs false

open Go.RowKit
attribute [local go_sem ↓] loadAt_hd loadAt_id
attribute [local go_sem] run_hdLoad run_idLoad rowOf_drew rowOf_drewN
/-- May b stand behind a? -/
def folK (a b : Hdr) : Prop := okH a ∧ okH b ∧ a.s = b.s ∧ b.t = a.t + 1 ∧ a.p ≤ b.p ∧ b.d = hid a
instance (a b : Hdr) : Decidable (folK a b) := by unfold folK; infer_instance
end
end
end Go.Proofs.YthoaaieiiokcmaaGreatDoor
