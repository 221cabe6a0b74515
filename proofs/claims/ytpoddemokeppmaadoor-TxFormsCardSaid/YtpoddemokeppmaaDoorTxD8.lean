/- 'TxForms': its walk. -/
import Derived.Test.YtpoddemokeppmaaDoorTxD7
set_option linter.unusedVariables false
set_option linter.unusedSimpArgs false
namespace Go.Proofs.YtpoddemokeppmaaDoor
open Go.RowKit
set_option maxHeartbeats 8000000 in
theorem txForms_walk (A1 : Option Addr) (k1 : Nat) (A2 : Option Addr) (k2 : Nat) (t : Ptx) (w : World) (h : TxAt w w.heap.size A1 k1 A2 k2 t) (hG : Glob w) :
    Calls Tryd.prog 3 #[txV A1 k1 A2 k2 t] w fun e w' => e = .returned (.bool true) ∧ Below w.heap.size w w' := by
  obtain ⟨w0, hw0⟩ : ∃ w0, w0 = w.alloc (.cells #[.slice A1 t.ins.length k1, .slice A2 t.outs.length k2, .int .u64 (t.fee : Int), .int .i64 t.exp] 26) := ⟨_, rfl⟩
  have hT0 : Turn (fun _ => False) w w0 := by rw [hw0]; exact (Turn.refl _ _).alloc _
  have hga : w0.heap[w.heap.size]? = some (.cells #[.slice A1 t.ins.length k1, .slice A2 t.outs.length k2, .int .u64 (t.fee : Int), .int .i64 t.exp] 26 (0, 0)) := by rw [hw0]; exact heap_alloc_new _ _
  have CF := Lib.hid (fun (w' : World) (k : Stp w0 w') => (row4 (heap_below k hga)).1)
  have RA := Lib.hid (fun (w' : World) (k : Stp w0 w') => range_row (cs := txL A1 k1 A2 k2 t) (heap_below k hga))
  have HST := Lib.hid (fun (x y : World) (h : Stp w0 x) (k : Below x.heap.size x y) => show Stp w0 y from Stp.trans _ _ _ h k)
  have H0 := Lib.hid (Stp.refl w0)
  have hb0 : Below w.heap.size w w0 := turn_stp hT0
  have HB0 := Lib.hid (fun (y : World) (k : Stp w0 y) => show Below w.heap.size w y from hb0.trans (Below.mono k hb0.size))
  obtain ⟨c0, c1, c2, c3⟩ := CF.out w0 (Stp.refl _)
  have at1 := h.turn hT0 (fun _ _ h => h)
  have AT1 := Lib.hid (fun (w' : World) (k : Stp w0 w') => at1.turn (Turn.of_below k) (fun _ _ h => h))
  have HSZ := Lib.hid (fun (w' : World) (k : Stp w0 w') => show w.heap.size ≤ w'.heap.size from Nat.le_trans hT0.size (Below.size k))
  have GL := Lib.hid (fun (w' : World) (k : Stp w0 w') => show Glob w' from (hG.below hb0 hG.1).below k (hG.below hb0 hG.1).1)
  have AW := Lib.hid awake_b
  have G1 := Lib.hid (fun (w' : World) (k : Stp w0 w') => (great_any A1 A2 k1 k2 _ t w' (AT1.out w' k)).mono (fun _ _ ⟨h1, h2⟩ => And.intro h1 (show Below w'.heap.size w' _ from turn_stp h2)))
  have K1 := Lib.hid (fun (w' : World) (k : Stp w0 w') => (rcheck_any A1 A2 k1 k2 _ t w' (AT1.out w' k)).mono (fun _ _ ⟨h1, h2⟩ => And.intro h1 (show Below w'.heap.size w' _ from turn_stp h2)))
  have C1 := Lib.hid (fun (w' : World) (k : Stp w0 w') => (check_any A1 A2 k1 k2 _ t w' (AT1.out w' k)).mono (fun _ _ ⟨h1, h2⟩ => And.intro h1 (show Below w'.heap.size w' _ from turn_stp h2)))
  have P1 := Lib.hid (fun (w' : World) (k : Stp w0 w') => put_any A1 A2 k1 k2 _ t w' (AT1.out w' k) (HSZ.out w' k))
  have SZ := Lib.hid (fun (w' : World) (k : Stp w0 w') => (size_any A1 A2 k1 k2 _ t w' (AT1.out w' k) (HSZ.out w' k)).mono (fun _ _ ⟨h1, h2⟩ => And.intro h1 (show Below w'.heap.size w' _ from turn_stp h2)))
  have ID1 := Lib.hid (fun (w' : World) (k : Stp w0 w') => tid_any A1 A2 k1 k2 _ t w' (AT1.out w' k) (HSZ.out w' k) (GL.out w' k))
  have HM := Lib.hid h
  unfold txV at G1 K1 C1 P1 SZ ID1 ⊢
  clear h hT0 hga hb0 at1 hG
  cases hgs : greatB t
  · rw [great_no hgs] at G1
    clear hgs
    by_cases hc : chk t = 0
    · have WT := chk_ok hc
      have RI1 := Lib.hid (fun (w' : World) (k : Stp w0 w') => rid_any A1 A2 k1 k2 _ t w' (AT1.out w' k) (HSZ.out w' k) WT)
      have RP1 := Lib.hid (fun (w' : World) (k : Stp w0 w') => rput_any A1 A2 k1 k2 _ t w' (AT1.out w' k) (HSZ.out w' k) WT)
      have hf1 := formB_le WT HM.out.ins.oks HM.out.outs.oks HM.out.fee
      have HRD := Lib.hid (form_read t hc HM.out.ins.oks HM.out.outs.oks HM.out.fee)
      rw [show putF t = formB t by unfold putF; rw [if_pos hc]] at P1 SZ
      rw [show idT t = idD (formB t) by unfold idT; rw [if_pos hc]] at ID1
      rw [hc] at K1 C1 P1
      obtain ⟨fs, hfs⟩ : ∃ fs, fs = formB t := ⟨_, rfl⟩
      rw [← hfs] at ID1 RI1 P1 RP1 SZ hf1 HRD
      clear hfs hc WT
      obtain ⟨CA, hCA⟩ : ∃ CA, CA = ((idD fs).map bv).toArray := ⟨_, rfl⟩
      have eqB : ∀ w, (Op.equalIn 10000 35 (.agg CA) (.agg CA)).run Tryd.prog w = .ok true w := fun w => by
        have h := eq_id (idD fs) (idD fs) (idD_len _) (idD_len _) w
        rw [hCA, h]; simp
      rw [← hCA] at ID1 RI1
      have HBY := Lib.hid (fun (X Y : Option Addr) (m n : Nat) (w' : World) (hx : Sl w' w'.heap.size X (fs.map bv)) (hy : Sl w' w'.heap.size Y (fs.map bv)) => show Calls Tryd.prog 14 #[.slice X fs.length m, .slice Y fs.length n] w' (fun e w'' => e = Ending.returned (.bool true) ∧ Below w'.heap.size w' w'') from (rbytes_any X Y m n _ _ fs fs w' hx hy (by unfold maxLen; omega) (by unfold maxLen; omega)).mono (fun e w'' ⟨h1, n, h2⟩ => ⟨by rw [h1]; simp, by rw [h2]; exact ⟨rfl, rfl, rfl, Nat.le_refl _, fun _ _ => rfl⟩⟩))
      have RDR := Lib.hid (fun (X : Option Addr) (m : Nat) (w' : World) (hx : Sl w' w'.heap.size X (fs.map bv)) (h0 : X = none → m = 0) (hm : fs.length ≤ m) => tread_any X m fs w' hx h0 hm (by omega))
      rw [HRD.out.1, HRD.out.2] at RDR
      unfold txV at RI1 RP1 RDR
      clear hCA
      go_enter Tryd.func3, Tryd.ntmps3
      go_upto_region 1 with fail
      change Code.wp _ _ _ _ (w.alloc (.cells #[.slice A1 t.ins.length k1, .slice A2 t.outs.length k2, .int .u64 (t.fee : Int), .int .i64 t.exp] 26))
      rw [← hw0]
      clear hw0
      go_wp2_with fail
      refine (G1.out _ H0.out).mono ?_
      rintro e w1 ⟨rfl, kk⟩
      have H1 := Lib.hid (HST.out _ _ H0.out kk)
      clear kk c0 c1 c2 c3
      obtain ⟨c0, c1, c2, c3⟩ := CF.out _ H1.out
      go_wp2_with fail
      refine (K1.out _ H1.out).mono ?_
      rintro e w2 ⟨rfl, kk⟩
      have H2 := Lib.hid (HST.out _ _ H1.out kk)
      clear kk c0 c1 c2 c3
      obtain ⟨c0, c1, c2, c3⟩ := CF.out _ H2.out
      go_wp2_with fail
      refine (P1.out _ H2.out).mono ?_
      rintro e w3 ⟨u3, rfl, o3, t3⟩
      obtain ⟨X3, m3, rfl, s3, -, hm3, ha3⟩ := own_sl o3
      have kk3 : Below w2.heap.size w2 w3 := turn_stp t3
      have H3 := Lib.hid (HST.out _ _ H2.out kk3)
      have HX3 := Lib.hid s3
      have HA3 := Lib.hid ha3
      clear t3 kk3 o3 s3 ha3 c0 c1 c2 c3
      obtain ⟨c0, c1, c2, c3⟩ := CF.out _ H3.out
      go_wp2_with fail
      refine (C1.out _ H3.out).mono ?_
      rintro e w4 ⟨rfl, kk⟩
      have H4 := Lib.hid (HST.out _ _ H3.out kk)
      have HX4 := Lib.hid ((HX3.out.below kk).more kk.size)
      clear kk c0 c1 c2 c3
      obtain ⟨c0, c1, c2, c3⟩ := CF.out _ H4.out
      go_wp2_with fail
      refine (RDR.out X3 m3 w4 HX4.out HA3.out hm3).mono ?_
      rintro e w5 ⟨Ai, ci, Ao, co, rfl, at5, t5⟩
      have kk5 : Below w4.heap.size w4 w5 := turn_stp t5
      have H5 := Lib.hid (HST.out _ _ H4.out kk5)
      have HX5 := Lib.hid ((HX4.out.below kk5).more kk5.size)
      have HAT5 := Lib.hid at5
      clear kk5 t5 at5 c0 c1 c2 c3
      obtain ⟨c0, c1, c2, c3⟩ := CF.out _ H5.out
      go_wp2_with fail
      obtain ⟨w6, hw6⟩ : ∃ w6, w6 = w5.alloc (.cells #[.slice Ai t.ins.length ci, .slice Ao t.outs.length co, .int .u64 (t.fee : Int), .int .i64 t.exp] 26) := ⟨_, rfl⟩
      have hb6 : Below w5.heap.size w5 w6 := by rw [hw6]; exact (Below.refl _ _).alloc (Nat.le_refl _) _
      have hg6 : w6.heap[w5.heap.size]? = some (.cells (txL Ai ci Ao co t).toArray 26 (0, 0)) := by rw [hw6]; exact heap_alloc_new _ _
      rw [← hw6]
      have H6 := Lib.hid (HST.out _ _ H5.out hb6)
      have HWS := Lib.hid (fun (w' : World) (k : Stp w6.drew w') => show Stp w0 w' from stp_start k H6.out)
      have HW6 := Lib.hid (fun (w' : World) (k : Stp w6.drew w') => show Below w6.heap.size w6 w' from stp_start k (Below.refl _ _))
      have RU := Lib.hid (fun (w' : World) (k : Stp w6.drew w') => range_row (heap_below (HW6.out w' k) hg6))
      have HX6 := Lib.hid (fun (w' : World) (k : Stp w6.drew w') => show Sl w' w'.heap.size X3 (fs.map bv) from (((HX5.out.below hb6).more hb6.size).below (HW6.out w' k)).more (HW6.out w' k).size)
      have hat6 := HAT5.out.turn (Turn.of_below hb6) (fun _ _ h => h)
      have RS := Lib.hid (fun (w' : World) (k : Stp w6.drew w') => (rsame_any Ai Ao A1 A2 ci co k1 k2 w'.heap.size t t w' ((hat6.turn (Turn.of_below (HW6.out w' k)) (fun _ _ h => h)).more (Nat.le_trans hb6.size (HW6.out w' k).size)) ((AT1.out w' (HWS.out w' k)).more (HSZ.out w' (HWS.out w' k)))).mono (fun _ _ ⟨h1, h2⟩ => And.intro h1 (show Below w'.heap.size w' _ from turn_stp h2)))
      rw [show sameB t t = true by simp [sameB]] at RS
      unfold txV at RS
      clear hw6 hb6 hg6 hat6 HX5 c0 c1 c2 c3
      refine wp_region_rel_tail 30 82 (by kernel_rfl) (by kernel_rfl) Stp [.one ?_, .one ?_, .rel (fun v w => w.ownsRow w6.heap.size 5 1 v fs.length (fs.map bv)), .one ?_, .one ?_, .one ?_, .one ?_, .one ?_, .one ?_, .one ?_, .one ?_, .one ?_, .one ?_, .one ?_, .one ?_, .one ?_, .one ?_, .one ?_, .one ?_, .one ?_, .one ?_, .one ?_, .one ?_, .one ?_, .one ?_, .one ?_, .one ?_, .one ?_, .one ?_, .one ?_] (by kernel_rfl) rfl (by kernel_rfl) Stp.refl Stp.trans ⟨fun v w w' h1 h2 => own_below h1 h2, trivial⟩ ?main
      case main =>
      simp only [List.take_succ_cons, List.take_zero, List.drop_succ_cons, List.drop_zero]
      iterate 1
        refine wpR_one (A' := ?_) Stp.refl (by rfl) _ rfl 82 (by rfl) (by rfl) ?_ ?_ ?_
        rotate_left 1
        · simp only [Act.put, List.setIfInBounds_toArray, List.set_cons_zero, List.set_cons_succ]; rfl
        · intro w1 hs hf K hK
          go_big_quiet_op
          first
            | go_big_quiet_on
            | (refine ⟨_, fun _ _ => rfl, ?_⟩; go_big_quiet_on)
          rfl
      refine wpR_one (A' := ?_) Stp.refl (by rfl) _ rfl 82 (by rfl) (by rfl) ?_ ?_ ?_
      rotate_left 1
      · simp only [Act.put, List.setIfInBounds_toArray, List.set_cons_zero, List.set_cons_succ]; rfl
      · intro w1 hs hf K hK
        refine cls_load 26 (.tmp 1) rfl (w.heap.size) (0) rfl (txL A1 k1 A2 k2 t) _ (fun w2 h2 => RA.out w2 (Stp.trans _ _ _ (HWS.out w1 hs) h2)) Tryd.underlying26 rfl (by kernel_rfl) ?_
        refine hK _ ?_
        simp only [Act.put, List.setIfInBounds_toArray, List.set_cons_zero, List.set_cons_succ]
        rfl
      refine wpR_rel (A' := ?_) (by rfl) ?_ ?_ ?_
      · intro w1 hs hf
        refine does_call (w' := w1) (f := 15) (args := #[.agg (txL A1 k1 A2 k2 t).toArray]) (by kernel_rfl) ((RP1.out w1 (HWS.out w1 hs)).mono ?_)
        rintro e w3 ⟨v, rfl, ho, h3⟩
        exact ⟨v, rfl, own_more ho (HW6.out w1 hs).size, turn_stp h3⟩
      rotate_left 1
      · intro x
        simp only [Act.put, List.setIfInBounds_toArray, List.set_cons_zero, List.set_cons_succ]; rfl
      intro x54
      refine wpR_one (A' := ?_) Stp.refl (by rfl) _ rfl 82 (by rfl) (by rfl) ?_ ?_ ?_
      rotate_left 1
      · simp only [Act.put, List.setIfInBounds_toArray, List.set_cons_zero, List.set_cons_succ]; rfl
      · intro w1 hs hf K hK
        have hR := AllF_at hf 0 rfl (by kernel_rfl)
        obtain ⟨Y5, m5, rfl, s5, -⟩ := own_sl hR
        have HY5 := Lib.hid s5
        clear s5 hR
        go_big_quiet_op
        apply Exists.intro
        refine ⟨fun w4 h2 => ?_, ?_⟩
        · refine (HBY.out X3 Y5 m3 m5 w4 (HX6.out w4 (Stp.trans _ _ _ hs h2)) ((HY5.out.below h2).more (Below.size h2))).mono ?_
          rintro e w3 ⟨rfl, h3⟩
          exact ⟨rfl, Stp.trans _ _ _ h2 h3⟩
        · go_big_quiet_on
          rfl
      iterate 1
        refine wpR_one (A' := ?_) Stp.refl (by rfl) _ rfl 82 (by rfl) (by rfl) ?_ ?_ ?_
        rotate_left 1
        · simp only [Act.put, List.setIfInBounds_toArray, List.set_cons_zero, List.set_cons_succ]; rfl
        · intro w1 hs hf K hK
          go_big_quiet_op
          first
            | go_big_quiet_on
            | (refine ⟨_, fun _ _ => rfl, ?_⟩; go_big_quiet_on)
          rfl
      refine wpR_one (A' := ?_) Stp.refl (by rfl) _ rfl 82 (by rfl) (by rfl) ?_ ?_ ?_
      rotate_left 1
      · simp only [Act.put, List.setIfInBounds_toArray, List.set_cons_zero, List.set_cons_succ]; rfl
      · intro w1 hs hf K hK
        refine cls_load 26 (.tmp 1) rfl (w.heap.size) (0) rfl (txL A1 k1 A2 k2 t) _ (fun w2 h2 => RA.out w2 (Stp.trans _ _ _ (HWS.out w1 hs) h2)) Tryd.underlying26 rfl (by kernel_rfl) ?_
        refine hK _ ?_
        simp only [Act.put, List.setIfInBounds_toArray, List.set_cons_zero, List.set_cons_succ]
        rfl
      refine wpR_one (A' := ?_) Stp.refl (by rfl) _ rfl 82 (by rfl) (by rfl) ?_ ?_ ?_
      rotate_left 1
      · simp only [Act.put, List.setIfInBounds_toArray, List.set_cons_zero, List.set_cons_succ]; rfl
      · intro w1 hs hf K hK
        go_big_quiet_op
        apply Exists.intro
        refine ⟨fun w4 h2 => ?_, ?_⟩
        · refine (ID1.out w4 (Stp.trans _ _ _ (HWS.out w1 hs) h2)).mono ?_
          rintro e w3 ⟨rfl, h3⟩
          exact ⟨rfl, Stp.trans _ _ _ h2 h3⟩
        · go_big_quiet_on
          rfl
      refine wpR_one (A' := ?_) Stp.refl (by rfl) _ rfl 82 (by rfl) (by rfl) ?_ ?_ ?_
      rotate_left 1
      · simp only [Act.put, List.setIfInBounds_toArray, List.set_cons_zero, List.set_cons_succ]; rfl
      · intro w1 hs hf K hK
        refine cls_load 26 (.tmp 1) rfl (w.heap.size) (0) rfl (txL A1 k1 A2 k2 t) _ (fun w2 h2 => RA.out w2 (Stp.trans _ _ _ (HWS.out w1 hs) h2)) Tryd.underlying26 rfl (by kernel_rfl) ?_
        refine hK _ ?_
        simp only [Act.put, List.setIfInBounds_toArray, List.set_cons_zero, List.set_cons_succ]
        rfl
      refine wpR_one (A' := ?_) Stp.refl (by rfl) _ rfl 82 (by rfl) (by rfl) ?_ ?_ ?_
      rotate_left 1
      · simp only [Act.put, List.setIfInBounds_toArray, List.set_cons_zero, List.set_cons_succ]; rfl
      · intro w1 hs hf K hK
        go_big_quiet_op
        apply Exists.intro
        refine ⟨fun w4 h2 => ?_, ?_⟩
        · refine (RI1.out w4 (Stp.trans _ _ _ (HWS.out w1 hs) h2)).mono ?_
          rintro e w3 ⟨rfl, h3⟩
          exact ⟨rfl, Stp.trans _ _ _ h2 h3⟩
        · go_big_quiet_on
          rfl
      iterate 3
        refine wpR_one (A' := ?_) Stp.refl (by rfl) _ rfl 82 (by rfl) (by rfl) ?_ ?_ ?_
        rotate_left 1
        · simp only [Act.put, List.setIfInBounds_toArray, List.set_cons_zero, List.set_cons_succ]; rfl
        · intro w1 hs hf K hK
          go_big_quiet_op
          first
            | go_big_quiet_on
            | (refine ⟨_, fun _ _ => rfl, ?_⟩; go_big_quiet_on)
          rfl
      refine wpR_one (A' := ?_) Stp.refl (by rfl) _ rfl 82 (by rfl) (by rfl) ?_ ?_ ?_
      rotate_left 1
      · simp only [Act.put, List.setIfInBounds_toArray, List.set_cons_zero, List.set_cons_succ]; rfl
      · intro w1 hs hf K hK
        refine cls_load 26 (.tmp 1) rfl (w.heap.size) (0) rfl (txL A1 k1 A2 k2 t) _ (fun w2 h2 => RA.out w2 (Stp.trans _ _ _ (HWS.out w1 hs) h2)) Tryd.underlying26 rfl (by kernel_rfl) ?_
        refine hK _ ?_
        simp only [Act.put, List.setIfInBounds_toArray, List.set_cons_zero, List.set_cons_succ]
        rfl
      refine wpR_one (A' := ?_) Stp.refl (by rfl) _ rfl 82 (by rfl) (by rfl) ?_ ?_ ?_
      rotate_left 1
      · simp only [Act.put, List.setIfInBounds_toArray, List.set_cons_zero, List.set_cons_succ]; rfl
      · intro w1 hs hf K hK
        go_big_quiet_op
        apply Exists.intro
        refine ⟨fun w4 h2 => ?_, ?_⟩
        · refine (SZ.out w4 (Stp.trans _ _ _ (HWS.out w1 hs) h2)).mono ?_
          rintro e w3 ⟨rfl, h3⟩
          exact ⟨rfl, Stp.trans _ _ _ h2 h3⟩
        · go_big_quiet_on
          rfl
      iterate 9
        refine wpR_one (A' := ?_) Stp.refl (by rfl) _ rfl 82 (by rfl) (by rfl) ?_ ?_ ?_
        rotate_left 1
        · simp only [Act.put, List.setIfInBounds_toArray, List.set_cons_zero, List.set_cons_succ]; rfl
        · intro w1 hs hf K hK
          go_big_quiet_op
          first
            | go_big_quiet_on
            | (refine ⟨_, fun _ _ => rfl, ?_⟩; go_big_quiet_on)
          rfl
      refine wpR_one (A' := ?_) Stp.refl (by rfl) _ rfl 82 (by rfl) (by rfl) ?_ ?_ ?_
      rotate_left 1
      · simp only [Act.put, List.setIfInBounds_toArray, List.set_cons_zero, List.set_cons_succ]; rfl
      · intro w1 hs hf K hK
        refine cls_load 26 (.tmp 6) rfl (w5.heap.size) (0) rfl (txL Ai ci Ao co t) _ (fun w2 h2 => RU.out w2 (Stp.trans _ _ _ hs h2)) Tryd.underlying26 rfl (by kernel_rfl) ?_
        refine hK _ ?_
        simp only [Act.put, List.setIfInBounds_toArray, List.set_cons_zero, List.set_cons_succ]
        rfl
      refine wpR_one (A' := ?_) Stp.refl (by rfl) _ rfl 82 (by rfl) (by rfl) ?_ ?_ ?_
      rotate_left 1
      · simp only [Act.put, List.setIfInBounds_toArray, List.set_cons_zero, List.set_cons_succ]; rfl
      · intro w1 hs hf K hK
        refine cls_load 26 (.tmp 1) rfl (w.heap.size) (0) rfl (txL A1 k1 A2 k2 t) _ (fun w2 h2 => RA.out w2 (Stp.trans _ _ _ (HWS.out w1 hs) h2)) Tryd.underlying26 rfl (by kernel_rfl) ?_
        refine hK _ ?_
        simp only [Act.put, List.setIfInBounds_toArray, List.set_cons_zero, List.set_cons_succ]
        rfl
      refine wpR_one (A' := ?_) Stp.refl (by rfl) _ rfl 82 (by rfl) (by rfl) ?_ ?_ ?_
      rotate_left 1
      · simp only [Act.put, List.setIfInBounds_toArray, List.set_cons_zero, List.set_cons_succ]; rfl
      · intro w1 hs hf K hK
        go_big_quiet_op
        apply Exists.intro
        refine ⟨fun w4 h2 => ?_, ?_⟩
        · refine (RS.out w4 (Stp.trans _ _ _ hs h2)).mono ?_
          rintro e w3 ⟨rfl, h3⟩
          exact ⟨rfl, Stp.trans _ _ _ h2 h3⟩
        · go_big_quiet_on
          rfl
      iterate 2
        refine wpR_one (A' := ?_) Stp.refl (by rfl) _ rfl 82 (by rfl) (by rfl) ?_ ?_ ?_
        rotate_left 1
        · simp only [Act.put, List.setIfInBounds_toArray, List.set_cons_zero, List.set_cons_succ]; rfl
        · intro w1 hs hf K hK
          go_big_quiet_op
          first
            | go_big_quiet_on
            | (refine ⟨_, fun _ _ => rfl, ?_⟩; go_big_quiet_on)
          rfl
      refine wpR_one (A' := ?_) Stp.refl (by rfl) _ rfl 82 (by rfl) (by rfl) ?_ ?_ ?_
      rotate_left 1
      · simp only [Act.put, List.setIfInBounds_toArray, List.set_cons_zero, List.set_cons_succ]; rfl
      · intro w1 hs hf K hK
        go_big_quiet_op
        apply Exists.intro
        refine ⟨fun w4 h2 => ?_, ?_⟩
        · refine (AW.out w4).mono ?_
          rintro e w3 ⟨rfl, h3⟩
          exact ⟨rfl, Stp.trans _ _ _ h2 h3⟩
        · go_big_quiet_on
          rfl
      iterate 1
        refine wpR_one (A' := ?_) Stp.refl (by rfl) _ rfl 82 (by rfl) (by rfl) ?_ ?_ ?_
        rotate_left 1
        · simp only [Act.put, List.setIfInBounds_toArray, List.set_cons_zero, List.set_cons_succ]; rfl
        · intro w1 hs hf K hK
          go_big_quiet_op
          first
            | go_big_quiet_on
            | (refine ⟨_, fun _ _ => rfl, ?_⟩; go_big_quiet_on)
          rfl
      intro w10 hs hf
      have H10 := Lib.hid (HWS.out w10 hs)
      clear hs hf
      go_wp2
      go_ret
      exact ⟨rfl, HB0.out _ H10.out⟩
    · have hpf : putF t = [] := by unfold putF; rw [if_neg hc]
      have hit : idT t = zeros 32 := by unfold idT; rw [if_neg hc]
      obtain ⟨Z, hZ⟩ : ∃ Z, Z = ((zeros 32).map bv).toArray := ⟨_, rfl⟩
      have hzl : ((zeros 32).map bv).toArray = (#[Value.int .u8 0, Value.int .u8 0, Value.int .u8 0, Value.int .u8 0, Value.int .u8 0, Value.int .u8 0, Value.int .u8 0, Value.int .u8 0, Value.int .u8 0, Value.int .u8 0, Value.int .u8 0, Value.int .u8 0, Value.int .u8 0, Value.int .u8 0, Value.int .u8 0, Value.int .u8 0, Value.int .u8 0, Value.int .u8 0, Value.int .u8 0, Value.int .u8 0, Value.int .u8 0, Value.int .u8 0, Value.int .u8 0, Value.int .u8 0, Value.int .u8 0, Value.int .u8 0, Value.int .u8 0, Value.int .u8 0, Value.int .u8 0, Value.int .u8 0, Value.int .u8 0, Value.int .u8 0] : Array Value) := rfl
      have eqZ : ∀ w, (binOp .eql 35 (.agg Z) (.agg #[Value.int .u8 0, Value.int .u8 0, Value.int .u8 0, Value.int .u8 0, Value.int .u8 0, Value.int .u8 0, Value.int .u8 0, Value.int .u8 0, Value.int .u8 0, Value.int .u8 0, Value.int .u8 0, Value.int .u8 0, Value.int .u8 0, Value.int .u8 0, Value.int .u8 0, Value.int .u8 0, Value.int .u8 0, Value.int .u8 0, Value.int .u8 0, Value.int .u8 0, Value.int .u8 0, Value.int .u8 0, Value.int .u8 0, Value.int .u8 0, Value.int .u8 0, Value.int .u8 0, Value.int .u8 0, Value.int .u8 0, Value.int .u8 0, Value.int .u8 0, Value.int .u8 0, Value.int .u8 0])).run Tryd.prog w = .ok (.bool true) w := fun w => by
        rw [hZ, ← hzl, eql_id (zeros 32) (zeros 32) (by simp [zeros]) (by simp [zeros]) w]; simp
      rw [hit, ← hZ] at ID1
      rw [hpf] at P1 SZ
      have t1 : ((chk t : Int) != 0) = true := by simp; omega
      generalize chk t = z at *
      clear hc hpf hit hZ hzl
      go_enter Tryd.func3, Tryd.ntmps3
      go_upto_region 1 with fail
      change Code.wp _ _ _ _ (w.alloc (.cells #[.slice A1 t.ins.length k1, .slice A2 t.outs.length k2, .int .u64 (t.fee : Int), .int .i64 t.exp] 26))
      rw [← hw0]
      clear hw0
      go_wp2_with fail
      refine (G1.out _ H0.out).mono ?_
      rintro e w1 ⟨rfl, kk⟩
      have H1 := Lib.hid (HST.out _ _ H0.out kk)
      clear kk c0 c1 c2 c3
      obtain ⟨c0, c1, c2, c3⟩ := CF.out _ H1.out
      go_wp2_with fail
      refine (K1.out _ H1.out).mono ?_
      rintro e w2 ⟨rfl, kk⟩
      have H2 := Lib.hid (HST.out _ _ H1.out kk)
      clear kk c0 c1 c2 c3
      obtain ⟨c0, c1, c2, c3⟩ := CF.out _ H2.out
      go_wp2_with fail
      refine (P1.out _ H2.out).mono ?_
      rintro e w3 ⟨u3, rfl, o3, t3⟩
      obtain ⟨X3, m3, rfl, s3, -⟩ := own_sl o3
      have kk3 : Below w2.heap.size w2 w3 := turn_stp t3
      have H3 := Lib.hid (HST.out _ _ H2.out kk3)
      clear t3 kk3 o3 s3 c0 c1 c2 c3
      obtain ⟨c0, c1, c2, c3⟩ := CF.out _ H3.out
      go_wp2_with fail
      refine (C1.out _ H3.out).mono ?_
      rintro e w4 ⟨rfl, kk⟩
      have H4 := Lib.hid (HST.out _ _ H3.out kk)
      clear kk c0 c1 c2 c3
      obtain ⟨c0, c1, c2, c3⟩ := CF.out _ H4.out
      go_wp2_with fail
      refine (ID1.out _ H4.out).mono ?_
      rintro e w5 ⟨rfl, kk⟩
      have H5 := Lib.hid (HST.out _ _ H4.out kk)
      clear kk c0 c1 c2 c3
      obtain ⟨c0, c1, c2, c3⟩ := CF.out _ H5.out
      go_wp2_with fail
      refine (SZ.out _ H5.out).mono ?_
      rintro e w6 ⟨rfl, kk⟩
      have H6 := Lib.hid (HST.out _ _ H5.out kk)
      clear kk c0 c1 c2 c3
      obtain ⟨c0, c1, c2, c3⟩ := CF.out _ H6.out
      go_wp2_with fail
      refine (AW.out _).mono ?_
      rintro e w99 ⟨rfl, kk⟩
      have H99 := Lib.hid (HST.out _ _ H6.out kk)
      clear kk
      go_wp2
      go_ret
      exact ⟨rfl, HB0.out _ H99.out⟩
  · rw [great_yes hgs] at G1
    clear hgs
    go_enter Tryd.func3, Tryd.ntmps3
    go_upto_region 1 with fail
    change Code.wp _ _ _ _ (w.alloc (.cells #[.slice A1 t.ins.length k1, .slice A2 t.outs.length k2, .int .u64 (t.fee : Int), .int .i64 t.exp] 26))
    rw [← hw0]
    clear hw0
    go_wp2_with fail
    refine (G1.out _ H0.out).mono ?_
    rintro e w1 ⟨rfl, kk⟩
    have H1 := Lib.hid (HST.out _ _ H0.out kk)
    clear kk c0 c1 c2 c3
    obtain ⟨c0, c1, c2, c3⟩ := CF.out _ H1.out
    go_wp2_with fail
    refine (AW.out _).mono ?_
    rintro e w99 ⟨rfl, kk⟩
    have H99 := Lib.hid (HST.out _ _ H1.out kk)
    clear kk
    go_wp2
    go_ret
    exact ⟨rfl, HB0.out _ H99.out⟩
end Go.Proofs.YtpoddemokeppmaaDoor
