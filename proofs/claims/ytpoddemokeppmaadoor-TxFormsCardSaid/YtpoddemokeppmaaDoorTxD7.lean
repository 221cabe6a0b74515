/- 'TxSame': its walk. -/
import Derived.Test.YtpoddemokeppmaaDoorTxD6
import Derived.Test.YtpoddemokeppmaaDoorTxV
import Derived.Test.YtpoddemokeppmaaDoorCls
set_option linter.unusedVariables false
set_option linter.unusedSimpArgs false
namespace Go.Proofs.YtpoddemokeppmaaDoor
open Go.RowKit
def txL (Ai : Option Addr) (ci : Nat) (Ao : Option Addr) (co : Nat) (t : Ptx) : List Value := [.slice Ai t.ins.length ci, .slice Ao t.outs.length co, .int .u64 (t.fee : Int), .int .i64 t.exp]
set_option maxRecDepth 100000 in
set_option maxHeartbeats 8000000 in
theorem txSame_walk (A1 : Option Addr) (k1 : Nat) (A2 : Option Addr) (k2 : Nat) (s : Ptx) (A3 : Option Addr) (k3 : Nat) (A4 : Option Addr) (k4 : Nat) (t : Ptx) (w : World) (h : TxAt w w.heap.size A1 k1 A2 k2 s) (h' : TxAt w w.heap.size A3 k3 A4 k4 t) (hG : Glob w) :
    Calls Tryd.prog 4 #[txV A1 k1 A2 k2 s, txV A3 k3 A4 k4 t] w fun e w' => e = .returned (.bool true) ∧ Below w.heap.size w w' := by
  obtain ⟨w0, hw0⟩ : ∃ w0, w0 = (w.alloc (.cells #[.slice A1 s.ins.length k1, .slice A2 s.outs.length k2, .int .u64 (s.fee : Int), .int .i64 s.exp] 26)).alloc (.cells #[.slice A3 t.ins.length k3, .slice A4 t.outs.length k4, .int .u64 (t.fee : Int), .int .i64 t.exp] 26) := ⟨_, rfl⟩
  have hT0 : Turn (fun _ => False) w w0 := by rw [hw0]; exact ((Turn.refl _ _).alloc _).alloc _
  have hga : w0.heap[w.heap.size]? = some (.cells #[.slice A1 s.ins.length k1, .slice A2 s.outs.length k2, .int .u64 (s.fee : Int), .int .i64 s.exp] 26 (0, 0)) := by rw [hw0]; exact heap_alloc2_old _ _ _
  have hgb : w0.heap[w.heap.size + 1]? = some (.cells #[.slice A3 t.ins.length k3, .slice A4 t.outs.length k4, .int .u64 (t.fee : Int), .int .i64 t.exp] 26 (0, 0)) := by rw [hw0]; exact heap_alloc2_new _ _ _
  have CF := Lib.hid (fun (w' : World) (k : Stp w0 w') => And.intro (row4 (heap_below k hga)).1 (row4 (heap_below k hgb)).1)
  have RA := Lib.hid (fun (w' : World) (k : Stp w0 w') => range_row (cs := txL A1 k1 A2 k2 s) (heap_below k hga))
  have RB := Lib.hid (fun (w' : World) (k : Stp w0 w') => range_row (cs := txL A3 k3 A4 k4 t) (heap_below k hgb))
  have HST := Lib.hid (fun (x y : World) (h : Stp w0 x) (k : Below x.heap.size x y) => show Stp w0 y from Stp.trans _ _ _ h k)
  have H0 := Lib.hid (Stp.refl w0)
  have hb0 : Below w.heap.size w w0 := turn_stp hT0
  have HB0 := Lib.hid (fun (y : World) (k : Stp w0 y) => show Below w.heap.size w y from hb0.trans (Below.mono k hb0.size))
  obtain ⟨⟨c0, c1, c2, c3⟩, ⟨d0, d1, d2, d3⟩⟩ := CF.out w0 (Stp.refl _)
  have at1 := h.turn hT0 (fun _ _ h => h)
  have at2 := h'.turn hT0 (fun _ _ h => h)
  have AT1 := Lib.hid (fun (w' : World) (k : Stp w0 w') => at1.turn (Turn.of_below k) (fun _ _ h => h))
  have AT2 := Lib.hid (fun (w' : World) (k : Stp w0 w') => at2.turn (Turn.of_below k) (fun _ _ h => h))
  have HSZ := Lib.hid (fun (w' : World) (k : Stp w0 w') => show w.heap.size ≤ w'.heap.size from Nat.le_trans hT0.size (Below.size k))
  have GL := Lib.hid (fun (w' : World) (k : Stp w0 w') => show Glob w' from (hG.below hb0 hG.1).below k (hG.below hb0 hG.1).1)
  have AW := Lib.hid awake_b
  have G1 := Lib.hid (fun (w' : World) (k : Stp w0 w') => (great_any A1 A2 k1 k2 _ s w' (AT1.out w' k)).mono (fun _ _ ⟨h1, h2⟩ => And.intro h1 (show Below w'.heap.size w' _ from turn_stp h2)))
  have G2 := Lib.hid (fun (w' : World) (k : Stp w0 w') => (great_any A3 A4 k3 k4 _ t w' (AT2.out w' k)).mono (fun _ _ ⟨h1, h2⟩ => And.intro h1 (show Below w'.heap.size w' _ from turn_stp h2)))
  have S12 := Lib.hid (fun (w' : World) (k : Stp w0 w') => (rsame_any A1 A2 A3 A4 k1 k2 k3 k4 _ s t w' (AT1.out w' k) (AT2.out w' k)).mono (fun _ _ ⟨h1, h2⟩ => And.intro h1 (show Below w'.heap.size w' _ from turn_stp h2)))
  have T12 := Lib.hid (fun (w' : World) (k : Stp w0 w') => (tsame_any A1 A2 A3 A4 k1 k2 k3 k4 _ s t w' (AT1.out w' k) (AT2.out w' k)).mono (fun _ _ ⟨h1, h2⟩ => And.intro h1 (show Below w'.heap.size w' _ from turn_stp h2)))
  have T11 := Lib.hid (fun (w' : World) (k : Stp w0 w') => (tsame_any A1 A2 A1 A2 k1 k2 k1 k2 _ s s w' (AT1.out w' k) (AT1.out w' k)).mono (fun _ _ ⟨h1, h2⟩ => And.intro h1 (show Below w'.heap.size w' _ from turn_stp h2)))
  rw [show sameB s s = true by simp [sameB]] at T11
  have K1 := Lib.hid (fun (w' : World) (k : Stp w0 w') => (rcheck_any A1 A2 k1 k2 _ s w' (AT1.out w' k)).mono (fun _ _ ⟨h1, h2⟩ => And.intro h1 (show Below w'.heap.size w' _ from turn_stp h2)))
  have K2 := Lib.hid (fun (w' : World) (k : Stp w0 w') => (rcheck_any A3 A4 k3 k4 _ t w' (AT2.out w' k)).mono (fun _ _ ⟨h1, h2⟩ => And.intro h1 (show Below w'.heap.size w' _ from turn_stp h2)))
  have HM := Lib.hid h
  have HM' := Lib.hid h'
  obtain ⟨r, hr⟩ : ∃ r, r = sameB s t := ⟨_, rfl⟩
  rw [← hr] at S12 T12
  have HRR := Lib.hid hr
  unfold txV at G1 G2 S12 T12 T11 K1 K2 ⊢
  clear h h' hT0 hga hgb hb0 at1 at2 hG hr
  cases hgs : greatB s
  · rw [great_no hgs] at G1
    clear hgs
    cases hgt : greatB t
    · rw [great_no hgt] at G2
      clear hgt
      by_cases hcs : chk s = 0
      · rw [hcs] at K1
        by_cases hct : chk t = 0
        · rw [hct] at K2
          have WS := chk_ok hcs
          have WT := chk_ok hct
          have ID1 := Lib.hid (fun (w' : World) (k : Stp w0 w') => tid_any A1 A2 k1 k2 _ s w' (AT1.out w' k) (HSZ.out w' k) (GL.out w' k))
          have ID2 := Lib.hid (fun (w' : World) (k : Stp w0 w') => tid_any A3 A4 k3 k4 _ t w' (AT2.out w' k) (HSZ.out w' k) (GL.out w' k))
          have RI1 := Lib.hid (fun (w' : World) (k : Stp w0 w') => rid_any A1 A2 k1 k2 _ s w' (AT1.out w' k) (HSZ.out w' k) WS)
          have RI2 := Lib.hid (fun (w' : World) (k : Stp w0 w') => rid_any A3 A4 k3 k4 _ t w' (AT2.out w' k) (HSZ.out w' k) WT)
          have P1 := Lib.hid (fun (w' : World) (k : Stp w0 w') => put_any A1 A2 k1 k2 _ s w' (AT1.out w' k) (HSZ.out w' k))
          have P2 := Lib.hid (fun (w' : World) (k : Stp w0 w') => put_any A3 A4 k3 k4 _ t w' (AT2.out w' k) (HSZ.out w' k))
          rw [hcs] at P1
          rw [hct] at P2
          rw [show putF s = formB s by unfold putF; rw [if_pos hcs]] at P1
          rw [show putF t = formB t by unfold putF; rw [if_pos hct]] at P2
          rw [show idT s = idD (formB s) by unfold idT; rw [if_pos hcs]] at ID1
          rw [show idT t = idD (formB t) by unfold idT; rw [if_pos hct]] at ID2
          have hf1 := formB_le WS HM.out.ins.oks HM.out.outs.oks HM.out.fee
          have hf2 := formB_le WT HM'.out.ins.oks HM'.out.outs.oks HM'.out.fee
          have HFS := Lib.hid (show decide (formB s = formB t) = r from by
            rw [HRR.out]; unfold sameB
            rw [decide_eq_decide]
            exact ⟨fun h => form_inj hcs hct HM.out.ins.oks HM.out.outs.oks HM.out.fee HM'.out.ins.oks HM'.out.outs.oks HM'.out.fee h, fun h => by rw [h]⟩)
          have HIS := Lib.hid (show r = true → decide (idD (formB s) = idD (formB t)) = true from fun h => by
            rw [HRR.out] at h
            unfold sameB at h
            rw [decide_eq_true_eq] at h
            rw [h]; simp)
          obtain ⟨fs, hfs⟩ : ∃ fs, fs = formB s := ⟨_, rfl⟩
          obtain ⟨ft, hft⟩ : ∃ ft, ft = formB t := ⟨_, rfl⟩
          rw [← hfs] at ID1 RI1 P1 hf1 HFS HIS
          rw [← hft] at ID2 RI2 P2 hf2 HFS HIS
          clear hfs hft hcs hct WS WT
          obtain ⟨CA, hCA⟩ : ∃ CA, CA = ((idD fs).map bv).toArray := ⟨_, rfl⟩
          obtain ⟨CB, hCB⟩ : ∃ CB, CB = ((idD ft).map bv).toArray := ⟨_, rfl⟩
          have eqB : ∀ w, (Op.equalIn 10000 35 (.agg CA) (.agg CB)).run Tryd.prog w = .ok (decide (idD fs = idD ft)) w := fun w => by rw [hCA, hCB]; exact eq_id (idD fs) (idD ft) (idD_len _) (idD_len _) w
          rw [← hCA] at ID1 RI1
          rw [← hCB] at ID2 RI2
          generalize decide (idD fs = idD ft) = r8 at *
          have HBY := Lib.hid (fun (X Y : Option Addr) (m n : Nat) (w' : World) (hx : Sl w' w'.heap.size X (fs.map bv)) (hy : Sl w' w'.heap.size Y (ft.map bv)) => show Calls Tryd.prog 14 #[.slice X fs.length m, .slice Y ft.length n] w' (fun e w'' => e = Ending.returned (.bool (decide (fs = ft))) ∧ Below w'.heap.size w' w'') from (rbytes_any X Y m n _ _ fs ft w' hx hy (by unfold maxLen; omega) (by unfold maxLen; omega)).mono (fun e w'' ⟨h1, n, h2⟩ => ⟨h1, by rw [h2]; exact ⟨rfl, rfl, rfl, Nat.le_refl _, fun _ _ => rfl⟩⟩))
          rw [HFS.out] at HBY
          unfold txV at ID1 ID2 RI1 RI2 P1 P2
          clear hCA hCB
          cases r
          · go_enter Tryd.func4, Tryd.ntmps4
            go_upto_region 1 with fail
            change Code.wp _ _ _ _ ((w.alloc (.cells #[.slice A1 s.ins.length k1, .slice A2 s.outs.length k2, .int .u64 (s.fee : Int), .int .i64 s.exp] 26)).alloc (.cells #[.slice A3 t.ins.length k3, .slice A4 t.outs.length k4, .int .u64 (t.fee : Int), .int .i64 t.exp] 26))
            rw [← hw0]
            clear hw0
            go_wp2_with fail
            refine (G1.out _ H0.out).mono ?_
            rintro e w1 ⟨rfl, kk⟩
            have H1 := Lib.hid (HST.out _ _ H0.out kk)
            clear kk c0 c1 c2 c3 d0 d1 d2 d3
            obtain ⟨⟨c0, c1, c2, c3⟩, ⟨d0, d1, d2, d3⟩⟩ := CF.out _ H1.out
            go_wp2_with fail
            refine (G2.out _ H1.out).mono ?_
            rintro e w2 ⟨rfl, kk⟩
            have H2 := Lib.hid (HST.out _ _ H1.out kk)
            clear kk c0 c1 c2 c3 d0 d1 d2 d3
            obtain ⟨⟨c0, c1, c2, c3⟩, ⟨d0, d1, d2, d3⟩⟩ := CF.out _ H2.out
            go_wp2_with fail
            refine (S12.out _ H2.out).mono ?_
            rintro e w3 ⟨rfl, kk⟩
            have H3 := Lib.hid (HST.out _ _ H2.out kk)
            clear kk c0 c1 c2 c3 d0 d1 d2 d3
            obtain ⟨⟨c0, c1, c2, c3⟩, ⟨d0, d1, d2, d3⟩⟩ := CF.out _ H3.out
            go_wp2_with fail
            refine (T12.out _ H3.out).mono ?_
            rintro e w4 ⟨rfl, kk⟩
            have H4 := Lib.hid (HST.out _ _ H3.out kk)
            clear kk c0 c1 c2 c3 d0 d1 d2 d3
            obtain ⟨⟨c0, c1, c2, c3⟩, ⟨d0, d1, d2, d3⟩⟩ := CF.out _ H4.out
            go_wp2_with fail
            refine (T11.out _ H4.out).mono ?_
            rintro e w5 ⟨rfl, kk⟩
            have H5 := Lib.hid (HST.out _ _ H4.out kk)
            clear kk c0 c1 c2 c3 d0 d1 d2 d3
            obtain ⟨⟨c0, c1, c2, c3⟩, ⟨d0, d1, d2, d3⟩⟩ := CF.out _ H5.out
            go_wp2_with fail
            refine (K1.out _ H5.out).mono ?_
            rintro e w6 ⟨rfl, kk⟩
            have H6 := Lib.hid (HST.out _ _ H5.out kk)
            clear kk c0 c1 c2 c3 d0 d1 d2 d3
            obtain ⟨⟨c0, c1, c2, c3⟩, ⟨d0, d1, d2, d3⟩⟩ := CF.out _ H6.out
            go_wp2_with fail
            refine (K2.out _ H6.out).mono ?_
            rintro e w7 ⟨rfl, kk⟩
            have H7 := Lib.hid (HST.out _ _ H6.out kk)
            clear kk c0 c1 c2 c3 d0 d1 d2 d3
            obtain ⟨⟨c0, c1, c2, c3⟩, ⟨d0, d1, d2, d3⟩⟩ := CF.out _ H7.out
            go_wp2_with fail
            have HWS := Lib.hid (fun (w' : World) (k : Stp w7.drew w') => show Stp w0 w' from stp_start k H7.out)
            refine wp_region_rel 79 Stp [.one ?_, .one ?_, .one ?_, .one ?_, .one ?_, .one ?_, .one ?_, .one ?_, .one ?_] (by kernel_rfl) (by kernel_rfl) rfl (by kernel_rfl) Stp.refl Stp.trans trivial ?main
            case main =>
            iterate 3
              refine wpR_one (A' := ?_) Stp.refl (by rfl) _ rfl 79 (by rfl) (by rfl) ?_ ?_ ?_
              rotate_left 1
              · simp only [Act.put, List.setIfInBounds_toArray, List.set_cons_zero, List.set_cons_succ]; rfl
              · intro w1 hs hf K hK
                go_big_quiet_op
                first
                  | go_big_quiet_on
                  | (refine ⟨_, fun _ _ => rfl, ?_⟩; go_big_quiet_on)
                rfl
            refine wpR_one (A' := ?_) Stp.refl (by rfl) _ rfl 79 (by rfl) (by rfl) ?_ ?_ ?_
            rotate_left 1
            · simp only [Act.put, List.setIfInBounds_toArray, List.set_cons_zero, List.set_cons_succ]; rfl
            · intro w1 hs hf K hK
              refine cls_load 26 (.tmp 2) rfl (w.heap.size) (0) rfl (txL A1 k1 A2 k2 s) _ (fun w2 h2 => RA.out w2 (Stp.trans _ _ _ (HWS.out w1 hs) h2)) Tryd.underlying26 rfl (by kernel_rfl) ?_
              refine hK _ ?_
              simp only [Act.put, List.setIfInBounds_toArray, List.set_cons_zero, List.set_cons_succ]
              rfl
            refine wpR_one (A' := ?_) Stp.refl (by rfl) _ rfl 79 (by rfl) (by rfl) ?_ ?_ ?_
            rotate_left 1
            · simp only [Act.put, List.setIfInBounds_toArray, List.set_cons_zero, List.set_cons_succ]; rfl
            · intro w1 hs hf K hK
              go_big_quiet_op
              apply Exists.intro
              refine ⟨fun w4 h2 => ?_, ?_⟩
              · refine (RI1.out w4 (Stp.trans _ _ _ (HWS.out w1 hs) h2)).mono ?_
                rintro e w3 ⟨rfl, h3⟩
                exact ⟨rfl, Stp.trans _ _ _ h2 h3⟩
              · go_big_quiet_on
                rfl
            refine wpR_one (A' := ?_) Stp.refl (by rfl) _ rfl 79 (by rfl) (by rfl) ?_ ?_ ?_
            rotate_left 1
            · simp only [Act.put, List.setIfInBounds_toArray, List.set_cons_zero, List.set_cons_succ]; rfl
            · intro w1 hs hf K hK
              refine cls_load 26 (.tmp 3) rfl (w.heap.size + 1) (0) rfl (txL A3 k3 A4 k4 t) _ (fun w2 h2 => RB.out w2 (Stp.trans _ _ _ (HWS.out w1 hs) h2)) Tryd.underlying26 rfl (by kernel_rfl) ?_
              refine hK _ ?_
              simp only [Act.put, List.setIfInBounds_toArray, List.set_cons_zero, List.set_cons_succ]
              rfl
            refine wpR_one (A' := ?_) Stp.refl (by rfl) _ rfl 79 (by rfl) (by rfl) ?_ ?_ ?_
            rotate_left 1
            · simp only [Act.put, List.setIfInBounds_toArray, List.set_cons_zero, List.set_cons_succ]; rfl
            · intro w1 hs hf K hK
              go_big_quiet_op
              apply Exists.intro
              refine ⟨fun w4 h2 => ?_, ?_⟩
              · refine (RI2.out w4 (Stp.trans _ _ _ (HWS.out w1 hs) h2)).mono ?_
                rintro e w3 ⟨rfl, h3⟩
                exact ⟨rfl, Stp.trans _ _ _ h2 h3⟩
              · go_big_quiet_on
                rfl
            iterate 2
              refine wpR_one (A' := ?_) Stp.refl (by rfl) _ rfl 79 (by rfl) (by rfl) ?_ ?_ ?_
              rotate_left 1
              · simp only [Act.put, List.setIfInBounds_toArray, List.set_cons_zero, List.set_cons_succ]; rfl
              · intro w1 hs hf K hK
                go_big_quiet_op
                first
                  | go_big_quiet_on
                  | (refine ⟨_, fun _ _ => rfl, ?_⟩; go_big_quiet_on)
                rfl
            intro w77 hs hf
            have H77 := Lib.hid (HWS.out w77 hs)
            clear hs hf HWS c0 c1 c2 c3 d0 d1 d2 d3
            obtain ⟨⟨c0, c1, c2, c3⟩, ⟨d0, d1, d2, d3⟩⟩ := CF.out _ H77.out
            cases r8
            · go_wp2_with fail
              refine (P1.out _ H77.out).mono ?_
              rintro e w8 ⟨u8, rfl, o8, k8⟩
              obtain ⟨X8, m8, rfl, s8, -⟩ := own_sl o8
              have kk8 : Below w77.heap.size w77 w8 := turn_stp k8
              have H8 := Lib.hid (HST.out _ _ H77.out kk8)
              have HX8 := Lib.hid s8
              clear k8 kk8 o8 s8 c0 c1 c2 c3 d0 d1 d2 d3
              obtain ⟨⟨c0, c1, c2, c3⟩, ⟨d0, d1, d2, d3⟩⟩ := CF.out _ H8.out
              go_wp2_with fail
              refine (P2.out _ H8.out).mono ?_
              rintro e w9 ⟨u9, rfl, o9, k9⟩
              obtain ⟨X9, m9, rfl, s9, -⟩ := own_sl o9
              have kk9 : Below w8.heap.size w8 w9 := turn_stp k9
              have H9 := Lib.hid (HST.out _ _ H8.out kk9)
              have HX9 := Lib.hid (s9)
              have HX8' := Lib.hid (HX8.out.below kk9)
              have HS89 := Lib.hid kk9.size
              clear k9 kk9 o9 s9 HX8 c0 c1 c2 c3 d0 d1 d2 d3
              go_wp2_with fail
              have HWS := Lib.hid (fun (w' : World) (k : Stp w9.drew w') => show Stp w0 w' from stp_start k H9.out)
              have HY8 := Lib.hid (fun (w' : World) (k : Stp w9.drew w') => show Sl w' w'.heap.size X8 (fs.map bv) from ((HX8'.out.more HS89.out).below (stp_start k (Below.refl _ _))).more (stp_start k (Below.refl w9.heap.size w9)).size)
              have HY9 := Lib.hid (fun (w' : World) (k : Stp w9.drew w') => show Sl w' w'.heap.size X9 (ft.map bv) from (HX9.out.below (stp_start k (Below.refl _ _))).more (stp_start k (Below.refl w9.heap.size w9)).size)
              refine wp_region_rel_tail 17 79 (by kernel_rfl) (by kernel_rfl) Stp [.one ?_, .one ?_, .one ?_, .one ?_, .one ?_, .one ?_, .one ?_, .one ?_, .one ?_, .one ?_, .one ?_, .one ?_, .one ?_, .one ?_, .one ?_, .one ?_, .one ?_] (by kernel_rfl) rfl (by kernel_rfl) Stp.refl Stp.trans trivial ?main
              case main =>
              simp only [List.take_succ_cons, List.take_zero, List.drop_succ_cons, List.drop_zero]
              iterate 2
                refine wpR_one (A' := ?_) Stp.refl (by rfl) _ rfl 79 (by rfl) (by rfl) ?_ ?_ ?_
                rotate_left 1
                · simp only [Act.put, List.setIfInBounds_toArray, List.set_cons_zero, List.set_cons_succ]; rfl
                · intro w1 hs hf K hK
                  go_big_quiet_op
                  first
                    | go_big_quiet_on
                    | (refine ⟨_, fun _ _ => rfl, ?_⟩; go_big_quiet_on)
                  rfl
              refine wpR_one (A' := ?_) Stp.refl (by rfl) _ rfl 79 (by rfl) (by rfl) ?_ ?_ ?_
              rotate_left 1
              · simp only [Act.put, List.setIfInBounds_toArray, List.set_cons_zero, List.set_cons_succ]; rfl
              · intro w1 hs hf K hK
                go_big_quiet_op
                apply Exists.intro
                refine ⟨fun w4 h2 => ?_, ?_⟩
                · refine (HBY.out X8 X9 m8 m9 w4 (HY8.out w4 (Stp.trans _ _ _ hs h2)) (HY9.out w4 (Stp.trans _ _ _ hs h2))).mono ?_
                  rintro e w3 ⟨rfl, h3⟩
                  exact ⟨rfl, Stp.trans _ _ _ h2 h3⟩
                · go_big_quiet_on
                  rfl
              iterate 3
                refine wpR_one (A' := ?_) Stp.refl (by rfl) _ rfl 79 (by rfl) (by rfl) ?_ ?_ ?_
                rotate_left 1
                · simp only [Act.put, List.setIfInBounds_toArray, List.set_cons_zero, List.set_cons_succ]; rfl
                · intro w1 hs hf K hK
                  go_big_quiet_op
                  first
                    | go_big_quiet_on
                    | (refine ⟨_, fun _ _ => rfl, ?_⟩; go_big_quiet_on)
                  rfl
              refine wpR_one (A' := ?_) Stp.refl (by rfl) _ rfl 79 (by rfl) (by rfl) ?_ ?_ ?_
              rotate_left 1
              · simp only [Act.put, List.setIfInBounds_toArray, List.set_cons_zero, List.set_cons_succ]; rfl
              · intro w1 hs hf K hK
                refine cls_load 26 (.tmp 2) rfl (w.heap.size) (0) rfl (txL A1 k1 A2 k2 s) _ (fun w2 h2 => RA.out w2 (Stp.trans _ _ _ (HWS.out w1 hs) h2)) Tryd.underlying26 rfl (by kernel_rfl) ?_
                refine hK _ ?_
                simp only [Act.put, List.setIfInBounds_toArray, List.set_cons_zero, List.set_cons_succ]
                rfl
              refine wpR_one (A' := ?_) Stp.refl (by rfl) _ rfl 79 (by rfl) (by rfl) ?_ ?_ ?_
              rotate_left 1
              · simp only [Act.put, List.setIfInBounds_toArray, List.set_cons_zero, List.set_cons_succ]; rfl
              · intro w1 hs hf K hK
                go_big_quiet_op
                apply Exists.intro
                refine ⟨fun w4 h2 => ?_, ?_⟩
                · refine (ID1.out w4 (Stp.trans _ _ _ (HWS.out w1 hs) h2)).mono ?_
                  rintro e w3 ⟨rfl, h3⟩
                  exact ⟨rfl, Stp.trans _ _ _ h2 h3⟩
                · go_big_quiet_on
                  rfl
              refine wpR_one (A' := ?_) Stp.refl (by rfl) _ rfl 79 (by rfl) (by rfl) ?_ ?_ ?_
              rotate_left 1
              · simp only [Act.put, List.setIfInBounds_toArray, List.set_cons_zero, List.set_cons_succ]; rfl
              · intro w1 hs hf K hK
                refine cls_load 26 (.tmp 3) rfl (w.heap.size + 1) (0) rfl (txL A3 k3 A4 k4 t) _ (fun w2 h2 => RB.out w2 (Stp.trans _ _ _ (HWS.out w1 hs) h2)) Tryd.underlying26 rfl (by kernel_rfl) ?_
                refine hK _ ?_
                simp only [Act.put, List.setIfInBounds_toArray, List.set_cons_zero, List.set_cons_succ]
                rfl
              refine wpR_one (A' := ?_) Stp.refl (by rfl) _ rfl 79 (by rfl) (by rfl) ?_ ?_ ?_
              rotate_left 1
              · simp only [Act.put, List.setIfInBounds_toArray, List.set_cons_zero, List.set_cons_succ]; rfl
              · intro w1 hs hf K hK
                go_big_quiet_op
                apply Exists.intro
                refine ⟨fun w4 h2 => ?_, ?_⟩
                · refine (ID2.out w4 (Stp.trans _ _ _ (HWS.out w1 hs) h2)).mono ?_
                  rintro e w3 ⟨rfl, h3⟩
                  exact ⟨rfl, Stp.trans _ _ _ h2 h3⟩
                · go_big_quiet_on
                  rfl
              iterate 5
                refine wpR_one (A' := ?_) Stp.refl (by rfl) _ rfl 79 (by rfl) (by rfl) ?_ ?_ ?_
                rotate_left 1
                · simp only [Act.put, List.setIfInBounds_toArray, List.set_cons_zero, List.set_cons_succ]; rfl
                · intro w1 hs hf K hK
                  go_big_quiet_op
                  first
                    | go_big_quiet_on
                    | (refine ⟨_, fun _ _ => rfl, ?_⟩; go_big_quiet_on)
                  rfl
              refine wpR_one (A' := ?_) Stp.refl (by rfl) _ rfl 79 (by rfl) (by rfl) ?_ ?_ ?_
              rotate_left 1
              · simp only [Act.put, List.setIfInBounds_toArray, List.set_cons_zero, List.set_cons_succ]; rfl
              · intro w1 hs hf K hK
                go_big_quiet_op
                apply Exists.intro
                refine ⟨fun w4 h2 => ?_, ?_⟩
                · refine (AW.out w4).mono ?_
                  rintro e w3 ⟨rfl, h3⟩
                  exact ⟨rfl, Stp.trans _ _ _ h2 h3⟩
                · go_big_quiet_on
                  rfl
              iterate 1
                refine wpR_one (A' := ?_) Stp.refl (by rfl) _ rfl 79 (by rfl) (by rfl) ?_ ?_ ?_
                rotate_left 1
                · simp only [Act.put, List.setIfInBounds_toArray, List.set_cons_zero, List.set_cons_succ]; rfl
                · intro w1 hs hf K hK
                  go_big_quiet_op
                  first
                    | go_big_quiet_on
                    | (refine ⟨_, fun _ _ => rfl, ?_⟩; go_big_quiet_on)
                  rfl
              intro w10 hs hf
              have H10 := Lib.hid (HWS.out w10 hs)
              clear hs hf
              go_wp2
              go_ret
              exact ⟨rfl, HB0.out _ H10.out⟩
            · go_wp2_with fail
              refine (AW.out _).mono ?_
              rintro e w99 ⟨rfl, kk⟩
              have H99 := Lib.hid (HST.out _ _ H77.out kk)
              clear kk
              go_wp2
              go_ret
              exact ⟨rfl, HB0.out _ H99.out⟩
          · have hr8 := HIS.out rfl
            subst hr8
            go_enter Tryd.func4, Tryd.ntmps4
            go_upto_region 1 with fail
            change Code.wp _ _ _ _ ((w.alloc (.cells #[.slice A1 s.ins.length k1, .slice A2 s.outs.length k2, .int .u64 (s.fee : Int), .int .i64 s.exp] 26)).alloc (.cells #[.slice A3 t.ins.length k3, .slice A4 t.outs.length k4, .int .u64 (t.fee : Int), .int .i64 t.exp] 26))
            rw [← hw0]
            clear hw0
            go_wp2_with fail
            refine (G1.out _ H0.out).mono ?_
            rintro e w1 ⟨rfl, kk⟩
            have H1 := Lib.hid (HST.out _ _ H0.out kk)
            clear kk c0 c1 c2 c3 d0 d1 d2 d3
            obtain ⟨⟨c0, c1, c2, c3⟩, ⟨d0, d1, d2, d3⟩⟩ := CF.out _ H1.out
            go_wp2_with fail
            refine (G2.out _ H1.out).mono ?_
            rintro e w2 ⟨rfl, kk⟩
            have H2 := Lib.hid (HST.out _ _ H1.out kk)
            clear kk c0 c1 c2 c3 d0 d1 d2 d3
            obtain ⟨⟨c0, c1, c2, c3⟩, ⟨d0, d1, d2, d3⟩⟩ := CF.out _ H2.out
            go_wp2_with fail
            refine (S12.out _ H2.out).mono ?_
            rintro e w3 ⟨rfl, kk⟩
            have H3 := Lib.hid (HST.out _ _ H2.out kk)
            clear kk c0 c1 c2 c3 d0 d1 d2 d3
            obtain ⟨⟨c0, c1, c2, c3⟩, ⟨d0, d1, d2, d3⟩⟩ := CF.out _ H3.out
            go_wp2_with fail
            refine (T12.out _ H3.out).mono ?_
            rintro e w4 ⟨rfl, kk⟩
            have H4 := Lib.hid (HST.out _ _ H3.out kk)
            clear kk c0 c1 c2 c3 d0 d1 d2 d3
            obtain ⟨⟨c0, c1, c2, c3⟩, ⟨d0, d1, d2, d3⟩⟩ := CF.out _ H4.out
            go_wp2_with fail
            refine (T11.out _ H4.out).mono ?_
            rintro e w5 ⟨rfl, kk⟩
            have H5 := Lib.hid (HST.out _ _ H4.out kk)
            clear kk c0 c1 c2 c3 d0 d1 d2 d3
            obtain ⟨⟨c0, c1, c2, c3⟩, ⟨d0, d1, d2, d3⟩⟩ := CF.out _ H5.out
            go_wp2_with fail
            refine (K1.out _ H5.out).mono ?_
            rintro e w6 ⟨rfl, kk⟩
            have H6 := Lib.hid (HST.out _ _ H5.out kk)
            clear kk c0 c1 c2 c3 d0 d1 d2 d3
            obtain ⟨⟨c0, c1, c2, c3⟩, ⟨d0, d1, d2, d3⟩⟩ := CF.out _ H6.out
            go_wp2_with fail
            refine (K2.out _ H6.out).mono ?_
            rintro e w7 ⟨rfl, kk⟩
            have H7 := Lib.hid (HST.out _ _ H6.out kk)
            clear kk c0 c1 c2 c3 d0 d1 d2 d3
            obtain ⟨⟨c0, c1, c2, c3⟩, ⟨d0, d1, d2, d3⟩⟩ := CF.out _ H7.out
            go_wp2_with fail
            go_quiet (fail)
            have H78 := Lib.hid (show Stp w0 (w7.drewN nq) from HST.out _ _ H7.out ⟨rfl, rfl, rfl, Nat.le_refl _, fun _ _ => rfl⟩)
            generalize w7.drewN nq = w78 at *
            clear c0 c1 c2 c3 d0 d1 d2 d3
            obtain ⟨⟨c0, c1, c2, c3⟩, ⟨d0, d1, d2, d3⟩⟩ := CF.out _ H78.out
            go_wp2_with fail
            refine (P1.out _ H78.out).mono ?_
            rintro e w8 ⟨u8, rfl, o8, k8⟩
            obtain ⟨X8, m8, rfl, s8, -⟩ := own_sl o8
            have kk8 : Below w78.heap.size w78 w8 := turn_stp k8
            have H8 := Lib.hid (HST.out _ _ H78.out kk8)
            have HX8 := Lib.hid s8
            clear k8 kk8 o8 s8 c0 c1 c2 c3 d0 d1 d2 d3
            obtain ⟨⟨c0, c1, c2, c3⟩, ⟨d0, d1, d2, d3⟩⟩ := CF.out _ H8.out
            go_wp2_with fail
            refine (P2.out _ H8.out).mono ?_
            rintro e w9 ⟨u9, rfl, o9, k9⟩
            obtain ⟨X9, m9, rfl, s9, -⟩ := own_sl o9
            have kk9 : Below w8.heap.size w8 w9 := turn_stp k9
            have H9 := Lib.hid (HST.out _ _ H8.out kk9)
            have HX9 := Lib.hid (s9)
            have HX8' := Lib.hid (HX8.out.below kk9)
            have HS89 := Lib.hid kk9.size
            clear k9 kk9 o9 s9 HX8 c0 c1 c2 c3 d0 d1 d2 d3
            go_wp2_with fail
            have HWS := Lib.hid (fun (w' : World) (k : Stp w9.drew w') => show Stp w0 w' from stp_start k H9.out)
            have HY8 := Lib.hid (fun (w' : World) (k : Stp w9.drew w') => show Sl w' w'.heap.size X8 (fs.map bv) from ((HX8'.out.more HS89.out).below (stp_start k (Below.refl _ _))).more (stp_start k (Below.refl w9.heap.size w9)).size)
            have HY9 := Lib.hid (fun (w' : World) (k : Stp w9.drew w') => show Sl w' w'.heap.size X9 (ft.map bv) from (HX9.out.below (stp_start k (Below.refl _ _))).more (stp_start k (Below.refl w9.heap.size w9)).size)
            refine wp_region_rel_tail 17 79 (by kernel_rfl) (by kernel_rfl) Stp [.one ?_, .one ?_, .one ?_, .one ?_, .one ?_, .one ?_, .one ?_, .one ?_, .one ?_, .one ?_, .one ?_, .one ?_, .one ?_, .one ?_, .one ?_, .one ?_, .one ?_] (by kernel_rfl) rfl (by kernel_rfl) Stp.refl Stp.trans trivial ?main
            case main =>
            simp only [List.take_succ_cons, List.take_zero, List.drop_succ_cons, List.drop_zero]
            iterate 2
              refine wpR_one (A' := ?_) Stp.refl (by rfl) _ rfl 79 (by rfl) (by rfl) ?_ ?_ ?_
              rotate_left 1
              · simp only [Act.put, List.setIfInBounds_toArray, List.set_cons_zero, List.set_cons_succ]; rfl
              · intro w1 hs hf K hK
                go_big_quiet_op
                first
                  | go_big_quiet_on
                  | (refine ⟨_, fun _ _ => rfl, ?_⟩; go_big_quiet_on)
                rfl
            refine wpR_one (A' := ?_) Stp.refl (by rfl) _ rfl 79 (by rfl) (by rfl) ?_ ?_ ?_
            rotate_left 1
            · simp only [Act.put, List.setIfInBounds_toArray, List.set_cons_zero, List.set_cons_succ]; rfl
            · intro w1 hs hf K hK
              go_big_quiet_op
              apply Exists.intro
              refine ⟨fun w4 h2 => ?_, ?_⟩
              · refine (HBY.out X8 X9 m8 m9 w4 (HY8.out w4 (Stp.trans _ _ _ hs h2)) (HY9.out w4 (Stp.trans _ _ _ hs h2))).mono ?_
                rintro e w3 ⟨rfl, h3⟩
                exact ⟨rfl, Stp.trans _ _ _ h2 h3⟩
              · go_big_quiet_on
                rfl
            iterate 3
              refine wpR_one (A' := ?_) Stp.refl (by rfl) _ rfl 79 (by rfl) (by rfl) ?_ ?_ ?_
              rotate_left 1
              · simp only [Act.put, List.setIfInBounds_toArray, List.set_cons_zero, List.set_cons_succ]; rfl
              · intro w1 hs hf K hK
                go_big_quiet_op
                first
                  | go_big_quiet_on
                  | (refine ⟨_, fun _ _ => rfl, ?_⟩; go_big_quiet_on)
                rfl
            refine wpR_one (A' := ?_) Stp.refl (by rfl) _ rfl 79 (by rfl) (by rfl) ?_ ?_ ?_
            rotate_left 1
            · simp only [Act.put, List.setIfInBounds_toArray, List.set_cons_zero, List.set_cons_succ]; rfl
            · intro w1 hs hf K hK
              refine cls_load 26 (.tmp 2) rfl (w.heap.size) (0) rfl (txL A1 k1 A2 k2 s) _ (fun w2 h2 => RA.out w2 (Stp.trans _ _ _ (HWS.out w1 hs) h2)) Tryd.underlying26 rfl (by kernel_rfl) ?_
              refine hK _ ?_
              simp only [Act.put, List.setIfInBounds_toArray, List.set_cons_zero, List.set_cons_succ]
              rfl
            refine wpR_one (A' := ?_) Stp.refl (by rfl) _ rfl 79 (by rfl) (by rfl) ?_ ?_ ?_
            rotate_left 1
            · simp only [Act.put, List.setIfInBounds_toArray, List.set_cons_zero, List.set_cons_succ]; rfl
            · intro w1 hs hf K hK
              go_big_quiet_op
              apply Exists.intro
              refine ⟨fun w4 h2 => ?_, ?_⟩
              · refine (ID1.out w4 (Stp.trans _ _ _ (HWS.out w1 hs) h2)).mono ?_
                rintro e w3 ⟨rfl, h3⟩
                exact ⟨rfl, Stp.trans _ _ _ h2 h3⟩
              · go_big_quiet_on
                rfl
            refine wpR_one (A' := ?_) Stp.refl (by rfl) _ rfl 79 (by rfl) (by rfl) ?_ ?_ ?_
            rotate_left 1
            · simp only [Act.put, List.setIfInBounds_toArray, List.set_cons_zero, List.set_cons_succ]; rfl
            · intro w1 hs hf K hK
              refine cls_load 26 (.tmp 3) rfl (w.heap.size + 1) (0) rfl (txL A3 k3 A4 k4 t) _ (fun w2 h2 => RB.out w2 (Stp.trans _ _ _ (HWS.out w1 hs) h2)) Tryd.underlying26 rfl (by kernel_rfl) ?_
              refine hK _ ?_
              simp only [Act.put, List.setIfInBounds_toArray, List.set_cons_zero, List.set_cons_succ]
              rfl
            refine wpR_one (A' := ?_) Stp.refl (by rfl) _ rfl 79 (by rfl) (by rfl) ?_ ?_ ?_
            rotate_left 1
            · simp only [Act.put, List.setIfInBounds_toArray, List.set_cons_zero, List.set_cons_succ]; rfl
            · intro w1 hs hf K hK
              go_big_quiet_op
              apply Exists.intro
              refine ⟨fun w4 h2 => ?_, ?_⟩
              · refine (ID2.out w4 (Stp.trans _ _ _ (HWS.out w1 hs) h2)).mono ?_
                rintro e w3 ⟨rfl, h3⟩
                exact ⟨rfl, Stp.trans _ _ _ h2 h3⟩
              · go_big_quiet_on
                rfl
            iterate 5
              refine wpR_one (A' := ?_) Stp.refl (by rfl) _ rfl 79 (by rfl) (by rfl) ?_ ?_ ?_
              rotate_left 1
              · simp only [Act.put, List.setIfInBounds_toArray, List.set_cons_zero, List.set_cons_succ]; rfl
              · intro w1 hs hf K hK
                go_big_quiet_op
                first
                  | go_big_quiet_on
                  | (refine ⟨_, fun _ _ => rfl, ?_⟩; go_big_quiet_on)
                rfl
            refine wpR_one (A' := ?_) Stp.refl (by rfl) _ rfl 79 (by rfl) (by rfl) ?_ ?_ ?_
            rotate_left 1
            · simp only [Act.put, List.setIfInBounds_toArray, List.set_cons_zero, List.set_cons_succ]; rfl
            · intro w1 hs hf K hK
              go_big_quiet_op
              apply Exists.intro
              refine ⟨fun w4 h2 => ?_, ?_⟩
              · refine (AW.out w4).mono ?_
                rintro e w3 ⟨rfl, h3⟩
                exact ⟨rfl, Stp.trans _ _ _ h2 h3⟩
              · go_big_quiet_on
                rfl
            iterate 1
              refine wpR_one (A' := ?_) Stp.refl (by rfl) _ rfl 79 (by rfl) (by rfl) ?_ ?_ ?_
              rotate_left 1
              · simp only [Act.put, List.setIfInBounds_toArray, List.set_cons_zero, List.set_cons_succ]; rfl
              · intro w1 hs hf K hK
                go_big_quiet_op
                first
                  | go_big_quiet_on
                  | (refine ⟨_, fun _ _ => rfl, ?_⟩; go_big_quiet_on)
                rfl
            intro w10 hs hf
            have H10 := Lib.hid (HWS.out w10 hs)
            clear hs hf
            go_wp2
            go_ret
            exact ⟨rfl, HB0.out _ H10.out⟩
        · have t1 : ((chk t : Int) != 0) = true := by simp; omega
          generalize chk t = zt at *
          clear hct hcs
          go_enter Tryd.func4, Tryd.ntmps4
          go_upto_region 1 with fail
          change Code.wp _ _ _ _ ((w.alloc (.cells #[.slice A1 s.ins.length k1, .slice A2 s.outs.length k2, .int .u64 (s.fee : Int), .int .i64 s.exp] 26)).alloc (.cells #[.slice A3 t.ins.length k3, .slice A4 t.outs.length k4, .int .u64 (t.fee : Int), .int .i64 t.exp] 26))
          rw [← hw0]
          clear hw0
          go_wp2_with fail
          refine (G1.out _ H0.out).mono ?_
          rintro e w1 ⟨rfl, kk⟩
          have H1 := Lib.hid (HST.out _ _ H0.out kk)
          clear kk c0 c1 c2 c3 d0 d1 d2 d3
          obtain ⟨⟨c0, c1, c2, c3⟩, ⟨d0, d1, d2, d3⟩⟩ := CF.out _ H1.out
          go_wp2_with fail
          refine (G2.out _ H1.out).mono ?_
          rintro e w2 ⟨rfl, kk⟩
          have H2 := Lib.hid (HST.out _ _ H1.out kk)
          clear kk c0 c1 c2 c3 d0 d1 d2 d3
          obtain ⟨⟨c0, c1, c2, c3⟩, ⟨d0, d1, d2, d3⟩⟩ := CF.out _ H2.out
          go_wp2_with fail
          refine (S12.out _ H2.out).mono ?_
          rintro e w3 ⟨rfl, kk⟩
          have H3 := Lib.hid (HST.out _ _ H2.out kk)
          clear kk c0 c1 c2 c3 d0 d1 d2 d3
          obtain ⟨⟨c0, c1, c2, c3⟩, ⟨d0, d1, d2, d3⟩⟩ := CF.out _ H3.out
          go_wp2_with fail
          refine (T12.out _ H3.out).mono ?_
          rintro e w4 ⟨rfl, kk⟩
          have H4 := Lib.hid (HST.out _ _ H3.out kk)
          clear kk c0 c1 c2 c3 d0 d1 d2 d3
          obtain ⟨⟨c0, c1, c2, c3⟩, ⟨d0, d1, d2, d3⟩⟩ := CF.out _ H4.out
          cases r
          · go_wp2_with fail
            refine (T11.out _ H4.out).mono ?_
            rintro e w5 ⟨rfl, kk⟩
            have H5 := Lib.hid (HST.out _ _ H4.out kk)
            clear kk c0 c1 c2 c3 d0 d1 d2 d3
            obtain ⟨⟨c0, c1, c2, c3⟩, ⟨d0, d1, d2, d3⟩⟩ := CF.out _ H5.out
            go_wp2_with fail
            refine (K1.out _ H5.out).mono ?_
            rintro e w6 ⟨rfl, kk⟩
            have H6 := Lib.hid (HST.out _ _ H5.out kk)
            clear kk c0 c1 c2 c3 d0 d1 d2 d3
            obtain ⟨⟨c0, c1, c2, c3⟩, ⟨d0, d1, d2, d3⟩⟩ := CF.out _ H6.out
            go_wp2_with fail
            refine (K2.out _ H6.out).mono ?_
            rintro e w7 ⟨rfl, kk⟩
            have H7 := Lib.hid (HST.out _ _ H6.out kk)
            clear kk c0 c1 c2 c3 d0 d1 d2 d3
            obtain ⟨⟨c0, c1, c2, c3⟩, ⟨d0, d1, d2, d3⟩⟩ := CF.out _ H7.out
            go_wp2_with fail
            refine (AW.out _).mono ?_
            rintro e w99 ⟨rfl, kk⟩
            have H99 := Lib.hid (HST.out _ _ H7.out kk)
            clear kk
            go_wp2
            go_ret
            exact ⟨rfl, HB0.out _ H99.out⟩
          · go_wp2_with fail
            refine (T11.out _ H4.out).mono ?_
            rintro e w5 ⟨rfl, kk⟩
            have H5 := Lib.hid (HST.out _ _ H4.out kk)
            clear kk c0 c1 c2 c3 d0 d1 d2 d3
            obtain ⟨⟨c0, c1, c2, c3⟩, ⟨d0, d1, d2, d3⟩⟩ := CF.out _ H5.out
            go_wp2_with fail
            refine (K1.out _ H5.out).mono ?_
            rintro e w6 ⟨rfl, kk⟩
            have H6 := Lib.hid (HST.out _ _ H5.out kk)
            clear kk c0 c1 c2 c3 d0 d1 d2 d3
            obtain ⟨⟨c0, c1, c2, c3⟩, ⟨d0, d1, d2, d3⟩⟩ := CF.out _ H6.out
            go_wp2_with fail
            refine (K2.out _ H6.out).mono ?_
            rintro e w7 ⟨rfl, kk⟩
            have H7 := Lib.hid (HST.out _ _ H6.out kk)
            clear kk c0 c1 c2 c3 d0 d1 d2 d3
            obtain ⟨⟨c0, c1, c2, c3⟩, ⟨d0, d1, d2, d3⟩⟩ := CF.out _ H7.out
            go_wp2_with fail
            refine (AW.out _).mono ?_
            rintro e w99 ⟨rfl, kk⟩
            have H99 := Lib.hid (HST.out _ _ H7.out kk)
            clear kk
            go_wp2
            go_ret
            exact ⟨rfl, HB0.out _ H99.out⟩
      · have t1 : ((chk s : Int) != 0) = true := by simp; omega
        generalize chk s = zs at *
        clear hcs
        go_enter Tryd.func4, Tryd.ntmps4
        go_upto_region 1 with fail
        change Code.wp _ _ _ _ ((w.alloc (.cells #[.slice A1 s.ins.length k1, .slice A2 s.outs.length k2, .int .u64 (s.fee : Int), .int .i64 s.exp] 26)).alloc (.cells #[.slice A3 t.ins.length k3, .slice A4 t.outs.length k4, .int .u64 (t.fee : Int), .int .i64 t.exp] 26))
        rw [← hw0]
        clear hw0
        go_wp2_with fail
        refine (G1.out _ H0.out).mono ?_
        rintro e w1 ⟨rfl, kk⟩
        have H1 := Lib.hid (HST.out _ _ H0.out kk)
        clear kk c0 c1 c2 c3 d0 d1 d2 d3
        obtain ⟨⟨c0, c1, c2, c3⟩, ⟨d0, d1, d2, d3⟩⟩ := CF.out _ H1.out
        go_wp2_with fail
        refine (G2.out _ H1.out).mono ?_
        rintro e w2 ⟨rfl, kk⟩
        have H2 := Lib.hid (HST.out _ _ H1.out kk)
        clear kk c0 c1 c2 c3 d0 d1 d2 d3
        obtain ⟨⟨c0, c1, c2, c3⟩, ⟨d0, d1, d2, d3⟩⟩ := CF.out _ H2.out
        go_wp2_with fail
        refine (S12.out _ H2.out).mono ?_
        rintro e w3 ⟨rfl, kk⟩
        have H3 := Lib.hid (HST.out _ _ H2.out kk)
        clear kk c0 c1 c2 c3 d0 d1 d2 d3
        obtain ⟨⟨c0, c1, c2, c3⟩, ⟨d0, d1, d2, d3⟩⟩ := CF.out _ H3.out
        go_wp2_with fail
        refine (T12.out _ H3.out).mono ?_
        rintro e w4 ⟨rfl, kk⟩
        have H4 := Lib.hid (HST.out _ _ H3.out kk)
        clear kk c0 c1 c2 c3 d0 d1 d2 d3
        obtain ⟨⟨c0, c1, c2, c3⟩, ⟨d0, d1, d2, d3⟩⟩ := CF.out _ H4.out
        cases r
        · go_wp2_with fail
          refine (T11.out _ H4.out).mono ?_
          rintro e w5 ⟨rfl, kk⟩
          have H5 := Lib.hid (HST.out _ _ H4.out kk)
          clear kk c0 c1 c2 c3 d0 d1 d2 d3
          obtain ⟨⟨c0, c1, c2, c3⟩, ⟨d0, d1, d2, d3⟩⟩ := CF.out _ H5.out
          go_wp2_with fail
          refine (K1.out _ H5.out).mono ?_
          rintro e w6 ⟨rfl, kk⟩
          have H6 := Lib.hid (HST.out _ _ H5.out kk)
          clear kk c0 c1 c2 c3 d0 d1 d2 d3
          obtain ⟨⟨c0, c1, c2, c3⟩, ⟨d0, d1, d2, d3⟩⟩ := CF.out _ H6.out
          go_wp2_with fail
          refine (AW.out _).mono ?_
          rintro e w99 ⟨rfl, kk⟩
          have H99 := Lib.hid (HST.out _ _ H6.out kk)
          clear kk
          go_wp2
          go_ret
          exact ⟨rfl, HB0.out _ H99.out⟩
        · go_wp2_with fail
          refine (T11.out _ H4.out).mono ?_
          rintro e w5 ⟨rfl, kk⟩
          have H5 := Lib.hid (HST.out _ _ H4.out kk)
          clear kk c0 c1 c2 c3 d0 d1 d2 d3
          obtain ⟨⟨c0, c1, c2, c3⟩, ⟨d0, d1, d2, d3⟩⟩ := CF.out _ H5.out
          go_wp2_with fail
          refine (K1.out _ H5.out).mono ?_
          rintro e w6 ⟨rfl, kk⟩
          have H6 := Lib.hid (HST.out _ _ H5.out kk)
          clear kk c0 c1 c2 c3 d0 d1 d2 d3
          obtain ⟨⟨c0, c1, c2, c3⟩, ⟨d0, d1, d2, d3⟩⟩ := CF.out _ H6.out
          go_wp2_with fail
          refine (AW.out _).mono ?_
          rintro e w99 ⟨rfl, kk⟩
          have H99 := Lib.hid (HST.out _ _ H6.out kk)
          clear kk
          go_wp2
          go_ret
          exact ⟨rfl, HB0.out _ H99.out⟩
    · rw [great_yes hgt] at G2
      clear hgt
      go_enter Tryd.func4, Tryd.ntmps4
      go_upto_region 1 with fail
      change Code.wp _ _ _ _ ((w.alloc (.cells #[.slice A1 s.ins.length k1, .slice A2 s.outs.length k2, .int .u64 (s.fee : Int), .int .i64 s.exp] 26)).alloc (.cells #[.slice A3 t.ins.length k3, .slice A4 t.outs.length k4, .int .u64 (t.fee : Int), .int .i64 t.exp] 26))
      rw [← hw0]
      clear hw0
      go_wp2_with fail
      refine (G1.out _ H0.out).mono ?_
      rintro e w1 ⟨rfl, kk⟩
      have H1 := Lib.hid (HST.out _ _ H0.out kk)
      clear kk c0 c1 c2 c3 d0 d1 d2 d3
      obtain ⟨⟨c0, c1, c2, c3⟩, ⟨d0, d1, d2, d3⟩⟩ := CF.out _ H1.out
      go_wp2_with fail
      refine (G2.out _ H1.out).mono ?_
      rintro e w2 ⟨rfl, kk⟩
      have H2 := Lib.hid (HST.out _ _ H1.out kk)
      clear kk c0 c1 c2 c3 d0 d1 d2 d3
      obtain ⟨⟨c0, c1, c2, c3⟩, ⟨d0, d1, d2, d3⟩⟩ := CF.out _ H2.out
      go_wp2_with fail
      refine (AW.out _).mono ?_
      rintro e w99 ⟨rfl, kk⟩
      have H99 := Lib.hid (HST.out _ _ H2.out kk)
      clear kk
      go_wp2
      go_ret
      exact ⟨rfl, HB0.out _ H99.out⟩
  · rw [great_yes hgs] at G1
    clear hgs
    go_enter Tryd.func4, Tryd.ntmps4
    go_upto_region 1 with fail
    change Code.wp _ _ _ _ ((w.alloc (.cells #[.slice A1 s.ins.length k1, .slice A2 s.outs.length k2, .int .u64 (s.fee : Int), .int .i64 s.exp] 26)).alloc (.cells #[.slice A3 t.ins.length k3, .slice A4 t.outs.length k4, .int .u64 (t.fee : Int), .int .i64 t.exp] 26))
    rw [← hw0]
    clear hw0
    go_wp2_with fail
    refine (G1.out _ H0.out).mono ?_
    rintro e w1 ⟨rfl, kk⟩
    have H1 := Lib.hid (HST.out _ _ H0.out kk)
    clear kk c0 c1 c2 c3 d0 d1 d2 d3
    obtain ⟨⟨c0, c1, c2, c3⟩, ⟨d0, d1, d2, d3⟩⟩ := CF.out _ H1.out
    go_wp2_with fail
    refine (AW.out _).mono ?_
    rintro e w99 ⟨rfl, kk⟩
    have H99 := Lib.hid (HST.out _ _ H1.out kk)
    clear kk
    go_wp2
    go_ret
    exact ⟨rfl, HB0.out _ H99.out⟩
end Go.Proofs.YtpoddemokeppmaaDoor
