/- Merged: CrD, the longer part. -/
import Derived.Test.YthoaaieiiokcmaaGreatDoorM23
namespace Go.Proofs.YthoaaieiiokcmaaGreatDoor
section
set_option linter.unusedVariables false
set_option linter.unusedSimpArgs false
open Go.RowKit
attribute [local go_sem ↓] loadAt_cr loadAt_hd loadAt_en loadAt_id
attribute [local go_sem] run_crLoad run_hdLoad run_enLoad run_idLoad rowOf_drew rowOf_drewN
set_option maxRecDepth 100000 in
set_option maxHeartbeats 16000000 in
theorem rcis_any (A0 : Option Addr) (c0 : Nat) (seed : List B8) (n : Int) (x : Crt) (A : Option Addr) (c : Nat) (w : World) (hK : Bts w A0 seed) (hA0 : A0 = none → c0 = 0) (hc0 : seed.length ≤ c0) (hk : seed.length ≤ 1000000) (hx : x.L) (px : CPath w x A c) (hn : n ≤ 64) :
    Calls Tryz.prog 11 #[.slice A0 seed.length c0, .int .i64 n, .agg (x.cells A c).toArray] w fun r w' => r = .returned (.bool (isC seed n x)) ∧ Turn (fun _ => False) w w' := by
  have TE := Lib.hid (fun w => rright_any x.e w hx.1)
  have TH := Lib.hid (fun w => hrright_any x.h w hx.2.1)
  have PE := Lib.hid (fun w h => rput_e x.e w hx.1 h)
  have PH := Lib.hid (fun w h => hrput_any x.h w hx.2.1 h)
  obtain ⟨C, hC⟩ : ∃ C, C = (x.cells A c).toArray := ⟨_, rfl⟩
  rw [← hC]
  obtain ⟨w1, hw1⟩ : ∃ w1, w1 = w.alloc (.cells C 35) := ⟨_, rfl⟩
  have t1 : Turn (fun _ => False) w w1 := by rw [hw1]; exact (Turn.refl _ _).alloc _
  have e1 : CAt w1 w.heap.size x A c := by unfold CAt; rw [← hC, hw1]; exact heap_alloc_new _ _
  have CFx := Lib.hid (fun (w' : World) (t : Turn (fun _ => False) w1 w') => CAt.facts (w := w') (show CAt w' w.heap.size x A c from t.heap e1 (fun h => h)) hx)
  have PX := Lib.hid (fun (w' : World) (t : Turn (fun _ => False) w1 w') => (px.turn t1).turn t)
  have BX := Lib.hid (fun (w' : World) (t : Turn (fun _ => False) w1 w') => show Bts w' A0 seed from bts_turn (bts_turn hK t1) t)
  have IS := Lib.hid (show isC seed n x = (decide (okB x.e) && (decide (okH x.h) && (decide (x.e.s = x.h.s) && (decide (x.e.p = x.h.p) && (decide (x.h.s < n) && isT seed x))))) from rfl)
  obtain ⟨EC, hEC⟩ : ∃ L, L = x.e.cells := ⟨_, rfl⟩
  obtain ⟨HC, hHC⟩ : ∃ L, L = x.h.cells := ⟨_, rfl⟩
  have RW := Lib.hid (fun (w' : World) (t : Turn (fun _ => False) w1 w') => show rowOf w' w.heap.size 0 37 = some EC.toArray ∧ rowOf w' w.heap.size 38 67 = some HC.toArray ∧ w'.cell? ⟨w.heap.size, 37, none⟩ = some (.slice A x.ids.length c) ∧ w'.cell? ⟨w.heap.size, 1, none⟩ = some (.int .i64 x.e.s) ∧ w'.cell? ⟨w.heap.size, 36, none⟩ = some (.int .i64 x.e.p) ∧ w'.cell? ⟨w.heap.size, 38, none⟩ = some (.int .i64 x.h.s) ∧ w'.cell? ⟨w.heap.size, 40, none⟩ = some (.int .i64 x.h.p) from by
    have F := CFx.out w' t
    rw [hEC, hHC]
    exact ⟨F.ent, F.hdr, F.path, F.es, F.ep, F.hs, F.hp⟩)
  rw [← hEC] at TE PE
  rw [← hHC] at TH PH
  have HEC := Lib.hid hEC
  have HHC := Lib.hid hHC
  have HX := Lib.hid hx
  have HSD := Lib.hid (And.intro hA0 (And.intro hc0 hk))
  have T1 := Lib.hid t1
  have T11 := Lib.hid (Turn.refl (fun _ => False) w1)
  obtain ⟨nl, hnl⟩ : ∃ n, n = x.ids.length := ⟨_, rfl⟩
  obtain ⟨sl, hsl⟩ : ∃ n, n = seed.length := ⟨_, rfl⟩
  rw [← hnl] at RW
  rw [← hsl]
  have HNL := Lib.hid hnl
  have HSL := Lib.hid hsl
  clear t1 e1 hK hA0 hc0 hk hx px hC hEC hHC hnl hsl
  by_cases oe : okB x.e
  · rw [decide_eq_true oe] at TE
    by_cases oh : okH x.h
    · rw [decide_eq_true oh] at TH
      have hss : 0 ≤ x.h.s ∧ x.h.s ≤ 63 := by unfold okH at oh; omega
      by_cases os : x.e.s = x.h.s
      · have q1 : (x.e.s != x.h.s) = false := by simp [os]
        by_cases op : x.e.p = x.h.p
        · have q2 : (x.e.p != x.h.p) = false := by simp [op]
          by_cases on : x.h.s < n
          · have q3 : decide (n ≤ x.h.s) = false := by rw [decide_eq_false_iff_not]; omega
            by_cases ol : nl = 2
            · have q4 : ((nl : Int) != 2) = false := by simp [ol]
              rw [IS.out, decide_eq_true oe, decide_eq_true oh, decide_eq_true os, decide_eq_true op, decide_eq_true on]
              simp only [Bool.true_and]
              obtain ⟨p, q, hids⟩ : ∃ p q, x.ids = [p, q] := by
                have h2 := HNL.out.symm.trans ol
                match x.ids, h2 with
                | [p, q], _ => exact ⟨p, q, rfl⟩
              obtain ⟨pb, po, hA, hpb, -, -⟩ := cr_path0 hids (PX.out w1 T11.out).1
              subst hA
              have hp32 : p.length = 32 := HX.out.2.2.2 p (by rw [hids]; simp)
              have hq32 : q.length = 32 := HX.out.2.2.2 q (by rw [hids]; simp)
              have IST : isT seed x = (decide (nodeD (nodeD p (leafD (formE x.e))) q = x.h.r) && decide (x.t = signD seed x.h.s.toNat (formH x.h))) := by unfold isT; rw [hids]
              rw [IST]
              have PE := Lib.hid (fun w => PE.out w oe)
              have PH := Lib.hid (fun w => PH.out w oh)
              obtain ⟨F, hF⟩ : ∃ F, F = formE x.e := ⟨_, rfl⟩
              obtain ⟨G, hG⟩ : ∃ G, G = formH x.h := ⟨_, rfl⟩
              rw [← hF] at PE ⊢
              rw [← hG] at PH ⊢
              have hfl : F.length ≤ 100 := by rw [hF]; exact ent_le x.e HX.out.1 oe
              have hgl : G.length ≤ 100 := by rw [hG]; have := formH_le x.h HX.out.2.1 oh; omega
              have LF := Lib.hid (fun (A5 : Option Addr) (c5 : Nat) (w : World) hB hA hc => rleaf_any A5 c5 F w hB hA hc (by omega))
              have N1 := Lib.hid (fun w => rnode_any p (leafD F) w hp32 (leafD_len F))
              have N2 := Lib.hid (fun w => rnode_any (nodeD p (leafD F)) q w (nodeD_len _ _) hq32)
              obtain ⟨PV, hPV⟩ : ∃ L, L = p.map bv := ⟨_, rfl⟩
              obtain ⟨QV, hQV⟩ : ∃ L, L = q.map bv := ⟨_, rfl⟩
              obtain ⟨LD, hLD⟩ : ∃ L, L = ((leafD F).map bv).toArray := ⟨_, rfl⟩
              obtain ⟨ND, hND⟩ : ∃ L, L = ((nodeD p (leafD F)).map bv).toArray := ⟨_, rfl⟩
              obtain ⟨NR, hNR⟩ : ∃ L, L = ((nodeD (nodeD p (leafD F)) q).map bv).toArray := ⟨_, rfl⟩
              obtain ⟨kn, hkn⟩ : ∃ k : Nat, x.h.s = (k : Int) := ⟨x.h.s.toNat, by omega⟩
              have hkt : x.h.s.toNat = kn := by omega
              rw [hkt]
              have SG := Lib.hid (fun (A' : Option Addr) (c' : Nat) (w' : World) (t : Turn (fun _ => False) w1 w') hB hA' hc' => rsign_any A0 A' c0 c' kn seed G w' (BX.out w' t) HSD.out.1 HSD.out.2.1 hB hA' hc' HSD.out.2.2 (by omega) (by omega))
              have hI := fun w => eq_id (nodeD (nodeD p (leafD F)) q) x.h.r (nodeD_len _ _) HX.out.2.1.2 w
              have hJ := fun w => eq_id x.t (signD seed kn G) HX.out.2.2.1 (signD_len _ _ _) w
              obtain ⟨SD, hSD⟩ : ∃ L, L = ((signD seed kn G).map bv).toArray := ⟨_, rfl⟩
              obtain ⟨RV, hRV⟩ : ∃ L, L = x.h.r.map bv := ⟨_, rfl⟩
              obtain ⟨TV, hTV⟩ : ∃ L, L = x.t.map bv := ⟨_, rfl⟩
              rw [← hNR, show (List.map bv x.h.r).toArray = RV.toArray by rw [hRV]] at hI
              rw [← hSD, show (List.map bv x.t).toArray = TV.toArray by rw [hTV]] at hJ
              rw [← hSD] at SG
              generalize decide (nodeD (nodeD p (leafD F)) q = x.h.r) = b1 at *
              generalize decide (x.t = signD seed kn G) = b2 at *
              have RW2 := Lib.hid (fun (w' : World) (t : Turn (fun _ => False) w1 w') => show w'.cell? ⟨w.heap.size, 37, none⟩ = some (.slice (some ⟨pb, po, none⟩) 2 c) ∧ w'.rangeAt pb (po + 0 * 32) PV ∧ w'.rangeAt pb (po + 1 * 32) QV ∧ w'.rangeAt w.heap.size 0 EC ∧ w'.rangeAt w.heap.size 38 HC ∧ w'.rangeAt w.heap.size 73 RV ∧ w'.rangeAt w.heap.size 105 TV ∧ w'.cell? ⟨w.heap.size, 38, none⟩ = some (.int .i64 (kn : Int)) from by
                have Fc := CFx.out w' t
                obtain ⟨b, o, e, -, r1, r2⟩ := cr_path0 hids (PX.out w' t).1
                injection e with e
                injection e with e1 e2
                subst e1 e2
                have hpth := Fc.path
                rw [hids] at hpth
                rw [hPV, hQV, HEC.out, HHC.out, hRV, hTV, ← hkn]
                exact ⟨hpth, r1, r2, Fc.entR, Fc.hdrR, Fc.rootR, Fc.tagR, Fc.hs⟩)
              have ZPV := Lib.hid (show (Tryz.prog.info? 24).map (·.size) = some PV.length by rw [hPV, List.length_map, hp32]; exact id_info)
              have ZQV := Lib.hid (show (Tryz.prog.info? 24).map (·.size) = some QV.length by rw [hQV, List.length_map, hq32]; exact id_info)
              have ZHC := Lib.hid (show (Tryz.prog.info? 33).map (·.size) = some HC.length by rw [HHC.out, Hdr.len _ HX.out.2.1]; exact hd_info)
              have ZRV := Lib.hid (show (Tryz.prog.info? 24).map (·.size) = some RV.length by rw [hRV, List.length_map, HX.out.2.1.2]; exact id_info)
              have ZTV := Lib.hid (show (Tryz.prog.info? 24).map (·.size) = some TV.length by rw [hTV, List.length_map, HX.out.2.2.1]; exact id_info)
              have ZEC := Lib.hid (show (Tryz.prog.info? 27).map (·.size) = some EC.length by rw [HEC.out, Ent.len _ HX.out.1]; exact en_info)
              have sNR : NR.size = 32 := by rw [hNR]; simp [nodeD_len]
              have ZNR := Lib.hid (show (Tryz.prog.info? 24).map (·.size) = some NR.size ∧ ZIdT.size = NR.size ∧ NR.all (·.oneCell') = true from ⟨by rw [sNR]; exact id_info, by rw [sNR]; rfl, by rw [hNR]; exact all_oneCell_toArray (bv_one _)⟩)
              rw [show (List.map bv p).toArray = PV.toArray by rw [hPV], ← hLD, ← hND] at N1
              rw [← hND, show (List.map bv q).toArray = QV.toArray by rw [hQV], ← hNR] at N2
              rw [← hLD] at LF
              obtain ⟨fl, hfl'⟩ : ∃ n, n = F.length := ⟨_, rfl⟩
              rw [← hfl'] at PE LF
              obtain ⟨gl, hgl'⟩ : ∃ n, n = G.length := ⟨_, rfl⟩
              rw [← hgl'] at PH SG
              have HFL := Lib.hid hfl'
              rw [← HSL.out] at SG
              have ZNL := Lib.hid (show NR.toList.length = 32 by simp [sNR])
              have HIDS := Lib.hid hids
              subst ol
              clear oe oh os op on hF hG hPV hQV hLD hND hNR sNR IST hfl' hids hgl' hSD hRV hTV hkn hkt hss
              go_enter Tryz.func11, Tryz.ntmps11
              go_upto_region 1 with fail
              change Code.wp _ _ _ _ (w.alloc (.cells C 35))
              rw [← hw1]
              clear hw1
              obtain ⟨r1, r2, r3, r4, r5, r6, r7⟩ := RW.out w1 T11.out
              go_wp2_with (go_at_call 33; refine stop ?_)
              unfold Stop
              refine (TE.out w1).mono ?_
              rintro r w2 ⟨rfl, t⟩
              have T2 := Lib.hid t
              clear t r1 r2 r3 r4 r5 r6 r7
              obtain ⟨r1, r2, r3, r4, r5, r6, r7⟩ := RW.out w2 T2.out
              go_wp2_with (go_at_call 34; refine stop ?_)
              unfold Stop
              refine (TH.out w2).mono ?_
              rintro r w3 ⟨rfl, t⟩
              have T3 := Lib.hid (T2.out.trans t (fun _ _ h => h))
              clear t r1 r2 r3 r4 r5 r6 r7
              obtain ⟨r1, r2, r3, r4, r5, r6, r7⟩ := RW.out w3 T3.out
              go_upto_region 3 with fail
              have HWS := Lib.hid (fun (w' : World) (h : Stp w3.drew w') => show Turn (fun _ => False) w1 w' from T3.out.trans (Turn.of_below (stp_start h (Below.refl _ _))) (fun _ _ h => h))
              clear r1 r2 r3 r4 r5 r6 r7
              refine wp_region_rel_tail 15 81 (by kernel_rfl) (by kernel_rfl) Stp [.one ?_, .one ?_, .one ?_, .one ?_, .one ?_, .one ?_, .rel (fun v w => w.ownsRow w3.heap.size 5 1 v fl (F.map bv)), .one ?_, .one ?_, .one ?_, .one ?_, .one ?_, .one ?_, .one ?_, .rel (PtrZ w3.heap.size ZIdT 24)] (by kernel_rfl) rfl (by kernel_rfl) Stp.refl Stp.trans ⟨fun v w w' h1 h2 => own_below h1 h2, fun v w w' h1 h2 => PtrZ.stable v w w' h1 h2, trivial⟩ ?main
              case main =>
              simp only [List.take_succ_cons, List.take_zero, List.drop_succ_cons, List.drop_zero]
              iterate 1
                refine wpR_one (A' := ?_) Stp.refl (by rfl) _ rfl 81 (by rfl) (by rfl) ?_ ?_ ?_
                rotate_left 1
                · simp only [Act.put, List.setIfInBounds_toArray, List.set_cons_zero, List.set_cons_succ]; rfl
                · intro w1 hs hf K hK
                  go_big_quiet_op
                  first
                    | go_big_quiet_on
                    | (refine ⟨_, fun _ _ => rfl, ?_⟩; go_big_quiet_on)
                  rfl
              refine wpR_one (A' := ?_) Stp.refl (by rfl) _ rfl 81 (by rfl) (by rfl) ?_ ?_ ?_
              rotate_left 1
              · simp only [Act.put, List.setIfInBounds_toArray, List.set_cons_zero, List.set_cons_succ]; rfl
              · intro w1 hs hf K hK
                refine cls_load_cell 31 (.tmp 49) rfl ⟨w.heap.size, 37, none⟩ rfl (.slice (some ⟨pb, po, none⟩) 2 c) (fun w h => by simp [go_sem, h]) (fun w4 h2 => (RW2.out w4 (HWS.out w4 (Stp.trans _ _ _ hs h2))).1) ?_
                refine hK _ ?_
                simp only [Act.put, List.setIfInBounds_toArray, List.set_cons_zero, List.set_cons_succ]
                rfl
              iterate 1
                refine wpR_one (A' := ?_) Stp.refl (by rfl) _ rfl 81 (by rfl) (by rfl) ?_ ?_ ?_
                rotate_left 1
                · simp only [Act.put, List.setIfInBounds_toArray, List.set_cons_zero, List.set_cons_succ]; rfl
                · intro w1 hs hf K hK
                  go_big_quiet_op
                  first
                    | go_big_quiet_on
                    | (refine ⟨_, fun _ _ => rfl, ?_⟩; go_big_quiet_on)
                  rfl
              refine wpR_one (A' := ?_) Stp.refl (by rfl) _ rfl 81 (by rfl) (by rfl) ?_ ?_ ?_
              rotate_left 1
              · simp only [Act.put, List.setIfInBounds_toArray, List.set_cons_zero, List.set_cons_succ]; rfl
              · intro w1 hs hf K hK
                refine cls_load 24 (.tmp 51) rfl (pb) ((po + 0 * 32)) rfl (PV) _ (fun w4 h2 => (RW2.out w4 (HWS.out w4 (Stp.trans _ _ _ hs h2))).2.1) Tryz.underlying24 rfl ZPV.out ?_
                refine hK _ ?_
                simp only [Act.put, List.setIfInBounds_toArray, List.set_cons_zero, List.set_cons_succ]
                rfl
              iterate 1
                refine wpR_one (A' := ?_) Stp.refl (by rfl) _ rfl 81 (by rfl) (by rfl) ?_ ?_ ?_
                rotate_left 1
                · simp only [Act.put, List.setIfInBounds_toArray, List.set_cons_zero, List.set_cons_succ]; rfl
                · intro w1 hs hf K hK
                  go_big_quiet_op
                  first
                    | go_big_quiet_on
                    | (refine ⟨_, fun _ _ => rfl, ?_⟩; go_big_quiet_on)
                  rfl
              refine wpR_one (A' := ?_) Stp.refl (by rfl) _ rfl 81 (by rfl) (by rfl) ?_ ?_ ?_
              rotate_left 1
              · simp only [Act.put, List.setIfInBounds_toArray, List.set_cons_zero, List.set_cons_succ]; rfl
              · intro w1 hs hf K hK
                refine cls_load 27 (.tmp 53) rfl (w.heap.size) (0) rfl (EC) _ (fun w4 h2 => (RW2.out w4 (HWS.out w4 (Stp.trans _ _ _ hs h2))).2.2.2.1) Tryz.underlying27 rfl ZEC.out ?_
                refine hK _ ?_
                simp only [Act.put, List.setIfInBounds_toArray, List.set_cons_zero, List.set_cons_succ]
                rfl
              refine wpR_rel (A' := ?_) (by rfl) ?_ ?_ ?_
              · intro w1 hs hf
                have hz : w3.heap.size ≤ w1.heap.size := Below.size (w := w3.drew) hs
                refine does_call (w' := w1) (f := 37) (args := #[.agg EC.toArray]) (by kernel_rfl) ((PE.out w1).mono ?_)
                rintro e w3 ⟨v, rfl, ho, h3⟩
                exact ⟨v, rfl, own_more ho hz, turn_stp' h3⟩
              rotate_left 1
              · intro x
                simp only [Act.put, List.setIfInBounds_toArray, List.set_cons_zero, List.set_cons_succ]; rfl
              intro x55
              refine wpR_one (A' := ?_) Stp.refl (by rfl) _ rfl 81 (by rfl) (by rfl) ?_ ?_ ?_
              rotate_left 1
              · simp only [Act.put, List.setIfInBounds_toArray, List.set_cons_zero, List.set_cons_succ]; rfl
              · intro w1 hs hf K hK
                obtain ⟨A5, c5, e5, s5, -, l5, n5⟩ := own_sl (show w1.ownsRow w3.heap.size 5 1 x55 fl (F.map bv) from AllF_at hf 0 rfl (by kernel_rfl))
                subst e5
                have HS5 := Lib.hid (And.intro (Bts.of_sl s5) (And.intro n5 l5))
                clear s5 n5 l5
                go_big_quiet_op
                apply Exists.intro
                refine ⟨fun w4 h2 => ?_, ?_⟩
                · refine (LF.out A5 c5 w4 (HS5.out.1.below h2) HS5.out.2.1 HS5.out.2.2).mono ?_
                  rintro e w3 ⟨rfl, h3⟩
                  exact ⟨rfl, Stp.trans _ _ _ h2 h3⟩
                · go_big_quiet_on
                  rfl
              refine wpR_one (A' := ?_) Stp.refl (by rfl) _ rfl 81 (by rfl) (by rfl) ?_ ?_ ?_
              rotate_left 1
              · simp only [Act.put, List.setIfInBounds_toArray, List.set_cons_zero, List.set_cons_succ]; rfl
              · intro w1 hs hf K hK
                go_big_quiet_op
                apply Exists.intro
                refine ⟨fun w4 h2 => ?_, ?_⟩
                · refine (N1.out w4).mono ?_
                  rintro e w3 ⟨rfl, h3⟩
                  exact ⟨rfl, Stp.trans _ _ _ h2 h3⟩
                · go_big_quiet_on
                  rfl
              iterate 1
                refine wpR_one (A' := ?_) Stp.refl (by rfl) _ rfl 81 (by rfl) (by rfl) ?_ ?_ ?_
                rotate_left 1
                · simp only [Act.put, List.setIfInBounds_toArray, List.set_cons_zero, List.set_cons_succ]; rfl
                · intro w1 hs hf K hK
                  go_big_quiet_op
                  first
                    | go_big_quiet_on
                    | (refine ⟨_, fun _ _ => rfl, ?_⟩; go_big_quiet_on)
                  rfl
              refine wpR_one (A' := ?_) Stp.refl (by rfl) _ rfl 81 (by rfl) (by rfl) ?_ ?_ ?_
              rotate_left 1
              · simp only [Act.put, List.setIfInBounds_toArray, List.set_cons_zero, List.set_cons_succ]; rfl
              · intro w1 hs hf K hK
                refine cls_load_cell 31 (.tmp 58) rfl ⟨w.heap.size, 37, none⟩ rfl (.slice (some ⟨pb, po, none⟩) 2 c) (fun w h => by simp [go_sem, h]) (fun w4 h2 => (RW2.out w4 (HWS.out w4 (Stp.trans _ _ _ hs h2))).1) ?_
                refine hK _ ?_
                simp only [Act.put, List.setIfInBounds_toArray, List.set_cons_zero, List.set_cons_succ]
                rfl
              iterate 1
                refine wpR_one (A' := ?_) Stp.refl (by rfl) _ rfl 81 (by rfl) (by rfl) ?_ ?_ ?_
                rotate_left 1
                · simp only [Act.put, List.setIfInBounds_toArray, List.set_cons_zero, List.set_cons_succ]; rfl
                · intro w1 hs hf K hK
                  go_big_quiet_op
                  first
                    | go_big_quiet_on
                    | (refine ⟨_, fun _ _ => rfl, ?_⟩; go_big_quiet_on)
                  rfl
              refine wpR_one (A' := ?_) Stp.refl (by rfl) _ rfl 81 (by rfl) (by rfl) ?_ ?_ ?_
              rotate_left 1
              · simp only [Act.put, List.setIfInBounds_toArray, List.set_cons_zero, List.set_cons_succ]; rfl
              · intro w1 hs hf K hK
                refine cls_load 24 (.tmp 60) rfl (pb) ((po + 1 * 32)) rfl (QV) _ (fun w4 h2 => (RW2.out w4 (HWS.out w4 (Stp.trans _ _ _ hs h2))).2.2.1) Tryz.underlying24 rfl ZQV.out ?_
                refine hK _ ?_
                simp only [Act.put, List.setIfInBounds_toArray, List.set_cons_zero, List.set_cons_succ]
                rfl
              refine wpR_one (A' := ?_) Stp.refl (by rfl) _ rfl 81 (by rfl) (by rfl) ?_ ?_ ?_
              rotate_left 1
              · simp only [Act.put, List.setIfInBounds_toArray, List.set_cons_zero, List.set_cons_succ]; rfl
              · intro w1 hs hf K hK
                go_big_quiet_op
                apply Exists.intro
                refine ⟨fun w4 h2 => ?_, ?_⟩
                · refine (N2.out w4).mono ?_
                  rintro e w3 ⟨rfl, h3⟩
                  exact ⟨rfl, Stp.trans _ _ _ h2 h3⟩
                · go_big_quiet_on
                  rfl
              refine wpR_rel (A' := ?_) (by rfl) ?_ ?_ ?_
              · intro w1 hs hf
                exact does_ptr ZIdT 24 _ rfl (Below.size (w := w3.drew) hs) (fun w => by kernel_rfl)
              rotate_left 1
              · intro x
                simp only [Act.put, List.setIfInBounds_toArray, List.set_cons_zero, List.set_cons_succ]; rfl
              intro x7
              intro wx hs hf
              obtain ⟨⟨p7, hp7, rfl, hg7⟩, -, -⟩ := hf
              have TX := Lib.hid (HWS.out wx hs)
              have T3X := Lib.hid (show Turn (fun _ => False) w3 wx from Turn.of_below (stp_start hs (Below.refl _ _)))
              have HG7 := Lib.hid hg7
              have HP7 := Lib.hid hp7
              clear hs hg7 hp7 HWS
              go_wp2_with (refine wpList_store_row rfl _ _ _ rfl p7 NR rfl rfl 24 ZIdT HG7.out ZNR.out.1 ZNR.out.2.1 ZNR.out.2.2 ?_; refine stop ?_)
              unfold Stop
              obtain ⟨wy, hwy⟩ : ∃ wy, wy = wx.setRow p7 NR := ⟨_, rfl⟩
              have ty : Turn (fun i => i = p7) wx wy := by rw [hwy]; exact (Turn.refl _ _).setRow _ _ (fun _ => rfl)
              have T3Y := Lib.hid (show Turn (fun _ => False) w3 wy from T3X.out.trans ty (fun i hi h => by have := HP7.out; omega))
              have TY := Lib.hid (T3.out.trans T3Y.out (fun _ _ h => h))
              have HGY := Lib.hid (show wy.heap[p7]? = some (.cells NR 24 (0, 0)) by rw [hwy]; exact setRow_heap _ _ _ _ _ _ HG7.out)
              have RNR := Lib.hid (show ∀ w' : World, w'.heap[p7]? = some (.cells NR 24 (0, 0)) → w'.rangeAt p7 0 NR.toList from fun w' h j v hj => by
                rw [Nat.zero_add, cell_of_row _ _ _ _ _ _ h]; simpa using hj)
              rw [← hwy]
              clear hwy ty HG7 HP7 T3X T3Y TX
              go_upto_region 4 with fail
              have HWY := Lib.hid (fun (w' : World) (h : Stp wy.drew w') => show Turn (fun _ => False) wy w' from Turn.of_below (stp_start h (Below.refl _ _)))
              cases b1
              · refine wp_region_rel 81 Stp [.one ?_, .one ?_, .one ?_, .one ?_, .one ?_, .one ?_, .one undef, .one undef, .one undef, .one undef, .one undef, .one undef, .one undef, .one undef, .one undef, .one undef, .one undef, .one ?_, .one ?_] (by kernel_rfl) (by kernel_rfl) rfl (by kernel_rfl) Stp.refl Stp.trans trivial ?main
                case main =>
                refine wpR_one (A' := ?_) Stp.refl (by rfl) _ rfl 81 (by rfl) (by rfl) ?_ ?_ ?_
                rotate_left 1
                · simp only [Act.put, List.setIfInBounds_toArray, List.set_cons_zero, List.set_cons_succ]; rfl
                · intro w1 hs hf K hK
                  refine cls_load 24 (.tmp 7) rfl (p7) (0) rfl (NR.toList) _ (fun w4 h2 => RNR.out w4 ((HWY.out w4 (Stp.trans _ _ _ hs h2)).heap HGY.out (fun h => h))) Tryz.underlying24 rfl (by rw [ZNL.out]; exact id_info) ?_
                  refine hK _ ?_
                  simp only [Act.put, List.setIfInBounds_toArray, List.set_cons_zero, List.set_cons_succ]
                  rfl
                iterate 2
                  refine wpR_one (A' := ?_) Stp.refl (by rfl) _ rfl 81 (by rfl) (by rfl) ?_ ?_ ?_
                  rotate_left 1
                  · simp only [Act.put, List.setIfInBounds_toArray, List.set_cons_zero, List.set_cons_succ]; rfl
                  · intro w1 hs hf K hK
                    go_big_quiet_op
                    first
                      | go_big_quiet_on
                      | (refine ⟨_, fun _ _ => rfl, ?_⟩; go_big_quiet_on)
                    rfl
                refine wpR_one (A' := ?_) Stp.refl (by rfl) _ rfl 81 (by rfl) (by rfl) ?_ ?_ ?_
                rotate_left 1
                · simp only [Act.put, List.setIfInBounds_toArray, List.set_cons_zero, List.set_cons_succ]; rfl
                · intro w1 hs hf K hK
                  refine cls_load 24 (.tmp 65) rfl (w.heap.size) (73) rfl (RV) _ (fun w4 h2 => (RW2.out w4 (TY.out.trans (HWY.out w4 (Stp.trans _ _ _ hs h2)) (fun _ _ h => h))).2.2.2.2.2.1) Tryz.underlying24 rfl ZRV.out ?_
                  refine hK _ ?_
                  simp only [Act.put, List.setIfInBounds_toArray, List.set_cons_zero, List.set_cons_succ]
                  rfl
                iterate 2
                  refine wpR_one (A' := ?_) Stp.refl (by rfl) _ rfl 81 (by rfl) (by rfl) ?_ ?_ ?_
                  rotate_left 1
                  · simp only [Act.put, List.setIfInBounds_toArray, List.set_cons_zero, List.set_cons_succ]; rfl
                  · intro w1 hs hf K hK
                    go_big_quiet_op
                    first
                      | go_big_quiet_on
                      | (refine ⟨_, fun _ _ => rfl, ?_⟩; go_big_quiet_on)
                    rfl
                iterate 11
                  refine wpR_skip (A' := ?_) (by rfl) ?_ ?_
                  rotate_left 1
                  · simp only [Act.put, List.setIfInBounds_toArray, List.set_cons_zero, List.set_cons_succ]; rfl
                iterate 2
                  refine wpR_one (A' := ?_) Stp.refl (by rfl) _ rfl 81 (by rfl) (by rfl) ?_ ?_ ?_
                  rotate_left 1
                  · simp only [Act.put, List.setIfInBounds_toArray, List.set_cons_zero, List.set_cons_succ]; rfl
                  · intro w1 hs hf K hK
                    go_big_quiet_op
                    first
                      | go_big_quiet_on
                      | (refine ⟨_, fun _ _ => rfl, ?_⟩; go_big_quiet_on)
                    rfl
                intro wf hs hf
                have TF := Lib.hid (TY.out.trans (HWY.out wf hs) (fun _ _ h => h))
                clear hs hf
                go_wp2
                go_ret
                exact ⟨rfl, T1.out.trans TF.out (fun _ _ h => h)⟩
              · refine wp_region_rel 81 Stp [.one ?_, .one ?_, .one ?_, .one ?_, .one ?_, .one ?_, .one ?_, .one ?_, .one ?_, .one ?_, .one ?_, .one ?_, .one ?_, .one ?_, .rel (fun v w => w.ownsRow wy.heap.size 5 1 v gl (G.map bv)), .one ?_, .one ?_, .one ?_, .one ?_] (by kernel_rfl) (by kernel_rfl) rfl (by kernel_rfl) Stp.refl Stp.trans ⟨fun v w w' h1 h2 => own_below h1 h2, trivial⟩ ?main
                case main =>
                refine wpR_one (A' := ?_) Stp.refl (by rfl) _ rfl 81 (by rfl) (by rfl) ?_ ?_ ?_
                rotate_left 1
                · simp only [Act.put, List.setIfInBounds_toArray, List.set_cons_zero, List.set_cons_succ]; rfl
                · intro w1 hs hf K hK
                  refine cls_load 24 (.tmp 7) rfl (p7) (0) rfl (NR.toList) _ (fun w4 h2 => RNR.out w4 ((HWY.out w4 (Stp.trans _ _ _ hs h2)).heap HGY.out (fun h => h))) Tryz.underlying24 rfl (by rw [ZNL.out]; exact id_info) ?_
                  refine hK _ ?_
                  simp only [Act.put, List.setIfInBounds_toArray, List.set_cons_zero, List.set_cons_succ]
                  rfl
                iterate 2
                  refine wpR_one (A' := ?_) Stp.refl (by rfl) _ rfl 81 (by rfl) (by rfl) ?_ ?_ ?_
                  rotate_left 1
                  · simp only [Act.put, List.setIfInBounds_toArray, List.set_cons_zero, List.set_cons_succ]; rfl
                  · intro w1 hs hf K hK
                    go_big_quiet_op
                    first
                      | go_big_quiet_on
                      | (refine ⟨_, fun _ _ => rfl, ?_⟩; go_big_quiet_on)
                    rfl
                refine wpR_one (A' := ?_) Stp.refl (by rfl) _ rfl 81 (by rfl) (by rfl) ?_ ?_ ?_
                rotate_left 1
                · simp only [Act.put, List.setIfInBounds_toArray, List.set_cons_zero, List.set_cons_succ]; rfl
                · intro w1 hs hf K hK
                  refine cls_load 24 (.tmp 65) rfl (w.heap.size) (73) rfl (RV) _ (fun w4 h2 => (RW2.out w4 (TY.out.trans (HWY.out w4 (Stp.trans _ _ _ hs h2)) (fun _ _ h => h))).2.2.2.2.2.1) Tryz.underlying24 rfl ZRV.out ?_
                  refine hK _ ?_
                  simp only [Act.put, List.setIfInBounds_toArray, List.set_cons_zero, List.set_cons_succ]
                  rfl
                iterate 2
                  refine wpR_one (A' := ?_) Stp.refl (by rfl) _ rfl 81 (by rfl) (by rfl) ?_ ?_ ?_
                  rotate_left 1
                  · simp only [Act.put, List.setIfInBounds_toArray, List.set_cons_zero, List.set_cons_succ]; rfl
                  · intro w1 hs hf K hK
                    go_big_quiet_op
                    first
                      | go_big_quiet_on
                      | (refine ⟨_, fun _ _ => rfl, ?_⟩; go_big_quiet_on)
                    rfl
                iterate 1
                  refine wpR_one (A' := ?_) Stp.refl (by rfl) _ rfl 81 (by rfl) (by rfl) ?_ ?_ ?_
                  rotate_left 1
                  · simp only [Act.put, List.setIfInBounds_toArray, List.set_cons_zero, List.set_cons_succ]; rfl
                  · intro w1 hs hf K hK
                    go_big_quiet_op
                    first
                      | go_big_quiet_on
                      | (refine ⟨_, fun _ _ => rfl, ?_⟩; go_big_quiet_on)
                    rfl
                refine wpR_one (A' := ?_) Stp.refl (by rfl) _ rfl 81 (by rfl) (by rfl) ?_ ?_ ?_
                rotate_left 1
                · simp only [Act.put, List.setIfInBounds_toArray, List.set_cons_zero, List.set_cons_succ]; rfl
                · intro w1 hs hf K hK
                  refine cls_load 24 (.tmp 69) rfl (w.heap.size) (105) rfl (TV) _ (fun w4 h2 => (RW2.out w4 (TY.out.trans (HWY.out w4 (Stp.trans _ _ _ hs h2)) (fun _ _ h => h))).2.2.2.2.2.2.1) Tryz.underlying24 rfl ZTV.out ?_
                  refine hK _ ?_
                  simp only [Act.put, List.setIfInBounds_toArray, List.set_cons_zero, List.set_cons_succ]
                  rfl
                iterate 3
                  refine wpR_one (A' := ?_) Stp.refl (by rfl) _ rfl 81 (by rfl) (by rfl) ?_ ?_ ?_
                  rotate_left 1
                  · simp only [Act.put, List.setIfInBounds_toArray, List.set_cons_zero, List.set_cons_succ]; rfl
                  · intro w1 hs hf K hK
                    go_big_quiet_op
                    first
                      | go_big_quiet_on
                      | (refine ⟨_, fun _ _ => rfl, ?_⟩; go_big_quiet_on)
                    rfl
                refine wpR_one (A' := ?_) Stp.refl (by rfl) _ rfl 81 (by rfl) (by rfl) ?_ ?_ ?_
                rotate_left 1
                · simp only [Act.put, List.setIfInBounds_toArray, List.set_cons_zero, List.set_cons_succ]; rfl
                · intro w1 hs hf K hK
                  refine cls_load_cell 3 (.tmp 73) rfl ⟨w.heap.size, 38, none⟩ rfl (.int .i64 (kn : Int)) (fun w h => by simp [go_sem, h]) (fun w4 h2 => (RW2.out w4 (TY.out.trans (HWY.out w4 (Stp.trans _ _ _ hs h2)) (fun _ _ h => h))).2.2.2.2.2.2.2) ?_
                  refine hK _ ?_
                  simp only [Act.put, List.setIfInBounds_toArray, List.set_cons_zero, List.set_cons_succ]
                  rfl
                iterate 1
                  refine wpR_one (A' := ?_) Stp.refl (by rfl) _ rfl 81 (by rfl) (by rfl) ?_ ?_ ?_
                  rotate_left 1
                  · simp only [Act.put, List.setIfInBounds_toArray, List.set_cons_zero, List.set_cons_succ]; rfl
                  · intro w1 hs hf K hK
                    go_big_quiet_op
                    first
                      | go_big_quiet_on
                      | (refine ⟨_, fun _ _ => rfl, ?_⟩; go_big_quiet_on)
                    rfl
                refine wpR_one (A' := ?_) Stp.refl (by rfl) _ rfl 81 (by rfl) (by rfl) ?_ ?_ ?_
                rotate_left 1
                · simp only [Act.put, List.setIfInBounds_toArray, List.set_cons_zero, List.set_cons_succ]; rfl
                · intro w1 hs hf K hK
                  refine cls_load 33 (.tmp 75) rfl (w.heap.size) (38) rfl (HC) _ (fun w4 h2 => (RW2.out w4 (TY.out.trans (HWY.out w4 (Stp.trans _ _ _ hs h2)) (fun _ _ h => h))).2.2.2.2.1) Tryz.underlying33 rfl ZHC.out ?_
                  refine hK _ ?_
                  simp only [Act.put, List.setIfInBounds_toArray, List.set_cons_zero, List.set_cons_succ]
                  rfl
                refine wpR_rel (A' := ?_) (by rfl) ?_ ?_ ?_
                · intro w1 hs hf
                  have hz : wy.heap.size ≤ w1.heap.size := Below.size (w := wy.drew) hs
                  refine does_call (w' := w1) (f := 21) (args := #[.agg HC.toArray]) (by kernel_rfl) ((PH.out w1).mono ?_)
                  rintro e w3 ⟨v, rfl, ho, h3⟩
                  exact ⟨v, rfl, own_more ho hz, turn_stp' h3⟩
                rotate_left 1
                · intro x
                  simp only [Act.put, List.setIfInBounds_toArray, List.set_cons_zero, List.set_cons_succ]; rfl
                intro x77
                refine wpR_one (A' := ?_) Stp.refl (by rfl) _ rfl 81 (by rfl) (by rfl) ?_ ?_ ?_
                rotate_left 1
                · simp only [Act.put, List.setIfInBounds_toArray, List.set_cons_zero, List.set_cons_succ]; rfl
                · intro w1 hs hf K hK
                  obtain ⟨A5, c5, e5, s5, -, l5, n5⟩ := own_sl (show w1.ownsRow wy.heap.size 5 1 x77 gl (G.map bv) from AllF_at hf 0 rfl (by kernel_rfl))
                  subst e5
                  have HS5 := Lib.hid (And.intro (Bts.of_sl s5) (And.intro n5 l5))
                  clear s5 n5 l5
                  go_big_quiet_op
                  apply Exists.intro
                  refine ⟨fun w4 h2 => ?_, ?_⟩
                  · refine (SG.out A5 c5 w4 (TY.out.trans (HWY.out w4 (Stp.trans _ _ _ hs h2)) (fun _ _ h => h)) (HS5.out.1.below h2) HS5.out.2.1 HS5.out.2.2).mono ?_
                    rintro e w3 ⟨rfl, h3⟩
                    exact ⟨rfl, Stp.trans _ _ _ h2 h3⟩
                  · go_big_quiet_on
                    rfl
                iterate 1
                  refine wpR_one (A' := ?_) Stp.refl (by rfl) _ rfl 81 (by rfl) (by rfl) ?_ ?_ ?_
                  rotate_left 1
                  · simp only [Act.put, List.setIfInBounds_toArray, List.set_cons_zero, List.set_cons_succ]; rfl
                  · intro w1 hs hf K hK
                    go_big_quiet_op
                    first
                      | go_big_quiet_on
                      | (refine ⟨_, fun _ _ => rfl, ?_⟩; go_big_quiet_on)
                    rfl
                iterate 2
                  refine wpR_one (A' := ?_) Stp.refl (by rfl) _ rfl 81 (by rfl) (by rfl) ?_ ?_ ?_
                  rotate_left 1
                  · simp only [Act.put, List.setIfInBounds_toArray, List.set_cons_zero, List.set_cons_succ]; rfl
                  · intro w1 hs hf K hK
                    go_big_quiet_op
                    first
                      | go_big_quiet_on
                      | (refine ⟨_, fun _ _ => rfl, ?_⟩; go_big_quiet_on)
                    rfl
                intro wf hs hf
                have TF := Lib.hid (TY.out.trans (HWY.out wf hs) (fun _ _ h => h))
                clear hs hf
                go_wp2
                go_ret
                exact ⟨rfl, T1.out.trans TF.out (fun _ _ h => h)⟩
            · have q4 : ((nl : Int) != 2) = true := by simp; omega
              rw [IS.out, isT_not seed x (by rw [← HNL.out]; exact ol)]
              simp only [Bool.and_false]
              clear oe oh os op on
              go_enter Tryz.func11, Tryz.ntmps11
              go_upto_region 1 with fail
              change Code.wp _ _ _ _ (w.alloc (.cells C 35))
              rw [← hw1]
              clear hw1
              obtain ⟨r1, r2, r3, r4, r5, r6, r7⟩ := RW.out w1 T11.out
              go_wp2_with (go_at_call 33; refine stop ?_)
              unfold Stop
              refine (TE.out w1).mono ?_
              rintro r w2 ⟨rfl, t⟩
              have T2 := Lib.hid t
              clear t r1 r2 r3 r4 r5 r6 r7
              obtain ⟨r1, r2, r3, r4, r5, r6, r7⟩ := RW.out w2 T2.out
              go_wp2_with (go_at_call 34; refine stop ?_)
              unfold Stop
              refine (TH.out w2).mono ?_
              rintro r w3 ⟨rfl, t⟩
              have T3 := Lib.hid (T2.out.trans t (fun _ _ h => h))
              clear t r1 r2 r3 r4 r5 r6 r7
              obtain ⟨r1, r2, r3, r4, r5, r6, r7⟩ := RW.out w3 T3.out
              go_wp2
              go_ret
              exact ⟨rfl, T1.out.trans T3.out (fun _ _ h => h)⟩
          · have q3 : decide (n ≤ x.h.s) = true := by rw [decide_eq_true_eq]; omega
            rw [IS.out, decide_eq_false on]
            simp only [Bool.and_false, Bool.false_and]
            by_cases ol : nl = 2
            · have q4 : ((nl : Int) != 2) = false := by simp [ol]
              clear oe oh os op on ol
              go_enter Tryz.func11, Tryz.ntmps11
              go_upto_region 1 with fail
              change Code.wp _ _ _ _ (w.alloc (.cells C 35))
              rw [← hw1]
              clear hw1
              obtain ⟨r1, r2, r3, r4, r5, r6, r7⟩ := RW.out w1 T11.out
              go_wp2_with (go_at_call 33; refine stop ?_)
              unfold Stop
              refine (TE.out w1).mono ?_
              rintro r w2 ⟨rfl, t⟩
              have T2 := Lib.hid t
              clear t r1 r2 r3 r4 r5 r6 r7
              obtain ⟨r1, r2, r3, r4, r5, r6, r7⟩ := RW.out w2 T2.out
              go_wp2_with (go_at_call 34; refine stop ?_)
              unfold Stop
              refine (TH.out w2).mono ?_
              rintro r w3 ⟨rfl, t⟩
              have T3 := Lib.hid (T2.out.trans t (fun _ _ h => h))
              clear t r1 r2 r3 r4 r5 r6 r7
              obtain ⟨r1, r2, r3, r4, r5, r6, r7⟩ := RW.out w3 T3.out
              go_wp2
              go_ret
              exact ⟨rfl, T1.out.trans T3.out (fun _ _ h => h)⟩
            · have q4 : ((nl : Int) != 2) = true := by simp; omega
              clear oe oh os op on ol
              go_enter Tryz.func11, Tryz.ntmps11
              go_upto_region 1 with fail
              change Code.wp _ _ _ _ (w.alloc (.cells C 35))
              rw [← hw1]
              clear hw1
              obtain ⟨r1, r2, r3, r4, r5, r6, r7⟩ := RW.out w1 T11.out
              go_wp2_with (go_at_call 33; refine stop ?_)
              unfold Stop
              refine (TE.out w1).mono ?_
              rintro r w2 ⟨rfl, t⟩
              have T2 := Lib.hid t
              clear t r1 r2 r3 r4 r5 r6 r7
              obtain ⟨r1, r2, r3, r4, r5, r6, r7⟩ := RW.out w2 T2.out
              go_wp2_with (go_at_call 34; refine stop ?_)
              unfold Stop
              refine (TH.out w2).mono ?_
              rintro r w3 ⟨rfl, t⟩
              have T3 := Lib.hid (T2.out.trans t (fun _ _ h => h))
              clear t r1 r2 r3 r4 r5 r6 r7
              obtain ⟨r1, r2, r3, r4, r5, r6, r7⟩ := RW.out w3 T3.out
              go_wp2
              go_ret
              exact ⟨rfl, T1.out.trans T3.out (fun _ _ h => h)⟩
        · have q2 : (x.e.p != x.h.p) = true := by simp [op]
          rw [IS.out, decide_eq_false op]
          simp only [Bool.and_false, Bool.false_and]
          clear oe oh os op
          go_enter Tryz.func11, Tryz.ntmps11
          go_upto_region 1 with fail
          change Code.wp _ _ _ _ (w.alloc (.cells C 35))
          rw [← hw1]
          clear hw1
          obtain ⟨r1, r2, r3, r4, r5, r6, r7⟩ := RW.out w1 T11.out
          go_wp2_with (go_at_call 33; refine stop ?_)
          unfold Stop
          refine (TE.out w1).mono ?_
          rintro r w2 ⟨rfl, t⟩
          have T2 := Lib.hid t
          clear t r1 r2 r3 r4 r5 r6 r7
          obtain ⟨r1, r2, r3, r4, r5, r6, r7⟩ := RW.out w2 T2.out
          go_wp2_with (go_at_call 34; refine stop ?_)
          unfold Stop
          refine (TH.out w2).mono ?_
          rintro r w3 ⟨rfl, t⟩
          have T3 := Lib.hid (T2.out.trans t (fun _ _ h => h))
          clear t r1 r2 r3 r4 r5 r6 r7
          obtain ⟨r1, r2, r3, r4, r5, r6, r7⟩ := RW.out w3 T3.out
          go_wp2
          go_ret
          exact ⟨rfl, T1.out.trans T3.out (fun _ _ h => h)⟩
      · have q1 : (x.e.s != x.h.s) = true := by simp [os]
        rw [IS.out, decide_eq_false os]
        simp only [Bool.and_false, Bool.false_and]
        clear oe oh os
        go_enter Tryz.func11, Tryz.ntmps11
        go_upto_region 1 with fail
        change Code.wp _ _ _ _ (w.alloc (.cells C 35))
        rw [← hw1]
        clear hw1
        obtain ⟨r1, r2, r3, r4, r5, r6, r7⟩ := RW.out w1 T11.out
        go_wp2_with (go_at_call 33; refine stop ?_)
        unfold Stop
        refine (TE.out w1).mono ?_
        rintro r w2 ⟨rfl, t⟩
        have T2 := Lib.hid t
        clear t r1 r2 r3 r4 r5 r6 r7
        obtain ⟨r1, r2, r3, r4, r5, r6, r7⟩ := RW.out w2 T2.out
        go_wp2_with (go_at_call 34; refine stop ?_)
        unfold Stop
        refine (TH.out w2).mono ?_
        rintro r w3 ⟨rfl, t⟩
        have T3 := Lib.hid (T2.out.trans t (fun _ _ h => h))
        clear t r1 r2 r3 r4 r5 r6 r7
        obtain ⟨r1, r2, r3, r4, r5, r6, r7⟩ := RW.out w3 T3.out
        go_wp2
        go_ret
        exact ⟨rfl, T1.out.trans T3.out (fun _ _ h => h)⟩
    · rw [decide_eq_false oh] at TH
      rw [IS.out, decide_eq_false oh]
      simp only [Bool.and_false, Bool.false_and]
      clear oe oh
      go_enter Tryz.func11, Tryz.ntmps11
      go_upto_region 1 with fail
      change Code.wp _ _ _ _ (w.alloc (.cells C 35))
      rw [← hw1]
      clear hw1
      obtain ⟨r1, r2, r3, r4, r5, r6, r7⟩ := RW.out w1 T11.out
      go_wp2_with (go_at_call 33; refine stop ?_)
      unfold Stop
      refine (TE.out w1).mono ?_
      rintro r w2 ⟨rfl, t⟩
      have T2 := Lib.hid t
      clear t r1 r2 r3 r4 r5 r6 r7
      obtain ⟨r1, r2, r3, r4, r5, r6, r7⟩ := RW.out w2 T2.out
      go_wp2_with (go_at_call 34; refine stop ?_)
      unfold Stop
      refine (TH.out w2).mono ?_
      rintro r w3 ⟨rfl, t⟩
      have T3 := Lib.hid (T2.out.trans t (fun _ _ h => h))
      clear t r1 r2 r3 r4 r5 r6 r7
      obtain ⟨r1, r2, r3, r4, r5, r6, r7⟩ := RW.out w3 T3.out
      go_wp2
      go_ret
      exact ⟨rfl, T1.out.trans T3.out (fun _ _ h => h)⟩
  · rw [decide_eq_false oe] at TE
    rw [IS.out, decide_eq_false oe]
    simp only [Bool.false_and]
    clear oe
    go_enter Tryz.func11, Tryz.ntmps11
    go_upto_region 1 with fail
    change Code.wp _ _ _ _ (w.alloc (.cells C 35))
    rw [← hw1]
    clear hw1
    obtain ⟨r1, r2, r3, r4, r5, r6, r7⟩ := RW.out w1 T11.out
    go_wp2_with (go_at_call 33; refine stop ?_)
    unfold Stop
    refine (TE.out w1).mono ?_
    rintro r w2 ⟨rfl, t⟩
    have T2 := Lib.hid t
    clear t r1 r2 r3 r4 r5 r6 r7
    obtain ⟨r1, r2, r3, r4, r5, r6, r7⟩ := RW.out w2 T2.out
    go_wp2
    go_ret
    exact ⟨rfl, T1.out.trans T2.out (fun _ _ h => h)⟩
end
end Go.Proofs.YthoaaieiiokcmaaGreatDoor
