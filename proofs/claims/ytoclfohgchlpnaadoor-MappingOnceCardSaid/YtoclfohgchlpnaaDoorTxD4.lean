/- The contracts of both Ids. -/
import Derived.Test.YtoclfohgchlpnaaDoorTxD2
import Derived.Test.YtoclfohgchlpnaaDoorTxU
set_option linter.unusedVariables false
set_option linter.unusedSimpArgs false
namespace Go.Proofs.YtoclfohgchlpnaaDoor
open Go.RowKit
def idD (b : List B8) : List B8 := dig (8 :: longB b)
set_option maxRecDepth 100000 in
theorem idD_len (b : List B8) : (idD b).length = 32 := dig_len _
def idT (t : Ptx) : List B8 := if chk t = 0 then idD (formB t) else zeros 32
set_option maxRecDepth 100000 in
theorem idT_len (t : Ptx) : (idT t).length = 32 := by
  unfold idT; split
  · exact idD_len _
  · simp [zeros]
set_option maxRecDepth 100000 in
theorem formB_le {t : Ptx} (hw : withinB t = true) (hi : ∀ p ∈ t.ins, p.ok) (ho : ∀ p ∈ t.outs, p.ok) (hf : t.fee < 18446744073709551616) : (formB t).length ≤ 3000 := by
  obtain ⟨h1, h2, h3, h4, h5⟩ := within_all hw
  have a := insF_le hi h5
  have b := outsF_le ho
  have c := numB_le (n := t.ins.length) (by omega)
  have d := numB_le (n := t.outs.length) (by omega)
  have e := numB_le hf
  have f := numB_le (n := t.exp.toNat) (by omega)
  unfold formB
  simp only [List.length_append]; omega
set_option maxRecDepth 100000 in
theorem ZIL_len : ZIL.size = 32 := rfl
set_option maxRecDepth 100000 in
theorem ZIL_zero : ZIL = ((zeros 32).map bv).toArray := by kernel_rfl
set_option maxRecDepth 100000 in
set_option maxHeartbeats 4000000 in
theorem tid_any (Ai Ao : Option Addr) (ci co B : Nat) (t : Ptx) (w : World) (h : TxAt w B Ai ci Ao co t) (hBw : B ≤ w.heap.size) (hG : Glob w) :
    Calls Tryd.prog 40 #[txV Ai ci Ao co t] w fun e w' => e = .returned (.agg ((idT t).map bv).toArray) ∧ Below w.heap.size w w' := by
  obtain ⟨w1, hw1⟩ : ∃ w1, w1 = (w.alloc (.cells #[.slice Ai t.ins.length ci, .slice Ao t.outs.length co, .int .u64 (t.fee : Int), .int .i64 t.exp] 35)).alloc (.cells ZIL 23) := ⟨_, rfl⟩
  have ht1 : Turn (fun _ => False) w w1 := by rw [hw1]; exact ((Turn.refl _ _).alloc _).alloc _
  have hg1 : w1.heap[w.heap.size]? = some (.cells #[.slice Ai t.ins.length ci, .slice Ao t.outs.length co, .int .u64 (t.fee : Int), .int .i64 t.exp] 35 (0, 0)) := by rw [hw1]; exact heap_alloc2_old _ _ _
  have hz1 : w1.heap[w.heap.size + 1]? = some (.cells ZIL 23 (0, 0)) := by rw [hw1]; exact heap_alloc2_new _ _ _
  obtain ⟨⟨c0, c1, c2, c3⟩, -⟩ := row4 hg1
  have P := Lib.hid (put_any Ai Ao ci co B t w1 (h.turn ht1 (fun _ _ h => h)) (Nat.le_trans hBw ht1.size))
  obtain ⟨C, hC⟩ : ∃ C, C = ((idT t).map bv).toArray := ⟨_, rfl⟩
  have hC32 : C.size = 32 := by rw [hC]; simp [idT_len]
  have H1 := Lib.hid (show (Tryd.prog.info? 23).map (·.size) = some C.size by rw [hC32]; kernel_rfl)
  have H2 := Lib.hid (show ZIL.size = C.size by rw [hC32]; rfl)
  have H3 := Lib.hid (show C.all (·.oneCell') = true by rw [hC]; exact bvs_one _)
  have HZ1 := Lib.hid hz1
  have HT1 := Lib.hid ht1
  have HGL := Lib.hid (hG.below (turn_stp ht1) hG.1)
  have HOK := Lib.hid (fun hz : chk t = 0 => formB_le (chk_ok hz) h.ins.oks h.outs.oks h.fee)
  have HPF := Lib.hid (show putF t = if chk t = 0 then formB t else [] from rfl)
  have HIT := Lib.hid (show idT t = if chk t = 0 then idD (formB t) else zeros 32 from rfl)
  rw [← hC]
  unfold txV at P ⊢
  generalize chk t = z at *
  have HC := Lib.hid hC
  clear h ht1 hg1 hz1 hG hBw hC hC32
  by_cases hz : z = 0
  · subst hz
    have hfl := HOK.out rfl
    rw [if_pos rfl] at HPF HIT
    have U := Lib.hid (fun (g : Nat) (w : World) (hL : Lst w (some ⟨g, 0, none⟩) [formB t]) (hG : Glob w) => under_any 8 (some ⟨g, 0, none⟩) 1 [formB t] w hL hG (by rw [under_one]; simp [longB, wb_len]; omega) (by simp))
    rw [under_one] at U
    rw [show dig (8 :: longB (formB t)) = idT t from HIT.out.symm, ← HC.out] at U
    go_enter Tryd.func40, Tryd.ntmps40
    go_upto_region 1 with fail
    change Code.wp _ _ _ _ ((w.alloc (.cells #[.slice Ai t.ins.length ci, .slice Ao t.outs.length co, .int .u64 (t.fee : Int), .int .i64 t.exp] 35)).alloc (.cells ZIL 23))
    rw [← hw1]
    clear hw1
    go_wp2_with fail
    refine P.out.mono ?_
    rintro r w2 ⟨u, rfl, own2, t2⟩
    rw [HPF.out] at own2
    obtain ⟨A2, k2, rfl, s2, -, hk2, ha2⟩ := own_sl own2
    have hb12 : Below w1.heap.size w1 w2 := turn_stp t2
    have HB2 := Lib.hid (show Below w.heap.size w w2 from turn_stp (HT1.out.trans t2 (fun _ _ h => h)))
    obtain ⟨w3, hw3⟩ : ∃ w3, w3 = w2.alloc (.cells #[.slice A2 (formB t).length k2] 52) := ⟨_, rfl⟩
    have hb23 : Below w2.heap.size w2 w3 := by rw [hw3]; exact (Below.refl _ _).alloc (Nat.le_refl _) _
    have U3 := Lib.hid (U.out w2.heap.size w3 (by rw [hw3]; exact lst_one A2 (formB t) k2 (Bts.of_sl s2) hk2 _) ((HGL.out.below hb12 HGL.out.1).below hb23 (HGL.out.below hb12 HGL.out.1).1))
    have HZ3 := Lib.hid (heap_below hb23 (heap_below hb12 HZ1.out))
    have HB3 := Lib.hid (HB2.out.trans (hb23.mono (HB2.out.size)))
    clear own2 s2 t2 hb12 hb23 P c0 c1 c2 c3
    go_wp2_with fail
    rw [← hw3]
    clear hw3
    refine U3.out.mono ?_
    rintro e w4 ⟨rfl, hb4⟩
    have HA := Lib.hid (heap_below hb4 HZ3.out)
    have HB4 := Lib.hid (HB3.out.trans (hb4.mono HB3.out.size))
    clear hb4
    go_wp2_with (refine wpList_store_row rfl _ _ _ rfl (w.heap.size + 1) C rfl rfl _ ZIL HA.out H1.out H2.out H3.out ?_)
    have hA2 := setRow_heap w4 (w.heap.size + 1) ZIL C 23 (0, 0) HA.out
    refine bodyPost_ret (v := .agg C) ?_ rfl ⟨rfl, below_setRow HB4.out (by omega) C⟩
    exact results_cell_row Tryd.results40 _ _ (w.heap.size + 1) _ C (0, 0) _ rfl hA2 Tryd.underlying23 rfl H1.out
  · have hz1 : ((z : Int) != 0) = true := by simp; omega
    have HCZ := Lib.hid (show C = ZIL by rw [HC.out, HIT.out, if_neg hz, ZIL_zero])
    have hzid : ∀ w, (Instr.build 23 #[]).run Tryd.prog w = .ok (.agg ZIL) w := fun w => by kernel_rfl
    have H4 := Lib.hid (show ZIL.all (·.oneCell') = true by rw [← HCZ.out]; exact H3.out)
    have H5 := Lib.hid (show (Tryd.prog.info? 23).map (·.size) = some ZIL.size by kernel_rfl)
    clear hz
    go_enter Tryd.func40, Tryd.ntmps40
    go_upto_region 1 with fail
    change Code.wp _ _ _ _ ((w.alloc (.cells #[.slice Ai t.ins.length ci, .slice Ao t.outs.length co, .int .u64 (t.fee : Int), .int .i64 t.exp] 35)).alloc (.cells ZIL 23))
    rw [← hw1]
    clear hw1
    go_wp2_with fail
    refine P.out.mono ?_
    rintro r w2 ⟨u, rfl, own2, t2⟩
    have HA := Lib.hid (heap_below (turn_stp t2) HZ1.out)
    have HB2 := Lib.hid (show Below w.heap.size w w2 from turn_stp (HT1.out.trans t2 (fun _ _ h => h)))
    clear own2 t2 P c0 c1 c2 c3
    go_wp2_with (refine wpList_store_row rfl _ _ _ rfl (w.heap.size + 1) ZIL rfl rfl _ ZIL HA.out H5.out rfl H4.out ?_)
    have hA2 := setRow_heap w2 (w.heap.size + 1) ZIL ZIL 23 (0, 0) HA.out
    refine bodyPost_ret (v := .agg ZIL) ?_ rfl ⟨by rw [HCZ.out], below_setRow HB2.out (by omega) ZIL⟩
    exact results_cell_row Tryd.results40 _ _ (w.heap.size + 1) _ ZIL (0, 0) _ rfl hA2 Tryd.underlying23 rfl H5.out
set_option maxRecDepth 100000 in
set_option maxHeartbeats 4000000 in
theorem rid_any (Ai Ao : Option Addr) (ci co B : Nat) (t : Ptx) (w : World) (h : TxAt w B Ai ci Ao co t) (hBw : B ≤ w.heap.size) (hwi : withinB t = true) :
    Calls Tryd.prog 26 #[txV Ai ci Ao co t] w fun e w' => e = .returned (.agg ((idD (formB t)).map bv).toArray) ∧ Below w.heap.size w w' := by
  obtain ⟨i0, hi, hz0, hz1, hz2⟩ := info_parts info_u8
  obtain ⟨wz, hwz⟩ : ∃ wz, wz = (w.alloc (.cells #[.slice Ai t.ins.length ci, .slice Ao t.outs.length co, .int .u64 (t.fee : Int), .int .i64 t.exp] 35)).alloc (.cells ZIL 23) := ⟨_, rfl⟩
  obtain ⟨w1, hw1⟩ : ∃ w1, w1 = wz.alloc (.cells #[bv 8] 5) := ⟨_, rfl⟩
  have sz : wz.heap.size = w.heap.size + 2 := by rw [hwz]; simp
  have htz : Turn (fun _ => False) w wz := by rw [hwz]; exact ((Turn.refl _ _).alloc _).alloc _
  have ht1 : Turn (fun _ => False) wz w1 := by rw [hw1]; exact (Turn.refl _ _).alloc _
  have hg1 : w1.heap[w.heap.size]? = some (.cells #[.slice Ai t.ins.length ci, .slice Ao t.outs.length co, .int .u64 (t.fee : Int), .int .i64 t.exp] 35 (0, 0)) := ht1.heap (by rw [hwz]; exact heap_alloc2_old _ _ _) (fun h => h)
  have hz1' : w1.heap[w.heap.size + 1]? = some (.cells ZIL 23 (0, 0)) := ht1.heap (by rw [hwz]; exact heap_alloc2_new _ _ _) (fun h => h)
  have ho1 : w1.ownsRow wz.heap.size 5 1 (.slice (some ⟨wz.heap.size, 0, none⟩) 1 1) 1 [bv 8] := by
    have := own_new wz wz.heap.size 5 [bv 8] 1 rfl (Nat.le_refl _) (by unfold maxLen; omega)
    rw [hw1]; exact this
  have HSZ := Lib.hid sz
  obtain ⟨⟨c0, c1, c2, c3⟩, -⟩ := row4 hg1
  have htw1 := htz.trans ht1 (S := fun _ => False) (fun _ _ h => h)
  have P := Lib.hid (rput_any Ai Ao ci co B t w1 (h.turn htw1 (fun _ _ h => h)) (Nat.le_trans hBw htw1.size) hwi)
  obtain ⟨C, hC⟩ : ∃ C, C = ((idD (formB t)).map bv).toArray := ⟨_, rfl⟩
  have hC32 : C.size = 32 := by rw [hC]; simp [idD_len]
  have H1 := Lib.hid (show (Tryd.prog.info? 23).map (·.size) = some C.size by rw [hC32]; kernel_rfl)
  have H2 := Lib.hid (show ZIL.size = C.size by rw [hC32]; rfl)
  have H3 := Lib.hid (show C.all (·.oneCell') = true by rw [hC]; exact bvs_one _)
  have hfl := formB_le hwi h.ins.oks h.outs.oks h.fee
  obtain ⟨b, hb⟩ : ∃ b, b = formB t := ⟨_, rfl⟩
  rw [← hb] at P hC hfl ⊢
  have L := Lib.hid (fun (A : Option Addr) (c : Nat) (w : World) (hB : Bts w A b) (hA : A = none → c = 0) => long_any A c b w hB hA (by omega))
  have O := Lib.hid (fun (g cap : Nat) (w : World) (h : Bts w (some ⟨g, 0, none⟩) (8 :: longB b)) (hc : 1 + (4 + b.length) ≤ cap) => of_any (some ⟨g, 0, none⟩) cap (8 :: longB b) w h (fun h => by cases h) (by rw [List.length_cons, long_len]; omega) (by rw [List.length_cons, long_len]; omega))
  have e1 : (8 :: longB b).length = 1 + (4 + b.length) := by rw [List.length_cons, long_len]; omega
  rw [e1] at O
  rw [← hC]
  unfold idD at hC
  rw [← hC] at O
  have HZ1 := Lib.hid hz1'
  have HO1 := Lib.hid ho1
  have HB1 := Lib.hid (show Below w.heap.size w w1 from turn_stp htw1)
  have hsz1 : wz.heap.size < w1.heap.size := by rw [hw1]; simp
  unfold txV at P ⊢
  clear h htz ht1 hg1 hz1' ho1 htw1 hC hC32 hb e1 hBw sz
  go_enter Tryd.func26, Tryd.ntmps26
  go_upto_region 1 with fail
  change Code.wp _ _ _ _ ((w.alloc (.cells #[.slice Ai t.ins.length ci, .slice Ao t.outs.length co, .int .u64 (t.fee : Int), .int .i64 t.exp] 35)).alloc (.cells ZIL 23))
  rw [← hwz]
  clear hwz
  go_step
  refine wpList_val rfl (.slice (some ⟨wz.heap.size, 0, none⟩) 1 1) (wz.alloc (.cells #[bv 8] 5)) (by kernel_rfl) ?_
  rw [← hw1]
  clear hw1
  generalize Value.slice (some ⟨wz.heap.size, 0, none⟩) 1 1 = v3 at *
  go_wp2_with fail
  refine P.out.mono ?_
  rintro r w2 ⟨u, rfl, own2, t2⟩
  obtain ⟨A2, k2, rfl, s2, -, hk2, ha2⟩ := own_sl own2
  have hb12 : Below w1.heap.size w1 w2 := turn_stp t2
  have L2 := Lib.hid (L.out A2 k2 w2 (Bts.of_sl s2) ha2)
  have HO2 := Lib.hid (own_below HO1.out hb12)
  have HZ2 := Lib.hid (heap_below hb12 HZ1.out)
  have HB2 := Lib.hid (HB1.out.trans (hb12.mono HB1.out.size))
  have hs12 := hb12.size
  clear own2 s2 t2 hb12 c0 c1 c2 c3 P L
  go_wp2_with fail
  refine L2.out.mono ?_
  rintro e w3 ⟨v5, rfl, ho5, hb3⟩
  obtain ⟨g, cap, rfl, hg1, hg2⟩ := ho5.form (by omega)
  have HO3 := Lib.hid (own_below HO2.out hb3)
  have HB3 := Lib.hid (HB2.out.trans (hb3.mono HB2.out.size))
  have HZ3 := Lib.hid (heap_below hb3 HZ2.out)
  have H5 := Lib.hid (own_bts ho5)
  have hs23 := hb3.size
  clear ho5 hb3
  go_wp2_with (at_builtin; refine stop ?_)
  unfold Stop
  refine wpList_append_any (o := ⟨some 7, _, _, _, _, _⟩) rfl _ _ 52 rfl wz.heap.size 5 i0 (.int .u8 0) 1 Tryd.underlying52 hi hz0 hz1 hz2 rfl _ 1 _ rfl HO3.out (some ⟨g, 0, none⟩) (4 + b.length) cap ((longB b).map bv) rfl (fun h => by cases h) (by rw [List.length_map, long_len]) H5.out (bv_one _) ?_ ?_ ?_ ?_
  · unfold maxLen; omega
  · omega
  · omega
  intro v6 w4 g1 g2
  obtain ⟨g', cap', rfl, hg3, hg4⟩ := World.ownsRow.form g1 (by omega)
  have HX := Lib.hid (show Bts w4 (some ⟨g', 0, none⟩) (8 :: longB b) from own_bts (l := 8 :: longB b) g1)
  have HB4 := Lib.hid (HB3.out.grown g2 (by have := HB3.out.size; omega) (fun k hk => by have := (HO3.out.lt k hk).1; have := HSZ.out; omega))
  have HZ4 := Lib.hid ((g2.block _ (lt_of_block HZ3.out) (fun h => by have := (HO3.out.lt _ h.symm).1; have := HSZ.out; omega)).trans HZ3.out)
  have hcap := own_cap g1
  clear g1 g2
  go_wp2_with fail
  refine (O.out g' cap' w4 HX.out hcap).mono ?_
  rintro e w5 ⟨rfl, hb5⟩
  have HA := Lib.hid (heap_below hb5 HZ4.out)
  have HB5 := Lib.hid (HB4.out.trans (hb5.mono HB4.out.size))
  clear hb5
  go_wp2_with (refine wpList_store_row rfl _ _ _ rfl (w.heap.size + 1) C rfl rfl _ ZIL HA.out H1.out H2.out H3.out ?_)
  have hA2 := setRow_heap w5 (w.heap.size + 1) ZIL C 23 (0, 0) HA.out
  refine bodyPost_ret (v := .agg C) ?_ rfl ⟨rfl, below_setRow HB5.out (by omega) C⟩
  exact results_cell_row Tryd.results26 _ _ (w.heap.size + 1) _ C (0, 0) _ rfl hA2 Tryd.underlying23 rfl H1.out
end Go.Proofs.YtoclfohgchlpnaaDoor
