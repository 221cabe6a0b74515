/- The document's Node. -/
import Derived.Test.YtppkjlmnnpfcfaaDoorTrE
set_option linter.unusedVariables false
namespace Go.Proofs.YtppkjlmnnpfcfaaDoor
open Go.RowKit
attribute [local go_sem ↓] loadAt_id
attribute [local go_sem] rowOf_drew rowOf_drewN run_idLoad
theorem rowOf_id {w : World} {g : Nat} {d : List B8} {t : TypeId} {fr : Nat × Nat} (hd : d.length = 32) (h : w.heap[g]? = some (.cells (d.map bv).toArray t fr)) : rowOf w g 0 32 = some (d.map bv).toArray := by
  rw [rowOf_block h 0 32 (by simp [hd])]
  simp [List.take_of_length_le, hd]
set_option maxRecDepth 100000 in
set_option maxHeartbeats 4000000 in
theorem rnode_any (a b : List B8) (w : World) (ha : a.length = 32) (hb : b.length = 32) :
    Calls Tryd.prog 27 #[.agg (a.map bv).toArray, .agg (b.map bv).toArray] w fun e w' => e = .returned (.agg ((nodeD a b).map bv).toArray) ∧ Below w.heap.size w w' := by
  obtain ⟨i0, hi, hz0, hz1, hz2⟩ := info_parts info_u8
  obtain ⟨C, hC⟩ : ∃ C, C = ((nodeD a b).map bv).toArray := ⟨_, rfl⟩
  have hC32 : C.size = 32 := by rw [hC]; simp [nodeD_len]
  have H3 := Lib.hid (show C.all (·.oneCell') = true by rw [hC]; exact bvs_one _)
  have H1 := Lib.hid (show (Tryd.prog.info? 26).map (·.size) = some C.size by rw [hC32]; kernel_rfl)
  have H2 := Lib.hid (show ZId.size = C.size by rw [hC32]; rfl)
  have O := Lib.hid (fun (g cap : Nat) (w : World) (h : Bts w (some ⟨g, 0, none⟩) (2 :: (longP a ++ longP b))) (hc : 73 ≤ cap) => of_any (some ⟨g, 0, none⟩) cap (2 :: (longP a ++ longP b)) w h (fun h => by cases h) (by simp [longP_len]; omega) (by simp [longP_len]; omega))
  have e1 : (2 :: (longP a ++ longP b)).length = 73 := by simp [longP_len]; omega
  rw [e1] at O
  rw [← hC]
  unfold nodeD at hC
  rw [← hC] at O
  obtain ⟨w1, hw1⟩ : ∃ w1, w1 = ((w.alloc (.cells (a.map bv).toArray 26)).alloc (.cells (b.map bv).toArray 26)).alloc (.cells ZId 26) := ⟨_, rfl⟩
  have hb1 : Below w.heap.size w w1 := by rw [hw1]; exact (((Below.refl _ _).alloc (Nat.le_refl _) _).alloc (by simp) _).alloc (by simp; omega) _
  have hs2 : ((w.alloc (.cells (a.map bv).toArray 26)).alloc (.cells (b.map bv).toArray 26)).heap.size = w.heap.size + 2 := by simp
  have hs1 : w1.heap.size = w.heap.size + 3 := by rw [hw1]; simp
  have hz1' : w1.heap[w.heap.size + 2]? = some (.cells ZId 26 (0, 0)) := by rw [hw1, ← hs2]; exact heap_alloc_new _ _
  have hlast : Below ((w.alloc (.cells (a.map bv).toArray 26)).alloc (.cells (b.map bv).toArray 26)).heap.size ((w.alloc (.cells (a.map bv).toArray 26)).alloc (.cells (b.map bv).toArray 26)) w1 := by rw [hw1]; exact (Below.refl _ _).alloc (Nat.le_refl _) _
  have ra1 : w1.heap[w.heap.size]? = some (.cells (a.map bv).toArray 26 (0, 0)) := heap_below hlast (heap_alloc2_old w _ _)
  have rb1 : w1.heap[w.heap.size + 1]? = some (.cells (b.map bv).toArray 26 (0, 0)) := heap_below hlast (heap_alloc2_new w _ _)
  have HB1 := Lib.hid hb1
  have HZ1 := Lib.hid hz1'
  have RA1 := Lib.hid ra1
  have RB1 := Lib.hid rb1
  have HA := Lib.hid ha
  have HBl := Lib.hid hb
  have IA := Lib.hid (fun w => id_any a w ha)
  have IB := Lib.hid (fun w => id_any b w hb)
  have LA := Lib.hid (fun (g cap : Nat) (w : World) (h : Bts w (some ⟨g, 0, none⟩) a) => long_any (some ⟨g, 0, none⟩) cap a w h (fun h => by cases h) (by omega))
  have LB := Lib.hid (fun (g cap : Nat) (w : World) (h : Bts w (some ⟨g, 0, none⟩) b) => long_any (some ⟨g, 0, none⟩) cap b w h (fun h => by cases h) (by omega))
  rw [ha] at LA
  rw [hb] at LB
  clear hC hC32 hb1 hz1' e1 ra1 rb1 hlast hs2 ha hb
  go_enter Tryd.func27, Tryd.ntmps27
  go_upto_region 1 with fail
  have es : w.heap.size + 1 + 1 = w.heap.size + 2 := rfl
  rw [es]
  change Code.wp _ _ _ _ (((w.alloc (.cells (a.map bv).toArray 26)).alloc (.cells (b.map bv).toArray 26)).alloc (.cells ZId 26))
  rw [← hw1]
  obtain ⟨w2, hw2⟩ : ∃ w2, w2 = w1.alloc (.cells #[.int .u8 2] 5) := ⟨_, rfl⟩
  have h12 : Below w1.heap.size w1 w2 := by rw [hw2]; exact (Below.refl _ _).alloc (Nat.le_refl _) _
  have r1 : rowOf (w1.alloc (.cells #[.int .u8 2] 5)) w.heap.size 0 32 = some (a.map bv).toArray := by rw [← hw2]; exact rowOf_id HA.out (heap_below h12 RA1.out)
  have HO2 := Lib.hid (show w2.ownsRow (w.heap.size + 3) 5 1 (.slice (some ⟨w.heap.size + 3, 0, none⟩) 1 1) 1 [bv 2] by
    have := own_new w1 (w.heap.size + 3) 5 [bv 2] 1 rfl (by omega) (by unfold maxLen; omega)
    rw [hs1] at this; rw [hw2]; exact this)
  have HB2 := Lib.hid (HB1.out.trans (h12.mono HB1.out.size))
  have HZ2 := Lib.hid (heap_below h12 HZ1.out)
  have RB2 := Lib.hid (heap_below h12 RB1.out)
  have hs2 : w2.heap.size = w.heap.size + 4 := by rw [hw2]; simp [hs1]
  clear h12 hw1
  go_wp2_with (go_at_call 39; refine stop ?_)
  unfold Stop
  rw [← hw2]
  clear hw2 r1
  generalize Value.slice (some ⟨w.heap.size + 3, 0, none⟩) 1 1 = v3 at *
  refine (IA.out w2).mono ?_
  rintro e w3 ⟨v8, rfl, ho, hb⟩
  obtain ⟨g, cap, rfl, hg1, hg2⟩ := ho.form (by omega)
  have HX := Lib.hid (own_bts ho)
  have HO3 := Lib.hid (own_below HO2.out hb)
  have HB3 := Lib.hid (HB2.out.trans (hb.mono HB2.out.size))
  have HZ3 := Lib.hid (heap_below hb HZ2.out)
  have RB3 := Lib.hid (heap_below hb RB2.out)
  have hs3 := hb.size
  clear ho hb
  go_wp2_with (go_at_call 38; refine stop ?_)
  unfold Stop
  refine (LA.out g cap w3 HX.out).mono ?_
  rintro e w4 ⟨v9, rfl, ho, hb⟩
  obtain ⟨g', cap', rfl, hg3, hg4⟩ := ho.form (by omega)
  have HX4 := Lib.hid (own_bts ho)
  have HO4 := Lib.hid (own_below HO3.out hb)
  have HB4 := Lib.hid (HB3.out.trans (hb.mono HB3.out.size))
  have HZ4 := Lib.hid (heap_below hb HZ3.out)
  have RB4 := Lib.hid (heap_below hb RB3.out)
  have hs4 := hb.size
  clear ho hb
  go_wp2_with (at_builtin; refine stop ?_)
  unfold Stop
  have hla : (longB a).length = 36 := by rw [long_len, HA.out]
  have hlb : (longB b).length = 36 := by rw [long_len, HBl.out]
  refine wpList_append_any (o := ⟨some 10, _, _, _, _, _⟩) rfl _ _ 32 rfl (w.heap.size + 3) 5 i0 (.int .u8 0) 1 Tryd.underlying32 hi hz0 hz1 hz2 rfl _ 1 _ rfl HO4.out (some ⟨g', 0, none⟩) (4 + 32) cap' ((longB a).map bv) rfl (fun h => by cases h) (by rw [List.length_map, hla]) HX4.out (bv_one _) ?_ ?_ ?_ ?_
  · unfold maxLen; omega
  · omega
  · omega
  intro v6 w5 g1 g2
  have HO5 := Lib.hid g1
  have HB5 := Lib.hid (HB4.out.grown g2 (by omega) (fun k hk => by have := (HO4.out.lt k hk).1; omega))
  have HZ5 := Lib.hid ((g2.block _ (lt_of_block HZ4.out) (fun h => by have := (HO4.out.lt _ h.symm).1; omega)).trans HZ4.out)
  have RB5 := (g2.block _ (lt_of_block RB4.out) (fun h => by have := (HO4.out.lt _ h.symm).1; omega)).trans RB4.out
  have hs5 := g2.size
  clear g1 g2
  have r1 := rowOf_id HBl.out RB5
  clear RB5
  go_wp2_with (go_at_call 39; refine stop ?_)
  unfold Stop
  refine (IB.out w5).mono ?_
  rintro e w6 ⟨v13, rfl, ho, hb⟩
  obtain ⟨g, cap, rfl, hg1, hg2⟩ := ho.form (by omega)
  have HX6 := Lib.hid (own_bts ho)
  have HO6 := Lib.hid (own_below HO5.out hb)
  have HB6 := Lib.hid (HB5.out.trans (hb.mono HB5.out.size))
  have HZ6 := Lib.hid (heap_below hb HZ5.out)
  have hs6 := hb.size
  clear ho hb r1
  go_wp2_with (go_at_call 38; refine stop ?_)
  unfold Stop
  refine (LB.out g cap w6 HX6.out).mono ?_
  rintro e w7 ⟨v9, rfl, ho, hb⟩
  obtain ⟨g', cap', rfl, hg3, hg4⟩ := ho.form (by omega)
  have HX7 := Lib.hid (own_bts ho)
  have HO7 := Lib.hid (own_below HO6.out hb)
  have HB7 := Lib.hid (HB6.out.trans (hb.mono HB6.out.size))
  have HZ7 := Lib.hid (heap_below hb HZ6.out)
  have hs7 := hb.size
  clear ho hb
  go_wp2_with (at_builtin; refine stop ?_)
  unfold Stop
  refine wpList_append_any (o := ⟨some 15, _, _, _, _, _⟩) rfl _ _ 32 rfl (w.heap.size + 3) 5 i0 (.int .u8 0) 1 Tryd.underlying32 hi hz0 hz1 hz2 rfl _ (1 + (4 + 32)) _ rfl HO7.out (some ⟨g', 0, none⟩) (4 + 32) cap' ((longB b).map bv) rfl (fun h => by cases h) (by rw [List.length_map, hlb]) HX7.out (bv_one _) ?_ ?_ ?_ ?_
  · unfold maxLen; omega
  · omega
  · omega
  intro v16 w8 g1 g2
  obtain ⟨g', cap', rfl, hg3, hg4⟩ := World.ownsRow.form g1 (by omega)
  have hcap := own_cap g1
  have HX8 := Lib.hid (show Bts w8 (some ⟨g', 0, none⟩) (2 :: (longP a ++ longP b)) from own_bts (l := 2 :: (longP a ++ longP b)) (by
    have e : [bv 2] ++ (longB a).map bv ++ (longB b).map bv = (2 :: (longP a ++ longP b)).map bv := by simp [longB, longP]
    rw [e] at g1; exact g1))
  have HB8 := Lib.hid (HB7.out.grown g2 (by omega) (fun k hk => by have := (HO7.out.lt k hk).1; omega))
  have HZ8 := Lib.hid ((g2.block _ (lt_of_block HZ7.out) (fun h => by have := (HO7.out.lt _ h.symm).1; omega)).trans HZ7.out)
  clear g1 g2
  go_wp2_with (go_at_call 24; refine stop ?_)
  unfold Stop
  refine (O.out g' cap' w8 HX8.out hcap).mono ?_
  rintro e w9 ⟨rfl, hb9⟩
  have HA9 := Lib.hid (heap_below hb9 HZ8.out)
  have HB9 := Lib.hid (HB8.out.trans (hb9.mono HB8.out.size))
  clear hb9
  go_wp2_with (refine wpList_store_row rfl _ _ _ rfl (w.heap.size + 2) C rfl rfl _ ZId HA9.out H1.out H2.out H3.out ?_)
  have hA2 := setRow_heap w9 (w.heap.size + 2) ZId C 26 (0, 0) HA9.out
  refine bodyPost_ret (v := .agg C) ?_ rfl ⟨rfl, below_setRow HB9.out (by omega) C⟩
  exact results_cell_row Tryd.results27 _ _ (w.heap.size + 2) _ C (0, 0) _ rfl hA2 Tryd.underlying26 rfl H1.out
end Go.Proofs.YtppkjlmnnpfcfaaDoor
