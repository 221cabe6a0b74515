/- The document's Leaf and Node. -/
import Derived.Test.YtppkjlmnnpfcfaaDoorTrD
set_option linter.unusedVariables false
namespace Go.Proofs.YtppkjlmnnpfcfaaDoor
open Go.RowKit
theorem longP_len (b : List B8) : (longP b).length = 4 + b.length := by simp [longP, wb_len]
theorem own_bts {w : World} {B n g cap : Nat} {l : List B8} (h : w.ownsRow B 5 1 (.slice (some ⟨g, 0, none⟩) n cap) n (l.map bv)) : Bts w (some ⟨g, 0, none⟩) l := fun j u hu => ⟨_, rfl, h.cells rfl j u hu⟩
set_option maxRecDepth 100000 in
set_option maxHeartbeats 2000000 in
theorem rleaf_any (A : Option Addr) (c : Nat) (b : List B8) (w : World) (hB : Bts w A b) (hA : A = none → c = 0) (hc : b.length ≤ c) (hb : b.length ≤ 1000000) :
    Calls Tryd.prog 25 #[.slice A b.length c] w fun e w' => e = .returned (.agg ((leafD b).map bv).toArray) ∧ Below w.heap.size w w' := by
  obtain ⟨i0, hi, hz0, hz1, hz2⟩ := info_parts info_u8
  obtain ⟨C, hC⟩ : ∃ C, C = ((leafD b).map bv).toArray := ⟨_, rfl⟩
  have hC32 : C.size = 32 := by rw [hC]; simp [leafD_len]
  have H3 := Lib.hid (show C.all (·.oneCell') = true by rw [hC]; exact bvs_one _)
  have H1 := Lib.hid (show (Tryd.prog.info? 26).map (·.size) = some C.size by rw [hC32]; kernel_rfl)
  have H2 := Lib.hid (show ZId.size = C.size by rw [hC32]; rfl)
  have O := Lib.hid (fun (g cap : Nat) (w : World) (h : Bts w (some ⟨g, 0, none⟩) (1 :: longP b)) (hc : 1 + (4 + b.length) ≤ cap) => of_any (some ⟨g, 0, none⟩) cap (1 :: longP b) w h (fun h => by cases h) (by rw [List.length_cons, longP_len]; omega) (by rw [List.length_cons, longP_len]; omega))
  have e1 : (1 :: longP b).length = 1 + (4 + b.length) := by rw [List.length_cons, longP_len]; omega
  rw [e1] at O
  rw [← hC]
  unfold leafD at hC
  rw [← hC] at O
  obtain ⟨w1, hw1⟩ : ∃ w1, w1 = (w.alloc (.cells ZId 26)).alloc (.cells #[bv 1] 5) := ⟨_, rfl⟩
  have hb1 : Below w.heap.size w w1 := by rw [hw1]; exact ((Below.refl _ _).alloc (Nat.le_refl _) _).alloc (by simp) _
  have hz1' : w1.heap[w.heap.size]? = some (.cells ZId 26 (0, 0)) := by rw [hw1]; exact heap_alloc2_old w _ _
  have ho1 : w1.ownsRow (w.heap.size + 1) 5 1 (.slice (some ⟨w.heap.size + 1, 0, none⟩) 1 1) 1 [bv 1] := by
    have := own_new (w.alloc (.cells ZId 26)) (w.heap.size + 1) 5 [bv 1] 1 rfl (by simp) (by unfold maxLen; omega)
    rw [show (w.alloc (.cells ZId 26)).heap.size = w.heap.size + 1 by simp] at this
    rw [hw1]; exact this
  have L := Lib.hid (long_any A c b w1 (hB.below hb1) hA (by omega))
  have HB1 := Lib.hid hb1
  have HZ1 := Lib.hid hz1'
  have HO1 := Lib.hid ho1
  have hs1 : w1.heap.size = w.heap.size + 2 := by rw [hw1]; simp
  clear hC hC32 hB hb1 hz1' ho1 e1
  go_enter Tryd.func25, Tryd.ntmps25
  go_wp2_with (go_at_call 38; refine stop ?_)
  unfold Stop
  change w1 = (w.alloc (.cells ZId 26)).alloc (.cells #[.int .u8 1] 5) at hw1
  rw [← hw1]
  clear hw1
  generalize Value.slice (some ⟨w.heap.size + 1, 0, none⟩) 1 1 = v3 at *
  refine L.out.mono ?_
  rintro e w2 ⟨v5, rfl, ho5, hb2⟩
  obtain ⟨g, cap, rfl, hg1, hg2⟩ := ho5.form (by omega)
  have HO2 := Lib.hid (own_below HO1.out hb2)
  have HB2 := Lib.hid (HB1.out.trans (hb2.mono HB1.out.size))
  have HZ2 := Lib.hid (heap_below hb2 HZ1.out)
  have H5 := Lib.hid (own_bts ho5)
  have hs2 := hb2.size
  clear ho5 hb2
  go_wp2_with (at_builtin; refine stop ?_)
  unfold Stop
  refine wpList_append_any (o := ⟨some 6, _, _, _, _, _⟩) rfl _ _ 32 rfl (w.heap.size + 1) 5 i0 (.int .u8 0) 1 Tryd.underlying32 hi hz0 hz1 hz2 rfl _ 1 _ rfl HO2.out (some ⟨g, 0, none⟩) (4 + b.length) cap ((longB b).map bv) rfl (fun h => by cases h) (by rw [List.length_map, long_len]) H5.out (bv_one _) ?_ ?_ ?_ ?_
  · unfold maxLen; omega
  · omega
  · omega
  intro v6 w3 g1 g2
  obtain ⟨g', cap', rfl, hg3, hg4⟩ := World.ownsRow.form g1 (by omega)
  have HX := Lib.hid (show Bts w3 (some ⟨g', 0, none⟩) (1 :: longP b) from own_bts (l := 1 :: longP b) g1)
  have HB3 := Lib.hid (HB2.out.grown g2 (by omega) (fun k hk => by have := (HO2.out.lt k hk).1; omega))
  have HZ3 := Lib.hid ((g2.block _ (lt_of_block HZ2.out) (fun h => by have := (HO2.out.lt _ h.symm).1; omega)).trans HZ2.out)
  have hcap := own_cap g1
  clear g1 g2
  go_wp2_with (go_at_call 24; refine stop ?_)
  unfold Stop
  refine (O.out g' cap' w3 HX.out hcap).mono ?_
  rintro e w4 ⟨rfl, hb4⟩
  have HA := Lib.hid (heap_below hb4 HZ3.out)
  have HB4 := Lib.hid (HB3.out.trans (hb4.mono HB3.out.size))
  clear hb4
  go_wp2_with (refine wpList_store_row rfl _ _ _ rfl w.heap.size C rfl rfl _ ZId HA.out H1.out H2.out H3.out ?_)
  have hA2 := setRow_heap w4 w.heap.size ZId C 26 (0, 0) HA.out
  refine bodyPost_ret (v := .agg C) ?_ rfl ⟨rfl, below_setRow HB4.out (Nat.le_refl _) C⟩
  exact results_cell_row Tryd.results25 _ _ w.heap.size _ C (0, 0) _ rfl hA2 Tryd.underlying26 rfl H1.out
end Go.Proofs.YtppkjlmnnpfcfaaDoor
