/- 'awake': its contract. -/
import Derived.Test.YtomflniknnenaaaEnG
import Derived.Lib.AppendZerosOnto
set_option linter.unusedVariables false
set_option linter.unusedSimpArgs false
namespace Go.Proofs.Ytomflniknnenaaa
open Go.RowKit
attribute [local go_sem ↓] loadAt_en loadAt_id
attribute [local go_sem] run_enLoad run_idLoad rowOf_drew rowOf_drewN
set_option maxRecDepth 100000 in
theorem read_zeros : readE (zeros 37) = 3 := by decide +kernel
set_option maxRecDepth 100000 in
theorem append_37 (w : World) (b : Nat) (h : w.heap[b]? = some (.cells #[.int .u8 0, .int .u8 0] 5 (0, 0))) :
    ∃ w' c, (Builtin.append_ #[27, 3] 27 #[.slice (some ⟨b, 0, none⟩) 2 2, .int .i64 35]).run Try.prog w = .ok (.slice (some ⟨w.heap.size, 0, none⟩) 37 c) w' ∧ 37 ≤ c ∧ Sl w' w'.heap.size (some ⟨w.heap.size, 0, none⟩) ((zeros 37).map bv) ∧ Turn (fun _ => False) w w' := by
  obtain ⟨i0, hi, hz0, hz1, hz2⟩ := info_parts info_u8
  have hold : (Builtin.firstCells i0.size 2 (.slice (some ⟨b, 0, none⟩) 2 2)).run Try.prog w.drew = .ok ([Value.int .u8 0, .int .u8 0] : List Value).toArray w.drew :=
    run_firstCells_some (P := Try.prog) w.drew i0.size 2 ⟨b, 0, none⟩ 2 2 _ (by rw [hz1]; rfl) (fun j v hj => by
      rw [show (⟨b, 0, none⟩ : Addr).add j = ⟨b, j, none⟩ by unfold Addr.add; by_cases hj : j = 0 <;> simp [hj]]
      rw [cell_of_row w.drew b j _ _ _ h, ← hj, List.getElem?_toArray])
  have hr := Lib.run_append_grow_zeros (P := Try.prog) w 27 3 27 5 i0 (.int .u8 0) .i64 .i64 Try.underlying27 Try.underlying3 hi hz0 (some ⟨b, 0, none⟩) 2 2 _ hold 35 (by omega) (by omega) (by omega) (by omega) (by omega) (by rw [hz2]; decide)
  have e : (([Value.int .u8 0, .int .u8 0] : List Value).toArray ++ Builtin.zeroCells (Value.int .u8 0).cells 35) = ((zeros 37).map bv).toArray := by kernel_rfl
  rw [e] at hr
  refine ⟨_, _, hr, grownCap_ge _ _ _ _, ?_, ?_⟩
  · intro j u hu
    have hj := (List.getElem?_eq_some_iff.1 hu).1
    refine ⟨_, rfl, by simp [Addr.add], ?_⟩
    rw [show (⟨w.heap.size, 0, none⟩ : Addr).add j = ⟨w.heap.size, j, none⟩ by unfold Addr.add; by_cases hj : j = 0 <;> simp [hj]]
    change (w.drew.alloc _).cell? ⟨w.drew.heap.size, j, none⟩ = some u
    rw [cell_of_row _ _ j _ _ _ (heap_alloc_new w.drew _), Array.getElem?_append_left (by simpa using hj), List.getElem?_toArray]
    exact hu
  · exact (Turn.refl _ _).drew.alloc _
def e2K : Ent := ⟨2, 0, zeros 32, 0, 0, 0⟩
def e3K : Ent := ⟨3, 0, zeros 32, 0, 0, 0⟩
set_option maxRecDepth 100000 in
set_option maxHeartbeats 4000000 in
theorem awake_any (w : World) : Calls Try.prog 10 #[] w fun r w' => r = .returned (.bool true) ∧ Turn (fun _ => False) w w' := by
  obtain ⟨wb, hwb⟩ : ∃ wb, wb = w.alloc (.cells #[.int .u8 0, .int .u8 0] 5) := ⟨_, rfl⟩
  have tb : Turn (fun _ => False) w wb := by rw [hwb]; exact (Turn.refl _ _).alloc _
  obtain ⟨w1, c, hap, hc, hs, t1⟩ := append_37 wb w.heap.size (by rw [hwb]; exact heap_alloc_new _ _)
  have TB := Lib.hid (tb.trans t1 (fun _ _ h => h))
  have TR := Lib.hid (read_any' (some ⟨wb.heap.size, 0, none⟩) c (zeros 37) w1 hs (fun h => by cases h) (by simpa [zeros] using hc) (by simp [zeros]))
  rw [show readV (zeros 37) = EZ by unfold readV; rw [if_pos (by rw [read_zeros]; decide)], read_zeros, show (zeros 37).length = 37 from rfl, EZ_eq] at TR
  obtain ⟨CZ, hCZ⟩ : ∃ CZ, CZ = Z37E := ⟨_, rfl⟩
  rw [← hCZ] at TR
  have sZ : CZ.size = 37 := by rw [hCZ]; rfl
  have K1 := Lib.hid (show (Try.prog.info? 26).map (·.size) = some CZ.size by rw [sZ]; exact en_info)
  have K2 := Lib.hid (show Z37E.size = CZ.size by rw [sZ]; rfl)
  have K3 := Lib.hid (show CZ.all (·.oneCell') = true by rw [hCZ, ← EZ_eq]; exact Ent.one _)
  have hzd := en_zero
  have D2 := Lib.hid (fun w => decides_any e2K w rfl)
  have D3 := Lib.hid (fun w => decides_any e3K w rfl)
  rw [show decide (okB e2K ∧ e2K.k < 3) = true by decide +kernel] at D2
  rw [show decide (okB e3K ∧ e3K.k < 3) = false by decide +kernel] at D3
  have HAP := Lib.hid hap
  have hwb' := Lib.hid hwb
  clear tb t1 hs hc hap hwb hCZ sZ
  go_enter Try.func10, Try.ntmps10
  go_wp2_with (at_builtin; refine stop ?_)
  unfold Stop
  change wpList _ _ _ _ _ (w.alloc (.cells #[.int .u8 0, .int .u8 0] 5))
  rw [← hwb'.out]
  refine Lib.wpList_append_run _ rfl _ _ _ _ rfl _ _ rfl rfl _ _ HAP.out ?_
  go_wp2_with fail
  refine TR.out.mono ?_
  rintro r w2 ⟨rfl, t2⟩
  have T2 := Lib.hid (TB.out.trans t2 (fun _ _ h => h))
  have HA := Lib.hid (show (w2.alloc (.cells Z37E 26)).heap[w2.heap.size]? = some (.cells Z37E 26 (0, 0)) from heap_alloc_new _ _)
  have T3 := Lib.hid (show Turn (fun _ => False) w ((w2.alloc (.cells Z37E 26)).setRow w2.heap.size CZ) from T2.out.trans (((Turn.refl (fun _ => False) w2).alloc _).setRow _ _ (fun h => by omega)) (fun _ _ h => h))
  clear t2 TR
  go_upto_region 2 with (refine wpList_store_row rfl _ _ _ rfl w2.heap.size CZ rfl rfl 26 Z37E HA.out K1.out K2.out K3.out ?_)
  obtain ⟨w3, hw3⟩ : ∃ w3, w3 = (w2.alloc (.cells Z37E 26)).setRow w2.heap.size CZ := ⟨_, rfl⟩
  change Code.wp _ _ _ _ ((w2.alloc (.cells Z37E 26)).setRow w2.heap.size CZ)
  rw [← hw3] at T3 ⊢
  clear hw3
  go_wp2_with (go_at_call 9; refine stop ?_)
  unfold Stop
  refine (D2.out w3).mono ?_
  rintro r w4 ⟨rfl, t4⟩
  have T4 := Lib.hid (T3.trans t4 (fun _ _ h => h))
  clear t4 T3
  go_wp2_with (go_at_call 9; refine stop ?_)
  unfold Stop
  refine (D3.out w4).mono ?_
  rintro r w5 ⟨rfl, t5⟩
  have T5 := Lib.hid (T4.out.trans t5 (fun _ _ h => h))
  clear t5
  go_wp2
  go_ret
  exact ⟨rfl, T5.out⟩
end Go.Proofs.Ytomflniknnenaaa
