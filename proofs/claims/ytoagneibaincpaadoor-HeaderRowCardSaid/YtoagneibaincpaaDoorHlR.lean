/- 'HeaderReads': its walk, over what 'awake' comes to. -/
import Derived.Test.YtoagneibaincpaaDoorHlF
set_option linter.unusedVariables false
set_option linter.unusedSimpArgs false
namespace Go.Proofs.YtoagneibaincpaaDoor
open Go.RowKit
attribute [local go_sem ↓] loadAt_hd loadAt_id
attribute [local go_sem] run_hdLoad run_idLoad rowOf_drew rowOf_drewN
set_option maxRecDepth 100000 in
set_option maxHeartbeats 4000000 in
theorem headerReads_of (AW : ∀ w, Glob w → Calls Tryd.prog 13 #[] w fun r w' => r = .returned (.bool true) ∧ Turn (fun _ => False) w w') (A : Option Addr) (c : Nat) (b : List B8) (w : World) (hs : Sl w w.heap.size A (b.map bv)) (hA : A = none → c = 0) (hc : b.length ≤ c) (hm : b.length ≤ maxLen) (hG : Glob w) :
    Calls Tryd.prog 4 #[.slice A b.length c] w fun e w' => e = .returned (.bool true) ∧ Turn (fun _ => False) w w' := by
  have AW := Lib.hid AW
  have GL := Lib.hid (fun (w' : World) (t : Turn (fun _ => False) w w') => show Glob w' from glob_turn hG t)
  by_cases h1 : 100 < b.length
  · have t0 : decide (100 < (b.length : Int)) = true := by rw [decide_eq_true_eq]; omega
    go_enter Tryd.func4, Tryd.ntmps4
    go_wp2_with (go_at_call 13; refine (AW.out w hG).mono ?_; rintro r w9 ⟨rfl, t9⟩)
    go_ret
    exact ⟨rfl, t9⟩
  have t0 : decide (100 < (b.length : Int)) = false := by rw [decide_eq_false_iff_not]; omega
  have T1 := Lib.hid (hread_any A c b w hs hA hc (by omega))
  have T2 := Lib.hid (fun w' (k : Turn (fun _ => False) w w') => hrread_any A c b w' ((k.sl hs (fun _ _ h => h)).more k.size) hA hc (by omega))
  have hQ := fun w => eql_in_hdr (hreadV b) (hreadV b) (hreadV_L b) (hreadV_L b) w
  rw [show decide (hreadV b = hreadV b) = true from decide_eq_true rfl] at hQ
  obtain ⟨C, hC⟩ : ∃ C, C = (hreadV b).cells.toArray := ⟨_, rfl⟩
  obtain ⟨E, hE⟩ : ∃ E, E = hreadE b := ⟨_, rfl⟩
  rw [← hC] at hQ
  rw [← hC, ← hE] at T1
  simp only [← hC, ← hE] at T2
  have sC : C.size = 67 := by rw [hC, List.size_toArray, Hdr.len _ (hreadV_L b)]
  have K1 := Lib.hid (show (Tryd.prog.info? 25).map (·.size) = some C.size by rw [sC]; exact hd_info)
  have K2 := Lib.hid (show Z67H.size = C.size by rw [sC]; rfl)
  have K3 := Lib.hid (show C.all (·.oneCell') = true by rw [hC]; exact Hdr.one _)
  have HSC := Lib.hid sC
  have hzd := hd_zero
  obtain ⟨bl, hbl⟩ : ∃ bl, bl = b.length := ⟨_, rfl⟩
  rw [← hbl] at T1 T2 t0 ⊢
  clear hs hA hc hm h1 hC hE sC hbl hG
  go_enter Tryd.func4, Tryd.ntmps4
  go_wp2_with fail
  refine T1.out.mono ?_
  rintro r w1 ⟨rfl, t1⟩
  have HA := Lib.hid (show (w1.alloc (.cells Z67H 25)).heap[w1.heap.size]? = some (.cells Z67H 25 (0, 0)) from heap_alloc_new _ _)
  have HT1 := Lib.hid t1
  clear t1 T1
  go_upto_region 4 with (refine wpList_store_row rfl _ _ _ rfl w1.heap.size C rfl rfl 25 Z67H HA.out K1.out K2.out K3.out ?_)
  obtain ⟨w2, hw2⟩ : ∃ w2, w2 = (w1.alloc (.cells Z67H 25)).setRow w1.heap.size C := ⟨_, rfl⟩
  have HT2 := Lib.hid (show Turn (fun _ => False) w w2 by rw [hw2]; exact HT1.out.trans (((Turn.refl (fun _ => False) w1).alloc _).setRow _ _ (fun h => by omega)) (fun _ _ h => h))
  have R2 := Lib.hid (show w2.heap[w1.heap.size]? = some (.cells C 25 (0, 0)) by rw [hw2]; exact setRow_heap _ _ _ _ _ _ HA.out)
  change Code.wp _ _ _ _ ((w1.alloc (.cells Z67H 25)).setRow w1.heap.size C)
  rw [← hw2]
  clear hw2 HA HT1
  generalize w1.heap.size = p1 at *
  go_wp2_with fail
  refine (T2.out w2 HT2.out).mono ?_
  rintro r w3 ⟨rfl, t3⟩
  have HA := Lib.hid (show (w3.alloc (.cells Z67H 25)).heap[w3.heap.size]? = some (.cells Z67H 25 (0, 0)) from heap_alloc_new _ _)
  have HT3 := Lib.hid t3
  clear t3
  go_upto_region 5 with (refine wpList_store_row rfl _ _ _ rfl w3.heap.size C rfl rfl 25 Z67H HA.out K1.out K2.out K3.out ?_)
  obtain ⟨w4, hw4⟩ : ∃ w4, w4 = (w3.alloc (.cells Z67H 25)).setRow w3.heap.size C := ⟨_, rfl⟩
  have t24 : Turn (fun _ => False) w2 w4 := by rw [hw4]; exact HT3.out.trans (((Turn.refl (fun _ => False) w3).alloc _).setRow _ _ (fun h => by omega)) (fun _ _ h => h)
  have r4 : w4.heap[w3.heap.size]? = some (.cells C 25 (0, 0)) := by rw [hw4]; exact setRow_heap _ _ _ _ _ _ HA.out
  have q1 := row67_at R2.out HSC.out t24
  have q2 := row67_at r4 HSC.out (Turn.refl _ _)
  have HT4 := Lib.hid (HT2.out.trans t24 (fun _ _ h => h))
  change Code.wp _ _ _ _ ((w3.alloc (.cells Z67H 25)).setRow w3.heap.size C)
  rw [← hw4]
  clear hw4 HA HT3 t24 r4 R2
  go_wp2_with (go_at_call 13; refine stop ?_)
  unfold Stop
  refine (AW.out w4 (GL.out w4 HT4.out)).mono ?_
  rintro r w5 ⟨rfl, t5⟩
  have HT5 := Lib.hid (HT4.out.trans t5 (fun _ _ h => h))
  clear t5 q1 q2
  go_wp2
  go_ret
  exact ⟨rfl, HT5.out⟩
end Go.Proofs.YtoagneibaincpaaDoor
