/- A ring of keys: the contract of 'Is'. -/
import Derived.Test.YtnhakcmnpmlopaaDoorTgG
set_option linter.unusedVariables false
namespace Go.Proofs.YtnhakcmnpmlopaaDoor
open Go.RowKit
attribute [local go_sem ↓] loadAt_id
attribute [local go_sem] rowOf_drew rowOf_drewN run_idLoad
theorem rowOf_id {w : World} {g : Nat} {d : List B8} {t : TypeId} {fr : Nat × Nat} (hd : d.length = 32) (h : w.heap[g]? = some (.cells (d.map bv).toArray t fr)) : rowOf w g 0 32 = some (d.map bv).toArray := by
  rw [rowOf_block h 0 32 (by simp [hd])]
  simp [List.take_of_length_le, hd]
theorem signD_len (seed : List B8) (k : Nat) (b : List B8) : (signD seed k b).length = 32 := tagD_len _ _
set_option maxRecDepth 100000 in
set_option maxHeartbeats 2000000 in
theorem ringIs_none (gr gk n : Nat) (z : Int) (seed : List B8) (X Y : Value) (d : List B8) (w : World) (hR : RingAt w gr gk seed n) (hz : ¬ (0 ≤ z ∧ z < n)) (hd : d.length = 32) :
    Calls Tryd.prog 14 #[ringV gr, .int .i64 z, X, .agg (d.map bv).toArray] w fun e w' => e = .returned (.bool false) ∧ Below w.heap.size w w' := by
  obtain ⟨DA, hDA⟩ : ∃ DA, DA = (d.map bv).toArray := ⟨_, rfl⟩
  rw [← hDA]
  obtain ⟨w1, hw1⟩ : ∃ w1, w1 = w.alloc (.cells DA 24) := ⟨_, rfl⟩
  have hb1 : Below w.heap.size w w1 := by rw [hw1]; exact (Below.refl _ _).alloc (Nat.le_refl _) _
  have HB1 := Lib.hid hb1
  have S := Lib.hid (sign_none gr gk n z seed X w1 (hR.below hb1) hz)
  have H1 := Lib.hid info_z
  have H3 := Lib.hid (show ZId.all (·.oneCell') = true by kernel_rfl)
  rw [signV_none] at S
  clear hDA hd hb1 hR hz
  go_enter Tryd.func14, Tryd.ntmps14
  go_upto_region 1 with fail
  change Code.wp _ _ _ _ (w.alloc (.cells DA 24))
  rw [← hw1]
  clear hw1
  go_wp2_with (go_at_call 12; refine stop ?_)
  unfold Stop
  refine S.out.mono ?_
  rintro e w2 ⟨rfl, hb2⟩
  have HZ := Lib.hid (show (w2.alloc (.cells ZId 24)).heap[w2.heap.size]? = some (.cells ZId 24 (0, 0)) from heap_alloc_new _ _)
  have hba : Below w2.heap.size w2 (w2.alloc (.cells ZId 24)) := (Below.refl _ _).alloc (Nat.le_refl _) _
  have HB2 := Lib.hid (HB1.out.trans ((below_setRow (hb2.trans (hba.mono hb2.size)) hb2.size ZId).mono HB1.out.size))
  clear hb2 hba
  go_wp2_with (refine wpList_store_row rfl _ _ _ rfl w2.heap.size ZId rfl rfl _ ZId HZ.out H1.out rfl H3.out ?_)
  go_ret
  exact ⟨rfl, HB2.out⟩
set_option maxRecDepth 100000 in
set_option maxHeartbeats 2000000 in
theorem ringIs_some (gr gk n k : Nat) (seed b d : List B8) (A' : Option Addr) (c' : Nat) (w : World) (hR : RingAt w gr gk seed n) (hkn : k < n) (hn : n ≤ 64) (hB : Bts w A' b) (hc' : b.length ≤ c') (hG : Glob w) (hb : b.length ≤ 1000000) (hd : d.length = 32) :
    Calls Tryd.prog 14 #[ringV gr, .int .i64 k, .slice A' b.length c', .agg (d.map bv).toArray] w fun e w' => e = .returned (.bool (decide (signD seed k b = d))) ∧ Below w.heap.size w w' := by
  obtain ⟨DA, hDA⟩ : ∃ DA, DA = (d.map bv).toArray := ⟨_, rfl⟩
  obtain ⟨C, hC⟩ : ∃ C, C = ((signD seed k b).map bv).toArray := ⟨_, rfl⟩
  obtain ⟨r, hr⟩ : ∃ r, r = decide (signD seed k b = d) := ⟨_, rfl⟩
  have hC32 : C.size = 32 := by rw [hC]; simp [signD_len]
  have H3 := Lib.hid (show C.all (·.oneCell') = true by rw [hC]; exact bvs_one _)
  have H1 := Lib.hid (show (Tryd.prog.info? 24).map (·.size) = some C.size by rw [hC32]; kernel_rfl)
  have H2 := Lib.hid (show ZId.size = C.size by rw [hC32]; rfl)
  have SM := Lib.hid (fun w => same_any (signD seed k b) d w (signD_len _ _ _) hd)
  rw [← hC, ← hDA, ← hr] at SM
  rw [← hDA, ← hr]
  obtain ⟨w1, hw1⟩ : ∃ w1, w1 = w.alloc (.cells DA 24) := ⟨_, rfl⟩
  have hb1 : Below w.heap.size w w1 := by rw [hw1]; exact (Below.refl _ _).alloc (Nat.le_refl _) _
  have HB1 := Lib.hid hb1
  have HR1 := Lib.hid (show w1.heap[w.heap.size]? = some (.cells (d.map bv).toArray 24 (0, 0)) by rw [hw1, hDA]; exact heap_alloc_new _ _)
  have S := Lib.hid (sign_some gr gk n k seed b A' c' w1 (hR.below hb1) hkn hn (hB.below hb1) hc' (glob_below hG hb1 (Nat.le_refl _)) hb)
  rw [show signV (some (signD seed k b)) = .tuple #[.agg C, .bool true] by rw [hC]; rfl] at S
  have HC := Lib.hid hC
  have HD := Lib.hid hDA
  have Hd := Lib.hid hd
  clear hDA hC hC32 hr hd hb1 hR hB hG
  go_enter Tryd.func14, Tryd.ntmps14
  go_upto_region 1 with fail
  change Code.wp _ _ _ _ (w.alloc (.cells DA 24))
  rw [← hw1]
  clear hw1
  go_wp2_with (go_at_call 12; refine stop ?_)
  unfold Stop
  refine S.out.mono ?_
  rintro e w2 ⟨rfl, hb2⟩
  have HZ := Lib.hid (show (w2.alloc (.cells ZId 24)).heap[w2.heap.size]? = some (.cells ZId 24 (0, 0)) from heap_alloc_new _ _)
  have hba : Below w2.heap.size w2 (w2.alloc (.cells ZId 24)) := (Below.refl _ _).alloc (Nat.le_refl _) _
  have HB12 := Lib.hid (below_setRow (hb2.trans (hba.mono hb2.size)) hb2.size C)
  clear hb2 hba
  go_wp2_with (refine wpList_store_row rfl _ _ _ rfl w2.heap.size C rfl rfl _ ZId HZ.out H1.out H2.out H3.out ?_; refine stop ?_)
  unfold Stop
  obtain ⟨w3, hw3⟩ : ∃ w3, w3 = (w2.alloc (.cells ZId 24)).setRow w2.heap.size C := ⟨_, rfl⟩
  change wpList _ _ _ _ _ ((w2.alloc (.cells ZId 24)).setRow w2.heap.size C)
  rw [← hw3] at HB12 ⊢
  have r1 : rowOf w3 w2.heap.size 0 32 = some C := by
    rw [HC.out]
    refine rowOf_id (t := 24) (fr := (0, 0)) (signD_len _ _ _) ?_
    rw [hw3, ← HC.out]; exact setRow_heap _ w2.heap.size ZId C _ _ HZ.out
  have r2 : rowOf w3 w.heap.size 0 32 = some DA := by
    rw [HD.out]
    exact rowOf_id Hd.out (heap_below HB12.out HR1.out)
  have HB3 := Lib.hid (HB1.out.trans (HB12.out.mono HB1.out.size))
  clear hw3 HZ
  go_wp2_with (go_at_call 21; refine (SM.out _).mono ?_; rintro e w4 ⟨rfl, hb4⟩; have HB4 := Lib.hid (HB3.out.trans (hb4.mono HB3.out.size)); clear hb4)
  go_ret
  exact ⟨rfl, HB4.out⟩
end Go.Proofs.YtnhakcmnpmlopaaDoor
