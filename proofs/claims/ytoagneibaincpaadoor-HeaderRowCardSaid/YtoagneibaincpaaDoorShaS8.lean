/- The document's digest: 'Of'. -/
import Derived.Test.YtoagneibaincpaaDoorShaS7
namespace Go.Proofs.YtoagneibaincpaaDoor
open Go.RowKit
set_option maxRecDepth 100000 in
theorem k64_len : K64.length = 64 := rfl
set_option maxRecDepth 100000 in
theorem add_row (g j : Nat) : (⟨g, 0, none⟩ : Addr).add j = ⟨g, j, none⟩ := by unfold Addr.add; by_cases hj : j = 0 <;> simp [hj]
set_option maxRecDepth 100000 in
set_option maxHeartbeats 1000000 in
theorem of_any (A : Option Addr) (c : Nat) (b : List B8) (w : World)
    (hb : Bts w A b) (hA : A = none → c = 0) (hc : b.length ≤ c) (hlen : b.length ≤ 1099511627000) :
    Calls Tryd.prog 28 #[.slice A b.length c] w fun e w' => e = .returned (.agg ((dig b).map bv).toArray) ∧ Below w.heap.size w w' := by
  have Hb := Lib.hid hb
  have HA := Lib.hid hA
  have HC := Lib.hid hc
  have HL := Lib.hid hlen
  clear hb hA hc hlen
  have F1 := Lib.hid (fun w => first_any w)
  have F2 := Lib.hid (fun w => rounds_any w)
  obtain ⟨XH, hXH⟩ : ∃ X, X = (H8.list.map wv).toArray := ⟨_, rfl⟩
  obtain ⟨XK, hXK⟩ : ∃ X, X = (K64.map wv).toArray := ⟨_, rfl⟩
  rw [← hXH] at F1
  rw [← hXK] at F2
  have HXH := Lib.hid hXH
  have HXK := Lib.hid hXK
  clear hXH hXK
  go_enter Tryd.func28, Tryd.ntmps28
  go_wp2_with (first
    | (go_at_call 49; refine (F1.out _).mono ?_; rintro e w1 ⟨rfl, rfl⟩)
    | (go_at_call 50; refine (F2.out _).mono ?_; rintro e w2 ⟨rfl, rfl⟩)
    | (go_at_call 48; refine stop ?_))
  unfold Stop
  generalize hO0 : Obj.cells _ _ _ = O0
  have hO1 : ∃ Z, O0 = .cells Z 23 (0, 0) ∧ 32 = Z.size := ⟨_, hO0.symm, rfl⟩
  clear hO0
  have e1 : (w.alloc O0).heap.size = w.heap.size + 1 := by simp
  have e2 : ((w.alloc O0).alloc (.cells XH 83)).heap.size = w.heap.size + 1 + 1 := by simp
  obtain ⟨w0, hw0⟩ : ∃ z, z = w.alloc O0 := ⟨_, rfl⟩
  rw [← hw0] at e1 e2 ⊢
  obtain ⟨wx, hwx⟩ : ∃ z, z = w0.alloc (.cells XH 83) := ⟨_, rfl⟩
  rw [← hwx] at e2 ⊢
  have hb0 : Below w.heap.size w w0 := by rw [hw0]; exact (Below.refl _ _).alloc (Nat.le_refl _) _
  have hbx : Below w0.heap.size w0 wx := by rw [hwx]; exact (Below.refl _ _).alloc (Nat.le_refl _) _
  have hb3 : Below wx.heap.size wx (wx.alloc (.cells XK 83)) := (Below.refl _ _).alloc (Nat.le_refl _) _
  have hball : Below w.heap.size w (wx.alloc (.cells XK 83)) := hb0.trans ((hbx.mono (by omega)).trans (hb3.mono (by omega)))
  have hWd : Wds (wx.alloc (.cells XK 83)) (some ⟨w.heap.size + 1, 0, none⟩) H8.list := by
    refine Wds.below ?_ hb3
    rw [hwx, HXH.out, ← e1]; exact wds_new _ _ _
  have hKd : ∀ i, i < 64 → (wx.alloc (.cells XK 83)).cell? ⟨w.heap.size + 1 + 1, i, none⟩ = some (.int .u32 ((K64.getD i 0).toNat : Int)) := fun i hi => by
    obtain ⟨ad, ea, hc⟩ := wds_new wx K64 83 i (wv (K64.getD i 0)) (by rw [List.getElem?_map, List.getD_eq_getElem?_getD, List.getElem?_eq_getElem (by rw [k64_len]; exact hi)]; rfl)
    injection ea with ea
    rw [← ea, add_row, e2] at hc
    rw [HXK.out]; exact hc
  refine (rsum_any A c b (some ⟨w.heap.size + 1, 0, none⟩) 8 H8 (w.heap.size + 1 + 1) 64 K64 _ (Hb.out.below hball) HA.out HC.out hWd hKd HL.out).mono ?_
  rintro e w4 ⟨rfl, hb4⟩
  obtain ⟨Z, hZ, hZs⟩ := hO1
  have hZ4 : w4.heap[w.heap.size]? = some (.cells Z 23 (0, 0)) := by
    rw [hb4.block _ (by simp; omega), hb3.block _ (by omega), hbx.block _ (by omega), hw0, heap_alloc_new, hZ]
  have hball4 := Lib.hid (hball.trans (hb4.mono (by simp; omega)))
  obtain ⟨C, hC⟩ : ∃ C, C = ((dig b).map bv).toArray := ⟨_, rfl⟩
  have hC0 : ((digK K64 H8 b).map bv).toArray = C := hC.symm
  rw [hC0]
  have hC32 : C.size = 32 := by rw [hC, List.size_toArray, List.length_map, dig_len]
  have h1 := Lib.hid (show (Tryd.prog.info? 23).map (·.size) = some C.size by rw [hC32]; kernel_rfl)
  have h2 := Lib.hid (show Z.size = C.size by rw [hC32, ← hZs])
  have h3 := Lib.hid (show C.all (·.oneCell') = true by rw [hC]; exact bvs_one _)
  have HCC := Lib.hid hC
  have HA9 := Lib.hid hZ4
  clear e1 e2 hw0 hwx hb0 hbx hb3 hball hWd hKd hb4 hZ hZs hZ4 hC hC0 hC32
  go_wp2_with (refine wpList_store_row rfl _ _ _ rfl w.heap.size C rfl rfl _ Z HA9.out h1.out h2.out h3.out ?_)
  have hA2 := setRow_heap w4 w.heap.size Z C 23 (0, 0) HA9.out
  refine bodyPost_ret (v := .agg C) ?_ rfl ⟨by rw [HCC.out], below_setRow hball4.out (Nat.le_refl _) C⟩
  exact results_cell_row Tryd.results28 _ _ w.heap.size _ C (0, 0) _ rfl hA2 Tryd.underlying23 rfl h1.out
end Go.Proofs.YtoagneibaincpaaDoor
