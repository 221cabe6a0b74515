/- The document's 'Sign'; the code's 'Is'. -/
import Derived.Test.YtnhakcmnpmlopaaDoorTgE
import Derived.Laws.ResultCell
set_option linter.unusedVariables false
namespace Go.Proofs.YtnhakcmnpmlopaaDoor
open Go.RowKit
def keyD (seed : List B8) (k : Nat) : List B8 := tagD seed [BitVec.ofNat 8 k]
def signD (seed : List B8) (k : Nat) (b : List B8) : List B8 := tagD (keyD seed k) b
theorem keyD_len (seed : List B8) (k : Nat) : (keyD seed k).length = 32 := tagD_len _ _
theorem byte_nat (k : Nat) (h : k < 256) : bv (BitVec.ofNat 8 k) = .int .u8 (k : Int) := by
  unfold bv; rw [BitVec.toNat_ofNat, Nat.mod_eq_of_lt (by simpa using h)]
theorem bts_one (w : World) (x : B8) (v : Value) (hv : v = bv x) (t : TypeId) : Bts (w.alloc (.cells #[v] t)) (some ⟨w.heap.size, 0, none⟩) [x] := by
  subst hv
  exact bts_row (xs := [x]) (heap_alloc_new w _)
theorem tagOf_at (A A' : Option Addr) (c c' n n' : Nat) (key b : List B8) (hn : key.length = n) (hn' : b.length = n') (w : World) (hK : Bts w A key) (hc : n ≤ c) (hB : Bts w A' b) (hc' : n' ≤ c') (hG : Glob w) (hk : n ≤ 1000000) (hb : n' ≤ 1000000) :
    Calls Tryd.prog 9 #[.slice A n c, .slice A' n' c'] w fun e w' => e = .returned (.agg ((tagD key b).map bv).toArray) ∧ Below w.heap.size w w' := by
  subst hn hn'; exact tagOf_any A A' c c' key b w hK hc hB hc' hG hk hb
theorem rtag_at (A A' : Option Addr) (c c' n n' : Nat) (key b : List B8) (hn : key.length = n) (hn' : b.length = n') (w : World) (hK : Bts w A key) (hA0 : A = none → c = 0) (hc : n ≤ c) (hB : Bts w A' b) (hA' : A' = none → c' = 0) (hc' : n' ≤ c') (hk : n ≤ 1000000) (hb : n' ≤ 1000000) :
    Calls Tryd.prog 8 #[.slice A n c, .slice A' n' c'] w fun e w' => e = .returned (.agg ((tagD key b).map bv).toArray) ∧ Below w.heap.size w w' := by
  subst hn hn'; exact rtag_any A A' c c' key b w hK hA0 hc hB hA' hc' hk hb
set_option maxRecDepth 100000 in
set_option maxHeartbeats 2000000 in
theorem rsign_any (A A' : Option Addr) (c c' k : Nat) (seed b : List B8) (w : World) (hK : Bts w A seed) (hA0 : A = none → c = 0) (hc : seed.length ≤ c) (hB : Bts w A' b) (hA' : A' = none → c' = 0) (hc' : b.length ≤ c') (hk : seed.length ≤ 1000000) (hb : b.length ≤ 1000000) (hk64 : k < 64) :
    Calls Tryd.prog 15 #[.slice A seed.length c, .int .i64 k, .slice A' b.length c'] w fun e w' => e = .returned (.agg ((signD seed k b).map bv).toArray) ∧ Below w.heap.size w w' := by
  obtain ⟨C, hC⟩ : ∃ C, C = ((signD seed k b).map bv).toArray := ⟨_, rfl⟩
  have hC32 : C.size = 32 := by rw [hC]; simp [signD, tagD_len]
  have H3 := Lib.hid (show C.all (·.oneCell') = true by rw [hC]; exact bvs_one _)
  have H1 := Lib.hid (show (Tryd.prog.info? 24).map (·.size) = some C.size by rw [hC32]; kernel_rfl)
  have H2 := Lib.hid (show ZId.size = C.size by rw [hC32]; rfl)
  obtain ⟨KL, hKL⟩ : ∃ KL, KL = keyD seed k := ⟨_, rfl⟩
  have HK32 := Lib.hid (show KL.length = 32 by rw [hKL]; exact keyD_len _ _)
  obtain ⟨KA, hKA⟩ : ∃ KA, KA = (KL.map bv).toArray := ⟨_, rfl⟩
  have T1 := Lib.hid (fun g (w : World) hK hB => rtag_at A (some ⟨g, 0, none⟩) c 1 seed.length 1 seed [BitVec.ofNat 8 k] rfl rfl w hK hA0 hc hB (fun h => by cases h) (by omega) (by omega) (by omega))
  have R1 := Lib.hid (fun w => rbytesId_any KL w HK32.out)
  have T2 := Lib.hid (fun g cap n (hn : KL.length = n) (w : World) (hK : Bts w (some ⟨g, 0, none⟩) KL) (hcap : n ≤ cap) hB => rtag_at (some ⟨g, 0, none⟩) A' cap c' n b.length KL b hn rfl w hK (fun h => by cases h) hcap hB hA' hc' (by rw [← hn, HK32.out]; omega) (by omega))
  rw [show tagD seed [BitVec.ofNat 8 k] = KL from hKL.symm, ← hKA] at T1
  rw [← hKA] at R1
  rw [show tagD KL b = signD seed k b by rw [hKL]; rfl, ← hC] at T2
  rw [← hC]
  obtain ⟨w1, hw1⟩ : ∃ w1, w1 = w.alloc (.cells ZId 24) := ⟨_, rfl⟩
  have hb1 : Below w.heap.size w w1 := by rw [hw1]; exact (Below.refl _ _).alloc (Nat.le_refl _) _
  have HB1 := Lib.hid hb1
  have HZ1 := Lib.hid (show w1.heap[w.heap.size]? = some (.cells ZId 24 (0, 0)) by rw [hw1]; exact heap_alloc_new _ _)
  have HK1 := Lib.hid (hK.below hb1)
  have HX1 := Lib.hid (hB.below hb1)
  have hkk : (k : Int) % 256 = (k : Int) := by omega
  have HBy := Lib.hid (byte_nat k (by omega))
  clear hC hC32 hKL hKA hb1 hK hB hA0 hA'
  go_enter Tryd.func15, Tryd.ntmps15
  go_upto_region 1 with fail
  change Code.wp _ _ _ _ (w.alloc (.cells ZId 24))
  rw [← hw1]
  clear hw1
  go_wp2_with (go_at_call 8; refine stop ?_)
  unfold Stop
  obtain ⟨w2, hw2⟩ : ∃ w2, w2 = w1.alloc (.cells #[.int .u8 (k : Int)] 5) := ⟨_, rfl⟩
  have hb2 : Below w1.heap.size w1 w2 := by rw [hw2]; exact (Below.refl _ _).alloc (Nat.le_refl _) _
  have hx2 : Bts w2 (some ⟨w1.heap.size, 0, none⟩) [BitVec.ofNat 8 k] := by rw [hw2]; exact bts_one w1 _ _ HBy.out.symm _
  rw [← hw2]
  clear hw2
  refine (T1.out _ w2 (HK1.out.below hb2) hx2).mono ?_
  rintro e w3 ⟨rfl, hb3⟩
  have HB3 := Lib.hid (hb2.trans (hb3.mono hb2.size))
  clear hb2 hx2 hb3
  go_wp2_with (go_at_call 16; refine stop ?_)
  unfold Stop
  refine (R1.out w3).mono ?_
  rintro e w4 ⟨v4, rfl, ho4, hb4⟩
  obtain ⟨g4, cap4, m4, rfl, hm4, hcap4, hB4, hlt4, hbt4⟩ := own_open ho4 (by omega)
  have hb14 : Below w1.heap.size w1 w4 := HB3.out.trans (hb4.mono HB3.out.size)
  have HX4 := Lib.hid (HX1.out.below hb14)
  have HZ4 := Lib.hid (heap_below hb14 HZ1.out)
  have HB4' := Lib.hid (HB1.out.trans (hb14.mono HB1.out.size))
  have HM4 := Lib.hid (show KL.length = m4 by rw [HK32.out, hm4])
  have HC4 := Lib.hid (show m4 ≤ cap4 by rw [hm4]; exact hcap4)
  have HBt4 := Lib.hid hbt4
  clear ho4 hb4 hm4 hcap4 hB4 hlt4 hbt4 hb14
  go_wp2_with (go_at_call 8; refine stop ?_)
  unfold Stop
  refine (T2.out g4 cap4 m4 HM4.out w4 HBt4.out HC4.out HX4.out).mono ?_
  rintro e w9 ⟨rfl, hb9⟩
  have HA := Lib.hid (heap_below hb9 HZ4.out)
  have HB9 := Lib.hid (HB4'.out.trans (hb9.mono HB4'.out.size))
  clear hb9
  go_wp2_with (refine wpList_store_row rfl _ _ _ rfl w.heap.size C rfl rfl _ ZId HA.out H1.out H2.out H3.out ?_)
  have hA2 := setRow_heap w9 w.heap.size ZId C 24 (0, 0) HA.out
  refine bodyPost_ret (v := .agg C) ?_ rfl ⟨rfl, below_setRow HB9.out (Nat.le_refl _) C⟩
  exact results_cell_row Tryd.results15 _ _ w.heap.size _ C (0, 0) _ rfl hA2 Tryd.underlying24 rfl H1.out
set_option maxRecDepth 100000 in
set_option maxHeartbeats 4000000 in
theorem tagIs_any (A A' : Option Addr) (c c' n n' : Nat) (key b d : List B8) (hn : key.length = n) (hn' : b.length = n') (hd : d.length = 32) (w : World) (hK : Bts w A key) (hc : n ≤ c) (hB : Bts w A' b) (hc' : n' ≤ c') (hG : Glob w) (hk : n ≤ 1000000) (hb : n' ≤ 1000000) :
    Calls Tryd.prog 10 #[.slice A n c, .slice A' n' c', .agg (d.map bv).toArray] w fun e w' => e = .returned (.bool (decide (tagD key b = d))) ∧ Below w.heap.size w w' := by
  obtain ⟨DL, hDL⟩ : ∃ DL, DL = d.map bv := ⟨_, rfl⟩
  have HL := Lib.hid (show DL.length = 32 by rw [hDL, List.length_map, hd])
  obtain ⟨TL, hTL⟩ : ∃ TL, TL = tagD key b := ⟨_, rfl⟩
  obtain ⟨TA, hTA⟩ : ∃ TA, TA = (TL.map bv).toArray := ⟨_, rfl⟩
  obtain ⟨r, hr⟩ : ∃ r, r = decide (TL = d) := ⟨_, rfl⟩
  have O1 := Lib.hid (fun (w4 : World) hK hB hG => tagOf_at A A' c c' n n' key b hn hn' w4 hK hc hB hc' hG hk hb)
  have O2 := Lib.hid (fun (w4 : World) => same_any TL d w4 (by rw [hTL]; exact tagD_len _ _) hd)
  rw [← hTL, ← hTA] at O1
  rw [← hTA, ← hDL, ← hr] at O2
  rw [← hTL, ← hr, ← hDL]
  obtain ⟨w1, hw1⟩ : ∃ w1, w1 = w.alloc (.cells DL.toArray 24) := ⟨_, rfl⟩
  have hb1 : Below w.heap.size w w1 := by rw [hw1]; exact (Below.refl _ _).alloc (Nat.le_refl _) _
  have HB1 := Lib.hid hb1
  have HR1 := Lib.hid (show w1.drew.heap[w.heap.size]? = some (.cells DL.toArray 24 (0, 0)) by show w1.heap[_]? = _; rw [hw1]; exact heap_alloc_new _ _)
  have HK1 := Lib.hid (show Bts w1.drew A key from hK.below hb1.drew)
  have HX1 := Lib.hid (show Bts w1.drew A' b from hB.below hb1.drew)
  have HG1 := Lib.hid (show Glob w1.drew from glob_below (w' := w1) hG hb1 (Nat.le_refl _))
  clear hDL hTL hTA hr hb1 hK hB hG hn hn' hd
  go_enter Tryd.func10, Tryd.ntmps10
  go_upto_region 1 with fail
  change Code.wp _ _ _ _ (w.alloc (.cells DL.toArray 24))
  rw [← hw1]
  clear hw1
  refine wp_region_rel 12 Stp [.one ?_, .one ?_, .one ?_, .one ?_, .one ?_, .one ?_] (by kernel_rfl) (by kernel_rfl) rfl (by kernel_rfl) Stp.refl Stp.trans trivial ?main
  case main =>
  iterate 2
    refine wpR_one (A' := ?_) Stp.refl (by rfl) _ rfl 12 (by rfl) (by rfl) ?_ ?_ ?_
    rotate_left 1
    · simp only [Act.put, List.setIfInBounds_toArray, List.set_cons_zero, List.set_cons_succ]; rfl
    · intro w1 hs hf K hK
      go_big_quiet_op
      first
        | go_big_quiet_on
        | (refine ⟨_, fun _ _ => rfl, ?_⟩; go_big_quiet_on)
      rfl
  refine wpR_one (A' := ?_) Stp.refl (by rfl) _ rfl 12 (by rfl) (by rfl) ?_ ?_ ?_
  rotate_left 1
  · simp only [Act.put, List.setIfInBounds_toArray, List.set_cons_zero, List.set_cons_succ]; rfl
  · intro w1 hs hf K hK
    go_big_quiet_op
    apply Exists.intro
    refine ⟨fun w4 h2 => ?_, ?_⟩
    · refine (O1.out w4 (bts_stp (bts_stp HK1.out hs) h2) (bts_stp (bts_stp HX1.out hs) h2) (glob_stp (glob_stp HG1.out hs) h2)).mono ?_
      rintro e w3 ⟨rfl, h3⟩
      exact ⟨rfl, Stp.trans _ _ _ h2 h3⟩
    · go_big_quiet_on
      rfl
  refine wpR_one (A' := ?_) Stp.refl (by rfl) _ rfl 12 (by rfl) (by rfl) ?_ ?_ ?_
  rotate_left 1
  · simp only [Act.put, List.setIfInBounds_toArray, List.set_cons_zero, List.set_cons_succ]; rfl
  · intro w1 hs hf K hK
    refine cls_load 24 (.tmp 5) rfl (w.heap.size) (0) rfl (DL) _ (fun w2 h2 => range_row (heap_below h2 (heap_below hs HR1.out))) Tryd.underlying24 rfl (by rw [HL.out]; kernel_rfl) ?_
    refine hK _ ?_
    simp only [Act.put, List.setIfInBounds_toArray, List.set_cons_zero, List.set_cons_succ]
    rfl
  refine wpR_one (A' := ?_) Stp.refl (by rfl) _ rfl 12 (by rfl) (by rfl) ?_ ?_ ?_
  rotate_left 1
  · simp only [Act.put, List.setIfInBounds_toArray, List.set_cons_zero, List.set_cons_succ]; rfl
  · intro w1 hs hf K hK
    go_big_quiet_op
    apply Exists.intro
    refine ⟨fun w4 h2 => ?_, ?_⟩
    · refine (O2.out w4).mono ?_
      rintro e w3 ⟨rfl, h3⟩
      exact ⟨rfl, Stp.trans _ _ _ h2 h3⟩
    · go_big_quiet_on
      rfl
  iterate 1
    refine wpR_one (A' := ?_) Stp.refl (by rfl) _ rfl 12 (by rfl) (by rfl) ?_ ?_ ?_
    rotate_left 1
    · simp only [Act.put, List.setIfInBounds_toArray, List.set_cons_zero, List.set_cons_succ]; rfl
    · intro w1 hs hf K hK
      go_big_quiet_op
      first
        | go_big_quiet_on
        | (refine ⟨_, fun _ _ => rfl, ?_⟩; go_big_quiet_on)
      rfl
  intro w9 hs hf
  have HS := Lib.hid (stp_start hs HB1.out)
  clear hs hf
  go_wp2_with fail
  go_ret
  exact ⟨rfl, HS.out⟩
end Go.Proofs.YtnhakcmnpmlopaaDoor
