/- A ring of keys: the contracts of 'Keys', 'Len'. -/
import Derived.Test.YtnhakcmnpmlopaaDoorTgF
import Derived.Laws.MakeOwn
set_option linter.unusedVariables false
namespace Go.Proofs.YtnhakcmnpmlopaaDoor
open Go.RowKit
theorem range_below {w w' : World} {b o : Nat} {cs : List Value} (h : w.rangeAt b o cs) (hb : Below w.heap.size w w') : w'.rangeAt b o cs := fun j v hj => by
  have := h j v hj
  exact (hb.cell (World.block_lt_of_cell? w _ this)).trans this
theorem bts_range {w : World} {b o : Nat} {xs : List B8} (h : w.rangeAt b o (xs.map bv)) : Bts w (some ⟨b, o, none⟩) xs := fun j u hu => ⟨_, rfl, by rw [Addr.add_mid]; exact h j u hu⟩
/-- A ring that lies in the world. -/
def RingAt (w : World) (gr gk : Nat) (seed : List B8) (n : Nat) : Prop := w.cell? ⟨gr, 0, none⟩ = some (.slice (some ⟨gk, 0, none⟩) n n) ∧ ∀ k, k < n → w.rangeAt gk (k * 32) ((keyD seed k).map bv)
theorem RingAt.below {w w' : World} {gr gk n : Nat} {seed : List B8} (h : RingAt w gr gk seed n) (hb : Below w.heap.size w w') : RingAt w' gr gk seed n :=
  ⟨(hb.cell (World.block_lt_of_cell? w _ h.1)).trans h.1, fun k hk => range_below (h.2 k hk) hb⟩
def ringV (gr : Nat) : Value := .pointer (some ⟨gr, 0, none⟩)
set_option maxRecDepth 100000 in
set_option maxHeartbeats 1000000 in
theorem keys_none (A : Option Addr) (c : Nat) (seed : List B8) (z : Int) (w : World) (hz : ¬ (1 ≤ z ∧ z ≤ 64)) :
    Calls Tryd.prog 11 #[.slice A seed.length c, .int .i64 z] w fun e w' => e = .returned (.pointer none) ∧ w' = w := by
  by_cases h1 : z < 1
  · go_enter Tryd.func11, Tryd.ntmps11
    go_wp2_with fail
    go_ret
    exact ⟨rfl, rfl⟩
  · have h2 : 64 < z := by omega
    go_enter Tryd.func11, Tryd.ntmps11
    go_wp2_with fail
    go_ret
    exact ⟨rfl, rfl⟩
theorem info_id : (Tryd.prog.info? 24).map (fun i => (i.zero, i.size, i.bytes)) = some (some (.agg ZId), 32, 32) := by kernel_rfl
theorem there_new {w w' : World} {C : Array Value} {t : TypeId} (hw : w' = w.alloc (.cells C t)) (n : Nat) (hn : n ≤ C.size) : w'.there w.heap.size 0 n := fun j hj => by
  have h := heap_alloc_new w (.cells C t)
  rw [hw]
  refine ⟨?_, frozen_of_row _ _ _ _ _ h⟩
  rw [cell_of_row _ _ _ _ _ _ h, Nat.zero_add, Array.getElem?_eq_getElem (by omega)]; rfl
theorem there_below {w w' : World} {b o n : Nat} (h : w.there b o n) (hb : Below w.heap.size w w') : w'.there b o n := fun j hj => by
  obtain ⟨h1, h2⟩ := h j hj
  obtain ⟨u, hu⟩ := Option.isSome_iff_exists.1 h1
  have hlt := World.block_lt_of_cell? w _ hu
  exact ⟨by rw [hb.cell hlt]; exact h1, (World.frozen?_of_block (hb.block _ hlt)).trans h2⟩
theorem there_part {w : World} {b n : Nat} (h : w.there b 0 n) (o m : Nat) (ho : o + m ≤ n) : w.there b o m := fun j hj => by
  have := h (o + j) (by omega)
  rwa [Nat.zero_add] at this
theorem below_setCells {B g : Nat} {w0 : World} : ∀ (vs : List Value) (o : Nat) (w : World), Below B w0 w → B ≤ g → Below B w0 (w.setCells g o vs)
  | [], _, _, h, _ => h
  | v :: r, o, w, h, hB => by
    rw [World.setCells]
    exact below_setCells r (o + 1) _ (h.setCell (show B ≤ (⟨g, o, none⟩ : Addr).block from hB) v) hB
set_option maxRecDepth 100000 in
set_option maxHeartbeats 2000000 in
theorem keys_some (A : Option Addr) (c n : Nat) (seed : List B8) (w : World) (hK : Bts w A seed) (hc : seed.length ≤ c) (hG : Glob w) (hk : seed.length ≤ 1000000) (h1 : 1 ≤ n) (h64 : n ≤ 64) :
    Calls Tryd.prog 11 #[.slice A seed.length c, .int .i64 n] w fun e w' => ∃ gr gk, e = .returned (ringV gr) ∧ RingAt w' gr gk seed n ∧ Below w.heap.size w w' := by
  obtain ⟨i0, hi, hz0, hz1, hz2⟩ := info_parts info_id
  obtain ⟨M, hM⟩ : ∃ M, M = madeCells (Value.agg ZId).cells (n * 32) := ⟨_, rfl⟩
  have hMs : M.size = n * 32 := by rw [hM]; exact size_madeCells _ _
  have hmk : ∀ w : World, (Instr.makeSlice 45 (.int .i64 (n : Int)) (.int .i64 (n : Int))).run Tryd.prog w = .ok (.slice (some ⟨w.heap.size, 0, none⟩) n n) (w.alloc (.cells M 24)) := fun w => by
    have := run_makeSlice (P := Tryd.prog) (w := w) 45 24 i0 (.agg ZId) Tryd.underlying45 hi hz0 .i64 .i64 (n : Int) (n : Int) (by omega) (by omega) (by rw [hz1]; omega) (by rw [hz2]; omega) (by omega)
    rw [hz1, Int.toNat_natCast, ← hM] at this
    exact this
  have T := Lib.hid (fun (k g : Nat) (hk64 : k < 64) (w : World) hK hB hG => tagOf_at A (some ⟨g, 0, none⟩) c 1 seed.length 1 seed [BitVec.ofNat 8 k] rfl rfl w hK hc hB (by omega) hG hk (by omega))
  have HG := Lib.hid hG
  have HK := Lib.hid hK
  have HMs := Lib.hid hMs
  have H1 := Lib.hid (show (Tryd.prog.info? 24).map (·.size) = some 32 by kernel_rfl)
  clear hG hK hM hMs hi hz0 hz1 hz2
  obtain ⟨wm, hwm⟩ : ∃ wm, wm = w.alloc (.cells M 24) := ⟨_, rfl⟩
  have HBm := Lib.hid (show Below w.heap.size w wm by rw [hwm]; exact (Below.refl _ _).alloc (Nat.le_refl _) _)
  have HTm := Lib.hid (show wm.there w.heap.size 0 (n * 32) from there_new hwm _ (by rw [HMs.out]; exact Nat.le_refl _))
  have HSm := Lib.hid (show w.heap.size < wm.heap.size by rw [hwm]; simp)
  go_enter Tryd.func11, Tryd.ntmps11
  go_upto_region 4 with fail
  change Code.wp _ _ _ _ (w.alloc (.cells M 24))
  rw [← hwm]
  clear hwm hmk
  go_wp2_with fail
  go_loopw [6, 17] (fun _ i wr => ∃ k : Nat, k ≤ n ∧ i = .int .i64 k ∧ wr.there w.heap.size 0 (n * 32) ∧ (∀ j, j < k → wr.rangeAt w.heap.size (j * 32) ((keyD seed j).map bv)) ∧ Below w.heap.size w wr ∧ w.heap.size < wr.heap.size) (fun _ i _ => n - (intOf i).toNat)
  case atStart => exact ⟨0, Nat.zero_le _, rfl, HTm.out, fun j hj => absurd hj (Nat.not_lt_zero _), HBm.out, HSm.out⟩
  case round =>
    obtain ⟨k, hkn, rfl, ht, hr, hb, hs⟩ := hrel
    have HT := Lib.hid ht
    have HR := Lib.hid hr
    have HB := Lib.hid hb
    clear ht hr hb HBm HTm HSm
    by_cases hlt : k < n
    · have hkk : (k : Int) % 256 = (k : Int) := by omega
      have HBy := Lib.hid (byte_nat k (by omega))
      obtain ⟨C, hC⟩ : ∃ C, C = ((keyD seed k).map bv).toArray := ⟨_, rfl⟩
      have HC32 := Lib.hid (show C.size = 32 by rw [hC]; simp [keyD_len])
      have H3 := Lib.hid (show C.all (·.oneCell') = true by rw [hC]; exact bvs_one _)
      have T1 := Lib.hid (T.out k wr.heap.size (by omega))
      rw [show ((tagD seed [BitVec.ofNat 8 k]).map bv).toArray = C from hC.symm] at T1
      have HCL := Lib.hid (show C.toList = (keyD seed k).map bv by rw [hC])
      clear hC
      go_wp2_with (go_at_call 9; refine stop ?_)
      unfold Stop
      obtain ⟨w2, hw2⟩ : ∃ w2, w2 = wr.alloc (.cells #[.int .u8 (k : Int)] 5) := ⟨_, rfl⟩
      have hb2 : Below wr.heap.size wr w2 := by rw [hw2]; exact (Below.refl _ _).alloc (Nat.le_refl _) _
      have hx2 : Bts w2 (some ⟨wr.heap.size, 0, none⟩) [BitVec.ofNat 8 k] := by rw [hw2]; exact bts_one wr _ _ HBy.out.symm _
      rw [← hw2]
      clear hw2
      have hbw2 := HB.out.trans (hb2.mono HB.out.size)
      refine (T1.out w2 (HK.out.below hbw2) hx2 (glob_below HG.out hbw2 (Nat.le_refl _))).mono ?_
      rintro e w3 ⟨rfl, hb3⟩
      have hb13 : Below wr.heap.size wr w3 := hb2.trans (hb3.mono hb2.size)
      have HT3 := Lib.hid (there_part (there_below HT.out hb13) (k * 32) 32 (by omega))
      have HT3' := Lib.hid (there_below HT.out hb13)
      have HR3 := Lib.hid (show ∀ j, j < k → w3.rangeAt w.heap.size (j * 32) ((keyD seed j).map bv) from fun j hj => range_below (HR.out j hj) hb13)
      have HB3 := Lib.hid (HB.out.trans (hb13.mono HB.out.size))
      have hs3 : w.heap.size < w3.heap.size := Nat.lt_of_lt_of_le hs hb13.size
      clear hb2 hx2 hbw2 hb3 hb13
      go_wp2_with (refine wpList_store_mid rfl _ _ _ rfl w.heap.size (k * 32) C rfl rfl (by rw [HC32.out]; exact HT3.out) (by rw [HC32.out]; exact H1.out) H3.out ?_)
      go_roundw
      case rel =>
        refine ⟨k + 1, by omega, by go_num, World.there_setCells HT3'.out _ _ _, fun j hj => ?_, below_setCells _ _ _ HB3.out (Nat.le_refl _), ?_⟩
        · by_cases hjk : j = k
          · subst hjk
            rw [← HCL.out]
            exact World.rangeAt_setCells_same w3 w.heap.size (j * 32) C.toList (by rw [Array.length_toList, HC32.out]; exact HT3.out)
          · exact World.rangeAt_setCells_apart (HR3.out j (by omega)) _ _ _ (.inr (.inl (by rw [List.length_map, keyD_len]; omega)))
        · exact Nat.lt_of_lt_of_le hs3 (below_setCells (B := w.heap.size) C.toList (k * 32) w3 (Below.refl _ w3) (Nat.le_refl _)).size
      case measure => simp [intOf]; omega
    · obtain rfl : k = n := by omega
      go_wp2_with fail
      go_ret
      have hba : Below wr.heap.size wr (wr.alloc (.cells #[.slice (some ⟨w.heap.size, 0, none⟩) k k] 47)) := (Below.refl _ _).alloc (Nat.le_refl _) _
      refine ⟨wr.heap.size, w.heap.size, rfl, ⟨?_, fun j hj => range_below (HR.out j hj) hba⟩, HB.out.trans (hba.mono HB.out.size)⟩
      rw [cell_of_row _ _ _ _ _ _ (heap_alloc_new wr _)]; rfl
set_option maxRecDepth 100000 in
theorem len_any (gr gk n : Nat) (seed : List B8) (w : World) (hR : RingAt w gr gk seed n) :
    Calls Tryd.prog 13 #[ringV gr] w fun e w' => e = .returned (.int .i64 n) ∧ w' = w := by
  have hc := hR.1
  unfold ringV
  clear hR
  go_enter Tryd.func13, Tryd.ntmps13
  go_wp2_with fail
  go_ret
  exact ⟨rfl, rfl⟩
theorem results_two {P : Program} {fn : Func} {p u : Tmp} {ty : TypeId} (h : fn.results = #[.cell p ty, .tmp u]) (tmps : Array Value) (w : World) (g : Nat) (t : TypeId) (cs : Array Value) (fr : Nat × Nat) (d : TypeDesc) (v : Value)
    (hp : tmps.getD p undef = .pointer (some ⟨g, 0, none⟩)) (hv : tmps.getD u undef = v) (hg : w.heap[g]? = some (.cells cs t fr))
    (hu : P.underlying ty = some d) (hd : (match d with | .struct _ | .array _ _ => true | _ => false) = true) (hi : (P.info? ty).map (·.size) = some cs.size) :
    (results fn tmps).run P w = .ok (.tuple #[.agg cs, v]) w := by
  rw [results_cell_tmp h, hp, hv]
  simp [asAddr, run_loadVar_row w g t ty cs fr d hg hu hd hi, Result.andThen]
theorem info_z : (Tryd.prog.info? 24).map (·.size) = some ZId.size := by kernel_rfl
/-- What 'Sign' answers. -/
def signV (o : Option (List B8)) : Value := .tuple #[.agg ((o.getD (zeros 32)).map bv).toArray, .bool o.isSome]
theorem signV_none : signV none = .tuple #[.agg ZId, .bool false] := rfl
def signZ (seed : List B8) (n : Nat) (z : Int) (b : List B8) : Option (List B8) := if 0 ≤ z ∧ z < n then some (signD seed z.toNat b) else none
theorem signZ_none {seed : List B8} {n : Nat} {z : Int} {b : List B8} (h : ¬ (0 ≤ z ∧ z < n)) : signZ seed n z b = none := by unfold signZ; rw [if_neg h]
theorem signZ_nat {seed : List B8} {n k : Nat} {b : List B8} (h : k < n) : signZ seed n (k : Int) b = some (signD seed k b) := by unfold signZ; rw [if_pos (by omega)]; rfl
set_option maxRecDepth 100000 in
set_option maxHeartbeats 2000000 in
theorem sign_none (gr gk n : Nat) (z : Int) (seed : List B8) (X : Value) (w : World) (hR : RingAt w gr gk seed n) (hz : ¬ (0 ≤ z ∧ z < n)) :
    Calls Tryd.prog 12 #[ringV gr, .int .i64 z, X] w fun e w' => e = .returned (signV none) ∧ Below w.heap.size w w' := by
  rw [signV_none]
  obtain ⟨w1, hw1⟩ : ∃ w1, w1 = w.alloc (.cells ZId 24) := ⟨_, rfl⟩
  have hb1 : Below w.heap.size w w1 := by rw [hw1]; exact (Below.refl _ _).alloc (Nat.le_refl _) _
  have HB1 := Lib.hid hb1
  have HZ1 := Lib.hid (show w1.heap[w.heap.size]? = some (.cells ZId 24 (0, 0)) by rw [hw1]; exact heap_alloc_new _ _)
  have H1 := Lib.hid info_z
  have H3 := Lib.hid (show ZId.all (·.oneCell') = true by kernel_rfl)
  have L := Lib.hid (len_any gr gk n seed w1 (hR.below hb1))
  clear hb1 hR
  by_cases h0 : z < 0
  · have t0 : decide (z < 0) = true := by rw [decide_eq_true_eq]; exact h0
    go_enter Tryd.func12, Tryd.ntmps12
    go_upto_region 1 with fail
    change Code.wp _ _ _ _ (w.alloc (.cells ZId 24))
    rw [← hw1]
    clear hw1
    go_wp2_with (refine wpList_store_row rfl _ _ _ rfl w.heap.size ZId rfl rfl _ ZId HZ1.out H1.out rfl H3.out ?_)
    have hA2 := setRow_heap w1 w.heap.size ZId ZId 24 (0, 0) HZ1.out
    refine bodyPost_ret (v := .tuple #[.agg ZId, .bool false]) ?_ rfl ⟨rfl, below_setRow HB1.out (Nat.le_refl _) ZId⟩
    exact results_two Tryd.results12 _ _ w.heap.size _ ZId (0, 0) _ _ rfl rfl hA2 Tryd.underlying24 rfl H1.out
  · have t0 : decide (z < 0) = false := by rw [decide_eq_false_iff_not]; exact h0
    have t1 : decide ((n : Int) ≤ z) = true := by rw [decide_eq_true_eq]; omega
    go_enter Tryd.func12, Tryd.ntmps12
    go_upto_region 1 with fail
    change Code.wp _ _ _ _ (w.alloc (.cells ZId 24))
    rw [← hw1]
    clear hw1
    go_wp2_with (first
      | (go_at_call 13; refine L.out.mono ?_; rintro e w2 ⟨rfl, rfl⟩)
      | (refine wpList_store_row rfl _ _ _ rfl w.heap.size ZId rfl rfl _ ZId HZ1.out H1.out rfl H3.out ?_))
    have hA2 := setRow_heap _ w.heap.size ZId ZId 24 (0, 0) HZ1.out
    refine bodyPost_ret (v := .tuple #[.agg ZId, .bool false]) ?_ rfl ⟨rfl, below_setRow HB1.out (Nat.le_refl _) ZId⟩
    exact results_two Tryd.results12 _ _ w.heap.size _ ZId (0, 0) _ _ rfl rfl hA2 Tryd.underlying24 rfl H1.out
set_option maxRecDepth 100000 in
set_option maxHeartbeats 2000000 in
theorem sign_some (gr gk n k : Nat) (seed b : List B8) (A' : Option Addr) (c' : Nat) (w : World) (hR : RingAt w gr gk seed n) (hkn : k < n) (hn : n ≤ 64) (hB : Bts w A' b) (hc' : b.length ≤ c') (hG : Glob w) (hb : b.length ≤ 1000000) :
    Calls Tryd.prog 12 #[ringV gr, .int .i64 k, .slice A' b.length c'] w fun e w' => e = .returned (signV (some (signD seed k b))) ∧ Below w.heap.size w w' := by
  obtain ⟨C, hC⟩ : ∃ C, C = ((signD seed k b).map bv).toArray := ⟨_, rfl⟩
  have ea : signV (some (signD seed k b)) = .tuple #[.agg C, .bool true] := by rw [hC]; rfl
  rw [ea]
  clear ea
  have hC32 : C.size = 32 := by rw [hC]; simp [signD, tagD_len]
  have H3 := Lib.hid (show C.all (·.oneCell') = true by rw [hC]; exact bvs_one _)
  have H1 := Lib.hid (show (Tryd.prog.info? 24).map (·.size) = some C.size by rw [hC32]; kernel_rfl)
  have H2 := Lib.hid (show ZId.size = C.size by rw [hC32]; rfl)
  have T := Lib.hid (fun (w : World) hK hB hG => tagOf_at (some ⟨gk, k * 32, none⟩) A' 32 c' 32 b.length (keyD seed k) b (keyD_len _ _) rfl w hK (by omega) hB hc' hG (by omega) hb)
  rw [show tagD (keyD seed k) b = signD seed k b from rfl, ← hC] at T
  obtain ⟨w1, hw1⟩ : ∃ w1, w1 = w.alloc (.cells ZId 24) := ⟨_, rfl⟩
  have hb1 : Below w.heap.size w w1 := by rw [hw1]; exact (Below.refl _ _).alloc (Nat.le_refl _) _
  have HB1 := Lib.hid hb1
  have HZ1 := Lib.hid (show w1.heap[w.heap.size]? = some (.cells ZId 24 (0, 0)) by rw [hw1]; exact heap_alloc_new _ _)
  have hR1 := hR.below hb1
  have L := Lib.hid (len_any gr gk n seed w1 hR1)
  have hcell : w1.cell? ⟨gr, 0, none⟩ = some (.slice (some ⟨gk, 0, none⟩) n n) := hR1.1
  have HK1 := Lib.hid (bts_range (hR1.2 k hkn))
  have HX1 := Lib.hid (hB.below hb1)
  have HG1 := Lib.hid (glob_below hG hb1 (Nat.le_refl _))
  have t0 : decide ((k : Int) < 0) = false := by rw [decide_eq_false_iff_not]; omega
  have t1 : decide ((n : Int) ≤ k) = false := by rw [decide_eq_false_iff_not]; omega
  have sl2 := slice_32
  clear hC hC32 hb1 hR hR1 hB hG
  unfold ringV at *
  go_enter Tryd.func12, Tryd.ntmps12
  go_upto_region 1 with fail
  change Code.wp _ _ _ _ (w.alloc (.cells ZId 24))
  rw [← hw1]
  clear hw1
  go_wp2_with (first
    | (go_at_call 13; refine L.out.mono ?_; rintro e w2 ⟨rfl, hw2⟩; rw [hw2]; clear hw2 w2)
    | (go_at_call 9; refine stop ?_))
  unfold Stop
  refine (T.out w1 HK1.out HX1.out HG1.out).mono ?_
  rintro e w2 ⟨rfl, hb2⟩
  have HA := Lib.hid (heap_below hb2 HZ1.out)
  have HB2 := Lib.hid (HB1.out.trans (hb2.mono HB1.out.size))
  clear hb2
  go_wp2_with (refine wpList_store_row rfl _ _ _ rfl w.heap.size C rfl rfl _ ZId HA.out H1.out H2.out H3.out ?_)
  have hA2 := setRow_heap w2 w.heap.size ZId C 24 (0, 0) HA.out
  refine bodyPost_ret (v := .tuple #[.agg C, .bool true]) ?_ rfl ⟨rfl, below_setRow HB2.out (Nat.le_refl _) C⟩
  exact results_two Tryd.results12 _ _ w.heap.size _ C (0, 0) _ _ rfl rfl hA2 Tryd.underlying24 rfl H1.out
end Go.Proofs.YtnhakcmnpmlopaaDoor
