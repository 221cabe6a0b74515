/- Merged: A ring of keys: the contracts of 'Keys', 'Len'. A ring of keys: the contract of 'Is'. Paths: rows of digests; the code's Path. -/
import Derived.Test.YthoaaieiiokcmaaGreatDoorM20
import Derived.Laws.MakeOwn
import Derived.Test.YthoaaieiiokcmaaGreatDoorM10
import Derived.Great.BuildSlice
import Derived.Deep.Onto
namespace Go.Proofs.YthoaaieiiokcmaaGreatDoor
section
set_option linter.unusedVariables false
open Go.RowKit
theorem range_below {w w' : World} {b o : Nat} {cs : List Value} (h : w.rangeAt b o cs) (hb : Below w.heap.size w w') : w'.rangeAt b o cs := fun j v hj => by
  have := h j v hj
  exact (hb.cell (World.block_lt_of_cell? w _ this)).trans this
theorem bts_range {w : World} {b o : Nat} {xs : List B8} (h : w.rangeAt b o (xs.map bv)) : Bts w (some ⟨b, o, none⟩) xs := fun j u hu => ⟨_, rfl, by rw [Addr.add_mid]; exact h j u hu⟩
/-- A ring that lies in the world. -/
def RingAt (w : World) (gr gk : Nat) (seed : List B8) (n : Nat) : Prop := w.cell? ⟨gr, 0, none⟩ = some (.slice (some ⟨gk, 0, none⟩) n n) ∧ ∀ k, k < n → w.rangeAt gk (k * 32) ((keyD seed k).map bv)
theorem RingAt.below {w w' : World} {gr gk n : Nat} {seed : List B8} (h : RingAt w gr gk seed n) (hb : Below w.heap.size w w') : RingAt w' gr gk seed n :=
  ⟨(hb.cell (World.block_lt_of_cell? w _ h.1)).trans h.1, fun k hk => range_below (h.2 k hk) hb⟩
def ringV (gr : Nat) : Value := .pointer (some ⟨gr, 0, none⟩)
theorem info_id : (Tryz.prog.info? 24).map (fun i => (i.zero, i.size, i.bytes)) = some (some (.agg ZId), 32, 32) := by kernel_rfl
theorem there_new {w w' : World} {C : Array Value} {t : TypeId} (hw : w' = w.alloc (.cells C t)) (n : Nat) (hn : n ≤ C.size) : w'.there w.heap.size 0 n := fun j hj => by
  have h := heap_alloc_new w (.cells C t)
  rw [hw]
  refine ⟨?_, frozen_of_row _ _ _ _ _ h⟩
  rw [cell_of_row _ _ _ _ _ _ h, Nat.zero_add, Array.getElem?_eq_getElem (by omega)]; rfl
theorem there_below {w w' : World} {b o n : Nat} (h : w.there b o n) (hb : Below w.heap.size w w') : w'.there b o n := fun j hj => by
  obtain ⟨h1, h2⟩ := h j hj
  obtain ⟨u, hu⟩ := Option.isSome_iff_exists.1 h1
  have hlt := World.block_lt_of_cell? w _ hu
  exact ⟨by rw [hb.cell hlt]; exact h1, (World.frozen?_of_block (hb.block _ hlt)).trans h2⟩
theorem there_part {w : World} {b n : Nat} (h : w.there b 0 n) (o m : Nat) (ho : o + m ≤ n) : w.there b o m := fun j hj => by
  have := h (o + j) (by omega)
  rwa [Nat.zero_add] at this
theorem below_setCells {B g : Nat} {w0 : World} : ∀ (vs : List Value) (o : Nat) (w : World), Below B w0 w → B ≤ g → Below B w0 (w.setCells g o vs)
  | [], _, _, h, _ => h
  | v :: r, o, w, h, hB => by
    rw [World.setCells]
    exact below_setCells r (o + 1) _ (h.setCell (show B ≤ (⟨g, o, none⟩ : Addr).block from hB) v) hB
set_option maxRecDepth 100000 in
set_option maxHeartbeats 2000000 in
theorem keys_some (A : Option Addr) (c n : Nat) (seed : List B8) (w : World) (hK : Bts w A seed) (hc : seed.length ≤ c) (hG : Glob w) (hk : seed.length ≤ 1000000) (h1 : 1 ≤ n) (h64 : n ≤ 64) :
    Calls Tryz.prog 5 #[.slice A seed.length c, .int .i64 n] w fun e w' => ∃ gr gk, e = .returned (ringV gr) ∧ RingAt w' gr gk seed n ∧ Below w.heap.size w w' := by
  obtain ⟨i0, hi, hz0, hz1, hz2⟩ := info_parts info_id
  obtain ⟨M, hM⟩ : ∃ M, M = madeCells (Value.agg ZId).cells (n * 32) := ⟨_, rfl⟩
  have hMs : M.size = n * 32 := by rw [hM]; exact size_madeCells _ _
  have hmk : ∀ w : World, (Instr.makeSlice 31 (.int .i64 (n : Int)) (.int .i64 (n : Int))).run Tryz.prog w = .ok (.slice (some ⟨w.heap.size, 0, none⟩) n n) (w.alloc (.cells M 24)) := fun w => by
    have := run_makeSlice (P := Tryz.prog) (w := w) 31 24 i0 (.agg ZId) Tryz.underlying31 hi hz0 .i64 .i64 (n : Int) (n : Int) (by omega) (by omega) (by rw [hz1]; omega) (by rw [hz2]; omega) (by omega)
    rw [hz1, Int.toNat_natCast, ← hM] at this
    exact this
  have T := Lib.hid (fun (k g : Nat) (hk64 : k < 64) (w : World) hK hB hG => tagOf_at A (some ⟨g, 0, none⟩) c 1 seed.length 1 seed [BitVec.ofNat 8 k] rfl rfl w hK hc hB (by omega) hG hk (by omega))
  have HG := Lib.hid hG
  have HK := Lib.hid hK
  have HMs := Lib.hid hMs
  have H1 := Lib.hid (show (Tryz.prog.info? 24).map (·.size) = some 32 by kernel_rfl)
  clear hG hK hM hMs hi hz0 hz1 hz2
  obtain ⟨wm, hwm⟩ : ∃ wm, wm = w.alloc (.cells M 24) := ⟨_, rfl⟩
  have HBm := Lib.hid (show Below w.heap.size w wm by rw [hwm]; exact (Below.refl _ _).alloc (Nat.le_refl _) _)
  have HTm := Lib.hid (show wm.there w.heap.size 0 (n * 32) from there_new hwm _ (by rw [HMs.out]; exact Nat.le_refl _))
  have HSm := Lib.hid (show w.heap.size < wm.heap.size by rw [hwm]; simp)
  go_enter Tryz.func5, Tryz.ntmps5
  go_upto_region 4 with fail
  change Code.wp _ _ _ _ (w.alloc (.cells M 24))
  rw [← hwm]
  clear hwm hmk
  go_wp2_with fail
  go_loopw [6, 17] (fun _ i wr => ∃ k : Nat, k ≤ n ∧ i = .int .i64 k ∧ wr.there w.heap.size 0 (n * 32) ∧ (∀ j, j < k → wr.rangeAt w.heap.size (j * 32) ((keyD seed j).map bv)) ∧ Below w.heap.size w wr ∧ w.heap.size < wr.heap.size) (fun _ i _ => n - (intOf i).toNat)
  case atStart => exact ⟨0, Nat.zero_le _, rfl, HTm.out, fun j hj => absurd hj (Nat.not_lt_zero _), HBm.out, HSm.out⟩
  case round =>
    obtain ⟨k, hkn, rfl, ht, hr, hb, hs⟩ := hrel
    have HT := Lib.hid ht
    have HR := Lib.hid hr
    have HB := Lib.hid hb
    clear ht hr hb HBm HTm HSm
    by_cases hlt : k < n
    · have hkk : (k : Int) % 256 = (k : Int) := by omega
      have HBy := Lib.hid (byte_nat k (by omega))
      obtain ⟨C, hC⟩ : ∃ C, C = ((keyD seed k).map bv).toArray := ⟨_, rfl⟩
      have HC32 := Lib.hid (show C.size = 32 by rw [hC]; simp [keyD_len])
      have H3 := Lib.hid (show C.all (·.oneCell') = true by rw [hC]; exact bvs_one _)
      have T1 := Lib.hid (T.out k wr.heap.size (by omega))
      rw [show ((tagD seed [BitVec.ofNat 8 k]).map bv).toArray = C from hC.symm] at T1
      have HCL := Lib.hid (show C.toList = (keyD seed k).map bv by rw [hC])
      clear hC
      go_wp2_with (go_at_call 16; refine stop ?_)
      unfold Stop
      obtain ⟨w2, hw2⟩ : ∃ w2, w2 = wr.alloc (.cells #[.int .u8 (k : Int)] 5) := ⟨_, rfl⟩
      have hb2 : Below wr.heap.size wr w2 := by rw [hw2]; exact (Below.refl _ _).alloc (Nat.le_refl _) _
      have hx2 : Bts w2 (some ⟨wr.heap.size, 0, none⟩) [BitVec.ofNat 8 k] := by rw [hw2]; exact bts_one wr _ _ HBy.out.symm _
      rw [← hw2]
      clear hw2
      have hbw2 := HB.out.trans (hb2.mono HB.out.size)
      refine (T1.out w2 (HK.out.below hbw2) hx2 (glob_below HG.out hbw2 (Nat.le_refl _))).mono ?_
      rintro e w3 ⟨rfl, hb3⟩
      have hb13 : Below wr.heap.size wr w3 := hb2.trans (hb3.mono hb2.size)
      have HT3 := Lib.hid (there_part (there_below HT.out hb13) (k * 32) 32 (by omega))
      have HT3' := Lib.hid (there_below HT.out hb13)
      have HR3 := Lib.hid (show ∀ j, j < k → w3.rangeAt w.heap.size (j * 32) ((keyD seed j).map bv) from fun j hj => range_below (HR.out j hj) hb13)
      have HB3 := Lib.hid (HB.out.trans (hb13.mono HB.out.size))
      have hs3 : w.heap.size < w3.heap.size := Nat.lt_of_lt_of_le hs hb13.size
      clear hb2 hx2 hbw2 hb3 hb13
      go_wp2_with (refine wpList_store_mid rfl _ _ _ rfl w.heap.size (k * 32) C rfl rfl (by rw [HC32.out]; exact HT3.out) (by rw [HC32.out]; exact H1.out) H3.out ?_)
      go_roundw
      case rel =>
        refine ⟨k + 1, by omega, by go_num, World.there_setCells HT3'.out _ _ _, fun j hj => ?_, below_setCells _ _ _ HB3.out (Nat.le_refl _), ?_⟩
        · by_cases hjk : j = k
          · subst hjk
            rw [← HCL.out]
            exact World.rangeAt_setCells_same w3 w.heap.size (j * 32) C.toList (by rw [Array.length_toList, HC32.out]; exact HT3.out)
          · exact World.rangeAt_setCells_apart (HR3.out j (by omega)) _ _ _ (.inr (.inl (by rw [List.length_map, keyD_len]; omega)))
        · exact Nat.lt_of_lt_of_le hs3 (below_setCells (B := w.heap.size) C.toList (k * 32) w3 (Below.refl _ w3) (Nat.le_refl _)).size
      case measure => simp [intOf]; omega
    · obtain rfl : k = n := by omega
      go_wp2_with fail
      go_ret
      have hba : Below wr.heap.size wr (wr.alloc (.cells #[.slice (some ⟨w.heap.size, 0, none⟩) k k] 56)) := (Below.refl _ _).alloc (Nat.le_refl _) _
      refine ⟨wr.heap.size, w.heap.size, rfl, ⟨?_, fun j hj => range_below (HR.out j hj) hba⟩, HB.out.trans (hba.mono HB.out.size)⟩
      rw [cell_of_row _ _ _ _ _ _ (heap_alloc_new wr _)]; rfl
set_option maxRecDepth 100000 in
theorem ringLen_any (gr gk n : Nat) (seed : List B8) (w : World) (hR : RingAt w gr gk seed n) :
    Calls Tryz.prog 83 #[ringV gr] w fun e w' => e = .returned (.int .i64 n) ∧ w' = w := by
  have hc := hR.1
  unfold ringV
  clear hR
  go_enter Tryz.func83, Tryz.ntmps83
  go_wp2_with fail
  go_ret
  exact ⟨rfl, rfl⟩
theorem results_two {P : Program} {fn : Func} {p u : Tmp} {ty : TypeId} (h : fn.results = #[.cell p ty, .tmp u]) (tmps : Array Value) (w : World) (g : Nat) (t : TypeId) (cs : Array Value) (fr : Nat × Nat) (d : TypeDesc) (v : Value)
    (hp : tmps.getD p undef = .pointer (some ⟨g, 0, none⟩)) (hv : tmps.getD u undef = v) (hg : w.heap[g]? = some (.cells cs t fr))
    (hu : P.underlying ty = some d) (hd : (match d with | .struct _ | .array _ _ => true | _ => false) = true) (hi : (P.info? ty).map (·.size) = some cs.size) :
    (results fn tmps).run P w = .ok (.tuple #[.agg cs, v]) w := by
  rw [results_cell_tmp h, hp, hv]
  simp [asAddr, run_loadVar_row w g t ty cs fr d hg hu hd hi, Result.andThen]
theorem info_z : (Tryz.prog.info? 24).map (·.size) = some ZId.size := by kernel_rfl
/-- What 'Sign' answers. -/
def signV (o : Option (List B8)) : Value := .tuple #[.agg ((o.getD (zeros 32)).map bv).toArray, .bool o.isSome]
theorem signV_none : signV none = .tuple #[.agg ZId, .bool false] := rfl
def signZ (seed : List B8) (n : Nat) (z : Int) (b : List B8) : Option (List B8) := if 0 ≤ z ∧ z < n then some (signD seed z.toNat b) else none
theorem signZ_none {seed : List B8} {n : Nat} {z : Int} {b : List B8} (h : ¬ (0 ≤ z ∧ z < n)) : signZ seed n z b = none := by unfold signZ; rw [if_neg h]
theorem signZ_nat {seed : List B8} {n k : Nat} {b : List B8} (h : k < n) : signZ seed n (k : Int) b = some (signD seed k b) := by unfold signZ; rw [if_pos (by omega)]; rfl
set_option maxRecDepth 100000 in
set_option maxHeartbeats 2000000 in
theorem sign_none (gr gk n : Nat) (z : Int) (seed : List B8) (X : Value) (w : World) (hR : RingAt w gr gk seed n) (hz : ¬ (0 ≤ z ∧ z < n)) :
    Calls Tryz.prog 47 #[ringV gr, .int .i64 z, X] w fun e w' => e = .returned (signV none) ∧ Below w.heap.size w w' := by
  rw [signV_none]
  obtain ⟨w1, hw1⟩ : ∃ w1, w1 = w.alloc (.cells ZId 24) := ⟨_, rfl⟩
  have hb1 : Below w.heap.size w w1 := by rw [hw1]; exact (Below.refl _ _).alloc (Nat.le_refl _) _
  have HB1 := Lib.hid hb1
  have HZ1 := Lib.hid (show w1.heap[w.heap.size]? = some (.cells ZId 24 (0, 0)) by rw [hw1]; exact heap_alloc_new _ _)
  have H1 := Lib.hid info_z
  have H3 := Lib.hid (show ZId.all (·.oneCell') = true by kernel_rfl)
  have L := Lib.hid (ringLen_any gr gk n seed w1 (hR.below hb1))
  clear hb1 hR
  by_cases h0 : z < 0
  · have t0 : decide (z < 0) = true := by rw [decide_eq_true_eq]; exact h0
    go_enter Tryz.func47, Tryz.ntmps47
    go_upto_region 1 with fail
    change Code.wp _ _ _ _ (w.alloc (.cells ZId 24))
    rw [← hw1]
    clear hw1
    go_wp2_with (refine wpList_store_row rfl _ _ _ rfl w.heap.size ZId rfl rfl _ ZId HZ1.out H1.out rfl H3.out ?_)
    have hA2 := setRow_heap w1 w.heap.size ZId ZId 24 (0, 0) HZ1.out
    refine bodyPost_ret (v := .tuple #[.agg ZId, .bool false]) ?_ rfl ⟨rfl, below_setRow HB1.out (Nat.le_refl _) ZId⟩
    exact results_two Tryz.results47 _ _ w.heap.size _ ZId (0, 0) _ _ rfl rfl hA2 Tryz.underlying24 rfl H1.out
  · have t0 : decide (z < 0) = false := by rw [decide_eq_false_iff_not]; exact h0
    have t1 : decide ((n : Int) ≤ z) = true := by rw [decide_eq_true_eq]; omega
    go_enter Tryz.func47, Tryz.ntmps47
    go_upto_region 1 with fail
    change Code.wp _ _ _ _ (w.alloc (.cells ZId 24))
    rw [← hw1]
    clear hw1
    go_wp2_with (first
      | (go_at_call 83; refine L.out.mono ?_; rintro e w2 ⟨rfl, rfl⟩)
      | (refine wpList_store_row rfl _ _ _ rfl w.heap.size ZId rfl rfl _ ZId HZ1.out H1.out rfl H3.out ?_))
    have hA2 := setRow_heap _ w.heap.size ZId ZId 24 (0, 0) HZ1.out
    refine bodyPost_ret (v := .tuple #[.agg ZId, .bool false]) ?_ rfl ⟨rfl, below_setRow HB1.out (Nat.le_refl _) ZId⟩
    exact results_two Tryz.results47 _ _ w.heap.size _ ZId (0, 0) _ _ rfl rfl hA2 Tryz.underlying24 rfl H1.out
set_option maxRecDepth 100000 in
set_option maxHeartbeats 2000000 in
theorem sign_some (gr gk n k : Nat) (seed b : List B8) (A' : Option Addr) (c' : Nat) (w : World) (hR : RingAt w gr gk seed n) (hkn : k < n) (hn : n ≤ 64) (hB : Bts w A' b) (hc' : b.length ≤ c') (hG : Glob w) (hb : b.length ≤ 1000000) :
    Calls Tryz.prog 47 #[ringV gr, .int .i64 k, .slice A' b.length c'] w fun e w' => e = .returned (signV (some (signD seed k b))) ∧ Below w.heap.size w w' := by
  obtain ⟨C, hC⟩ : ∃ C, C = ((signD seed k b).map bv).toArray := ⟨_, rfl⟩
  have ea : signV (some (signD seed k b)) = .tuple #[.agg C, .bool true] := by rw [hC]; rfl
  rw [ea]
  clear ea
  have hC32 : C.size = 32 := by rw [hC]; simp [signD, tagD_len]
  have H3 := Lib.hid (show C.all (·.oneCell') = true by rw [hC]; exact bvs_one _)
  have H1 := Lib.hid (show (Tryz.prog.info? 24).map (·.size) = some C.size by rw [hC32]; kernel_rfl)
  have H2 := Lib.hid (show ZId.size = C.size by rw [hC32]; rfl)
  have T := Lib.hid (fun (w : World) hK hB hG => tagOf_at (some ⟨gk, k * 32, none⟩) A' 32 c' 32 b.length (keyD seed k) b (keyD_len _ _) rfl w hK (by omega) hB hc' hG (by omega) hb)
  rw [show tagD (keyD seed k) b = signD seed k b from rfl, ← hC] at T
  obtain ⟨w1, hw1⟩ : ∃ w1, w1 = w.alloc (.cells ZId 24) := ⟨_, rfl⟩
  have hb1 : Below w.heap.size w w1 := by rw [hw1]; exact (Below.refl _ _).alloc (Nat.le_refl _) _
  have HB1 := Lib.hid hb1
  have HZ1 := Lib.hid (show w1.heap[w.heap.size]? = some (.cells ZId 24 (0, 0)) by rw [hw1]; exact heap_alloc_new _ _)
  have hR1 := hR.below hb1
  have L := Lib.hid (ringLen_any gr gk n seed w1 hR1)
  have hcell : w1.cell? ⟨gr, 0, none⟩ = some (.slice (some ⟨gk, 0, none⟩) n n) := hR1.1
  have HK1 := Lib.hid (bts_range (hR1.2 k hkn))
  have HX1 := Lib.hid (hB.below hb1)
  have HG1 := Lib.hid (glob_below hG hb1 (Nat.le_refl _))
  have t0 : decide ((k : Int) < 0) = false := by rw [decide_eq_false_iff_not]; omega
  have t1 : decide ((n : Int) ≤ k) = false := by rw [decide_eq_false_iff_not]; omega
  have sl2 := slice_32
  clear hC hC32 hb1 hR hR1 hB hG
  unfold ringV at *
  go_enter Tryz.func47, Tryz.ntmps47
  go_upto_region 1 with fail
  change Code.wp _ _ _ _ (w.alloc (.cells ZId 24))
  rw [← hw1]
  clear hw1
  go_wp2_with (first
    | (go_at_call 83; refine L.out.mono ?_; rintro e w2 ⟨rfl, hw2⟩; rw [hw2]; clear hw2 w2)
    | (go_at_call 16; refine stop ?_))
  unfold Stop
  refine (T.out w1 HK1.out HX1.out HG1.out).mono ?_
  rintro e w2 ⟨rfl, hb2⟩
  have HA := Lib.hid (heap_below hb2 HZ1.out)
  have HB2 := Lib.hid (HB1.out.trans (hb2.mono HB1.out.size))
  clear hb2
  go_wp2_with (refine wpList_store_row rfl _ _ _ rfl w.heap.size C rfl rfl _ ZId HA.out H1.out H2.out H3.out ?_)
  have hA2 := setRow_heap w2 w.heap.size ZId C 24 (0, 0) HA.out
  refine bodyPost_ret (v := .tuple #[.agg C, .bool true]) ?_ rfl ⟨rfl, below_setRow HB2.out (Nat.le_refl _) C⟩
  exact results_two Tryz.results47 _ _ w.heap.size _ C (0, 0) _ _ rfl rfl hA2 Tryz.underlying24 rfl H1.out
end
section
set_option linter.unusedVariables false
open Go.RowKit
attribute [local go_sem ↓] loadAt_id
attribute [local go_sem] rowOf_drew rowOf_drewN run_idLoad
theorem signD_len (seed : List B8) (k : Nat) (b : List B8) : (signD seed k b).length = 32 := tagD_len _ _
set_option maxRecDepth 100000 in
set_option maxHeartbeats 2000000 in
theorem ringIs_none (gr gk n : Nat) (z : Int) (seed : List B8) (X Y : Value) (d : List B8) (w : World) (hR : RingAt w gr gk seed n) (hz : ¬ (0 ≤ z ∧ z < n)) (hd : d.length = 32) :
    Calls Tryz.prog 29 #[ringV gr, .int .i64 z, X, .agg (d.map bv).toArray] w fun e w' => e = .returned (.bool false) ∧ Below w.heap.size w w' := by
  obtain ⟨DA, hDA⟩ : ∃ DA, DA = (d.map bv).toArray := ⟨_, rfl⟩
  rw [← hDA]
  obtain ⟨w1, hw1⟩ : ∃ w1, w1 = w.alloc (.cells DA 24) := ⟨_, rfl⟩
  have hb1 : Below w.heap.size w w1 := by rw [hw1]; exact (Below.refl _ _).alloc (Nat.le_refl _) _
  have HB1 := Lib.hid hb1
  have S := Lib.hid (sign_none gr gk n z seed X w1 (hR.below hb1) hz)
  have H1 := Lib.hid info_z
  have H3 := Lib.hid (show ZId.all (·.oneCell') = true by kernel_rfl)
  rw [signV_none] at S
  clear hDA hd hb1 hR hz
  go_enter Tryz.func29, Tryz.ntmps29
  go_upto_region 1 with fail
  change Code.wp _ _ _ _ (w.alloc (.cells DA 24))
  rw [← hw1]
  clear hw1
  go_wp2_with (go_at_call 47; refine stop ?_)
  unfold Stop
  refine S.out.mono ?_
  rintro e w2 ⟨rfl, hb2⟩
  have HZ := Lib.hid (show (w2.alloc (.cells ZId 24)).heap[w2.heap.size]? = some (.cells ZId 24 (0, 0)) from heap_alloc_new _ _)
  have hba : Below w2.heap.size w2 (w2.alloc (.cells ZId 24)) := (Below.refl _ _).alloc (Nat.le_refl _) _
  have HB2 := Lib.hid (HB1.out.trans ((below_setRow (hb2.trans (hba.mono hb2.size)) hb2.size ZId).mono HB1.out.size))
  clear hb2 hba
  go_wp2_with (refine wpList_store_row rfl _ _ _ rfl w2.heap.size ZId rfl rfl _ ZId HZ.out H1.out rfl H3.out ?_)
  go_ret
  exact ⟨rfl, HB2.out⟩
set_option maxRecDepth 100000 in
set_option maxHeartbeats 2000000 in
theorem ringIs_some (gr gk n k : Nat) (seed b d : List B8) (A' : Option Addr) (c' : Nat) (w : World) (hR : RingAt w gr gk seed n) (hkn : k < n) (hn : n ≤ 64) (hB : Bts w A' b) (hc' : b.length ≤ c') (hG : Glob w) (hb : b.length ≤ 1000000) (hd : d.length = 32) :
    Calls Tryz.prog 29 #[ringV gr, .int .i64 k, .slice A' b.length c', .agg (d.map bv).toArray] w fun e w' => e = .returned (.bool (decide (signD seed k b = d))) ∧ Below w.heap.size w w' := by
  obtain ⟨DA, hDA⟩ : ∃ DA, DA = (d.map bv).toArray := ⟨_, rfl⟩
  obtain ⟨C, hC⟩ : ∃ C, C = ((signD seed k b).map bv).toArray := ⟨_, rfl⟩
  obtain ⟨r, hr⟩ : ∃ r, r = decide (signD seed k b = d) := ⟨_, rfl⟩
  have hC32 : C.size = 32 := by rw [hC]; simp [signD_len]
  have H3 := Lib.hid (show C.all (·.oneCell') = true by rw [hC]; exact bvs_one _)
  have H1 := Lib.hid (show (Tryz.prog.info? 24).map (·.size) = some C.size by rw [hC32]; kernel_rfl)
  have H2 := Lib.hid (show ZId.size = C.size by rw [hC32]; rfl)
  have SM := Lib.hid (fun w => same_any (signD seed k b) d w (signD_len _ _ _) hd)
  rw [← hC, ← hDA, ← hr] at SM
  rw [← hDA, ← hr]
  obtain ⟨w1, hw1⟩ : ∃ w1, w1 = w.alloc (.cells DA 24) := ⟨_, rfl⟩
  have hb1 : Below w.heap.size w w1 := by rw [hw1]; exact (Below.refl _ _).alloc (Nat.le_refl _) _
  have HB1 := Lib.hid hb1
  have HR1 := Lib.hid (show w1.heap[w.heap.size]? = some (.cells (d.map bv).toArray 24 (0, 0)) by rw [hw1, hDA]; exact heap_alloc_new _ _)
  have S := Lib.hid (sign_some gr gk n k seed b A' c' w1 (hR.below hb1) hkn hn (hB.below hb1) hc' (glob_below hG hb1 (Nat.le_refl _)) hb)
  rw [show signV (some (signD seed k b)) = .tuple #[.agg C, .bool true] by rw [hC]; rfl] at S
  have HC := Lib.hid hC
  have HD := Lib.hid hDA
  have Hd := Lib.hid hd
  clear hDA hC hC32 hr hd hb1 hR hB hG
  go_enter Tryz.func29, Tryz.ntmps29
  go_upto_region 1 with fail
  change Code.wp _ _ _ _ (w.alloc (.cells DA 24))
  rw [← hw1]
  clear hw1
  go_wp2_with (go_at_call 47; refine stop ?_)
  unfold Stop
  refine S.out.mono ?_
  rintro e w2 ⟨rfl, hb2⟩
  have HZ := Lib.hid (show (w2.alloc (.cells ZId 24)).heap[w2.heap.size]? = some (.cells ZId 24 (0, 0)) from heap_alloc_new _ _)
  have hba : Below w2.heap.size w2 (w2.alloc (.cells ZId 24)) := (Below.refl _ _).alloc (Nat.le_refl _) _
  have HB12 := Lib.hid (below_setRow (hb2.trans (hba.mono hb2.size)) hb2.size C)
  clear hb2 hba
  go_wp2_with (refine wpList_store_row rfl _ _ _ rfl w2.heap.size C rfl rfl _ ZId HZ.out H1.out H2.out H3.out ?_; refine stop ?_)
  unfold Stop
  obtain ⟨w3, hw3⟩ : ∃ w3, w3 = (w2.alloc (.cells ZId 24)).setRow w2.heap.size C := ⟨_, rfl⟩
  change wpList _ _ _ _ _ ((w2.alloc (.cells ZId 24)).setRow w2.heap.size C)
  rw [← hw3] at HB12 ⊢
  have r1 : rowOf w3 w2.heap.size 0 32 = some C := by
    rw [HC.out]
    refine rowOf_id (t := 24) (fr := (0, 0)) (signD_len _ _ _) ?_
    rw [hw3, ← HC.out]; exact setRow_heap _ w2.heap.size ZId C _ _ HZ.out
  have r2 : rowOf w3 w.heap.size 0 32 = some DA := by
    rw [HD.out]
    exact rowOf_id Hd.out (heap_below HB12.out HR1.out)
  have HB3 := Lib.hid (HB1.out.trans (HB12.out.mono HB1.out.size))
  clear hw3 HZ
  go_wp2_with (go_at_call 61; refine (SM.out _).mono ?_; rintro e w4 ⟨rfl, hb4⟩; have HB4 := Lib.hid (HB3.out.trans (hb4.mono HB3.out.size)); clear hb4)
  go_ret
  exact ⟨rfl, HB4.out⟩
end
section
set_option linter.unusedVariables false
open Go.RowKit
def idsV (ds : List (List B8)) : List Value := ds.flatMap fun d => d.map bv
theorem idsV_append (a b : List (List B8)) : idsV (a ++ b) = idsV a ++ idsV b := by simp [idsV]
theorem idsV_one (d : List B8) : idsV [d] = d.map bv := by simp [idsV]
theorem idsV_len (ds : List (List B8)) (h : ∀ d ∈ ds, d.length = 32) : (idsV ds).length = ds.length * 32 := by
  induction ds with
  | nil => rfl
  | cons d l ih =>
    have h1 := h d (by simp)
    have h2 := ih (fun x hx => h x (by simp [hx]))
    unfold idsV at *
    rw [List.flatMap_cons, List.length_append, h2, List.length_map, h1, List.length_cons]
    omega
theorem pathD_ids : ∀ (N : Nat) (ls : List (List B8)) (k : Nat), ls.length ≤ N → ∀ d ∈ pathD ls k, d.length = 32 := by
  intro N
  induction N with
  | zero => intro ls k h d hd; rw [pathD_none (by omega)] at hd; cases hd
  | succ N ih =>
    intro ls k h d hd
    by_cases h2 : 2 ≤ ls.length ∧ k < ls.length
    · have hlt := hp_lt h2.1
      have hpos := hp_pos ls.length
      by_cases hk : k < hp ls.length
      · rw [pathD_low h2.1 hk] at hd
        rcases List.mem_append.1 hd with hd | hd
        · exact ih _ k (by simp; omega) d hd
        · obtain rfl := List.mem_singleton.1 hd; exact rootD_len _
      · rw [pathD_high h2.1 h2.2 hk] at hd
        rcases List.mem_append.1 hd with hd | hd
        · exact ih _ _ (by simp; omega) d hd
        · obtain rfl := List.mem_singleton.1 hd; exact rootD_len _
    · rw [pathD_none h2] at hd; cases hd
theorem pathD_size : ∀ (N : Nat) (ls : List (List B8)) (k : Nat), ls.length ≤ N → (pathD ls k).length ≤ N := by
  intro N
  induction N with
  | zero => intro ls k h; rw [pathD_none (by omega)]; exact Nat.le_refl _
  | succ N ih =>
    intro ls k h
    by_cases h2 : 2 ≤ ls.length ∧ k < ls.length
    · have hlt := hp_lt h2.1
      have hpos := hp_pos ls.length
      by_cases hk : k < hp ls.length
      · rw [pathD_low h2.1 hk, List.length_append]
        have := ih (ls.take (hp ls.length)) k (by simp; omega)
        simp; omega
      · rw [pathD_high h2.1 h2.2 hk, List.length_append]
        have := ih (ls.drop (hp ls.length)) (k - hp ls.length) (by simp; omega)
        simp; omega
    · rw [pathD_none h2]; simp
def pathZ (ls : List (List B8)) (z : Int) : List (List B8) := if z < 0 then [] else pathD ls z.toNat
theorem pathZ_nat (ls : List (List B8)) (k : Nat) : pathZ ls (k : Int) = pathD ls k := by unfold pathZ; rw [if_neg (by omega)]; rfl
theorem info_idT : (Tryz.prog.info? 24).map (fun i => (i.zero, i.size, i.bytes)) = some (some (.agg ZIdT), 32, 32) := by kernel_rfl
theorem foldl_set : ∀ (l : List Value) (n : Nat) (acc : Array Value), acc.size = n + l.length → ((l.zipIdx n).foldl (fun cs x => cs.setIfInBounds x.snd x.fst) acc).toList = acc.toList.take n ++ l
  | [], n, acc, h => by
    have h1 : acc.toList.length ≤ n := by simp at h ⊢; omega
    simp [List.take_of_length_le h1]
  | x :: l, n, acc, h => by
    rw [List.zipIdx_cons, List.foldl_cons, foldl_set l (n + 1) _ (by simp at h ⊢; omega), Array.toList_setIfInBounds]
    have hn : n < acc.toList.length := by simp at h ⊢; omega
    have e : (acc.toList.set n x).take (n + 1) = acc.toList.take n ++ [x] := by
      rw [List.take_succ_eq_append_getElem (by simpa using hn)]
      simp [List.take_set_of_le]
    rw [e, List.append_assoc]; rfl
theorem foldl_set0 (l : List Value) (acc : Array Value) (h : acc.size = l.length) : (l.zipIdx.foldl (fun cs x => cs.setIfInBounds x.snd x.fst) acc) = l.toArray := by
  apply Array.ext'
  rw [foldl_set l 0 acc (by omega)]; simp
set_option maxRecDepth 100000 in
theorem build_id (d : List B8) (hd : d.length = 32) (w : World) : (Instr.buildSlice 31 1 #[(0, .agg (d.map bv).toArray)]).run Tryz.prog w = .ok (.slice (some ⟨w.heap.size, 0, none⟩) 1 1) (w.alloc (.cells (d.map bv).toArray 24)) := by
  obtain ⟨i0, hi, hz0, hz1, hz2⟩ := info_parts info_idT
  have hf := foldl_set0 (d.map bv) ZIdT (by simp [hd])
  refine run_buildSlice w 31 24 1 _ _ i0 (.agg ZIdT) Tryz.underlying31 hi hz0 (by rw [hz1]; decide) (by rw [hz1]; decide) ?_
  rw [hz1]
  have e : ((Array.range (1 * 32)).map fun x => (Value.agg ZIdT).cells[x % (Value.agg ZIdT).cells.size]!) = ZIdT := by kernel_rfl
  rw [e]
  have hcs : (Value.agg (d.map bv).toArray).cells = (d.map bv).toArray := rfl
  simp [Instr.fill, hcs, hd]
  exact hf
theorem does_build_id {o : Oper} {a : Act} {w : World} {R : Value → World → Prop} (d : List B8) (hd : d.length = 32) (parts : Array (Nat × Operand)) (ho : o.op = .buildSlice 31 1 parts)
    (hp : (parts.map fun (i, x) => (i, a.eval x)) = #[(0, .agg (d.map bv).toArray)]) (h : R (.slice (some ⟨w.heap.size, 0, none⟩) 1 1) (w.alloc (.cells (d.map bv).toArray 24))) : doesR Tryz.prog o a w R := by
  unfold doesR execOp
  simp only [ho, hp, Sem.run_bind, build_id d hd w, Result.andThen_ok]
  exact h
/-- A slice of one digest, made here. -/
def MadeId (C : Array Value) (v : Value) (w : World) : Prop := ∃ g, v = .slice (some ⟨g, 0, none⟩) 1 1 ∧ w.heap[g]? = some (.cells C 24 (0, 0))
theorem MadeId.stable (C : Array Value) (v : Value) (w w' : World) (h : MadeId C v w) (hs : Stp w w') : MadeId C v w' := by
  obtain ⟨g, e, hc⟩ := h
  exact ⟨g, e, heap_below hs hc⟩
theorem MadeId.cells {d : List B8} {g : Nat} {w : World} (h : w.heap[g]? = some (.cells (d.map bv).toArray 24 (0, 0))) : ∀ j u, (d.map bv)[j]? = some u → w.cell? ((⟨g, 0, none⟩ : Addr).add j) = some u := fun j u hu => by
  have e : (⟨g, 0, none⟩ : Addr).add j = ⟨g, j, none⟩ := by unfold Addr.add; by_cases hj : j = 0 <;> simp [hj]
  rw [e, cell_of_row _ _ _ _ _ _ h, List.getElem?_toArray]; exact hu
set_option maxRecDepth 100000 in
set_option maxHeartbeats 4000000 in
theorem path_any : ∀ (N : Nat) (ls : List (List B8)), ls.length ≤ N → ls.length ≤ 1000000 → (∀ xs ∈ ls, xs.length ≤ 1000000) → ∀ (A : Option Addr) (c : Nat) (z : Int) (w : World), Lst w A ls → ls.length ≤ c → Glob w →
    Calls Tryz.prog 48 #[.slice A ls.length c, .int .i64 z] w fun e w' => ∃ v, e = .returned v ∧ w'.ownsRow w.heap.size 24 32 v (pathZ ls z).length (idsV (pathZ ls z)) ∧ Below w.heap.size w w' := by
  have base : ∀ (ls : List (List B8)), ls.length ≤ 1000000 → ∀ (A : Option Addr) (c : Nat) (z : Int) (w : World), ¬ (2 ≤ ls.length ∧ 0 ≤ z ∧ z < ls.length) →
      Calls Tryz.prog 48 #[.slice A ls.length c, .int .i64 z] w fun e w' => ∃ v, e = .returned v ∧ w'.ownsRow w.heap.size 24 32 v (pathZ ls z).length (idsV (pathZ ls z)) ∧ Below w.heap.size w w' := by
    intro ls hm A c z w hbad
    have e0 : pathZ ls z = [] := by
      unfold pathZ
      split
      · rfl
      · exact pathD_none (by omega)
    rw [e0]
    clear e0
    by_cases hz : z < 0
    · go_enter Tryz.func48, Tryz.ntmps48
      go_wp2_with fail
      go_ret
      exact ⟨_, rfl, World.ownsRow_nil _ _ _ _, Below.refl _ _⟩
    · have t0 : decide (z < 0) = false := by rw [decide_eq_false_iff_not]; exact hz
      by_cases hzl : (ls.length : Int) ≤ z
      · have t1 : decide ((ls.length : Int) ≤ z) = true := by rw [decide_eq_true_eq]; exact hzl
        go_enter Tryz.func48, Tryz.ntmps48
        go_wp2_with fail
        go_ret
        exact ⟨_, rfl, World.ownsRow_nil _ _ _ _, Below.refl _ _⟩
      · have t1 : decide ((ls.length : Int) ≤ z) = false := by rw [decide_eq_false_iff_not]; exact hzl
        have h2 : ls.length < 2 := by omega
        have t2 : ((ls.length : Int) == 1) = true := by rw [beq_iff_eq]; omega
        go_enter Tryz.func48, Tryz.ntmps48
        go_wp2_with fail
        go_ret
        exact ⟨_, rfl, World.ownsRow_nil _ _ _ _, Below.refl _ _⟩
  intro N
  induction N with
  | zero =>
    intro ls hN hm h60 A c z w hL hc hG
    exact base ls hm A c z w (by omega)
  | succ N ih =>
    intro ls hN hm h60 A c z w hL hc hG
    obtain ⟨i0, hi, hz0, hz1, hz2⟩ := info_parts info_idT
    by_cases hbad : 2 ≤ ls.length ∧ 0 ≤ z ∧ z < ls.length
    · obtain ⟨h2, hz, hzl⟩ := hbad
      obtain ⟨k, rfl⟩ : ∃ k : Nat, z = (k : Int) := ⟨z.toNat, by omega⟩
      rw [pathZ_nat]
      have hk : k < ls.length := by omega
      have t0 : decide ((k : Int) < 0) = false := by rw [decide_eq_false_iff_not]; omega
      have t1 : decide ((ls.length : Int) ≤ (k : Int)) = false := by rw [decide_eq_false_iff_not]; omega
      have t2 : ((ls.length : Int) == 1) = false := beq_false_of_ne (by omega)
      have t3 : ¬ ls.length ≤ k := by omega
      have hh := hp_lt h2
      have hh1 := hp_pos ls.length
      have F := Lib.hid (fun w => firstOnes_any ls.length w h2 (by omega))
      have sh := slicel_hi A ls.length c (hp ls.length) (by omega) hc
      have sl := slicel_lo A ls.length c (hp ls.length) (by omega)
      have lk : (ls.take (hp ls.length)).length = hp ls.length := by simp; omega
      have ld : (ls.drop (hp ls.length)).length = ls.length - hp ls.length := by simp
      by_cases hkh : k < hp ls.length
      · have e1 := pathD_low h2 hkh
        have P1 := Lib.hid (fun (w : World) (hL : Lst w A ls) (hG : Glob w) => ih (ls.take (hp ls.length)) (by omega) (by omega) (fun xs hx => h60 xs (List.mem_of_mem_take hx)) A c (k : Int) w (hL.front _) (by omega) hG)
        have R2 := Lib.hid (fun (w : World) (hL : Lst w A ls) (hG : Glob w) => root_any N (ls.drop (hp ls.length)) (by omega) (by omega) (fun xs hx => h60 xs (List.mem_of_mem_drop hx)) (cutA A c (hp ls.length)) (c - hp ls.length) w (hL.cut c _ hc) (by omega) hG)
        rw [lk, pathZ_nat] at P1
        rw [ld] at R2
        have hml : (pathD (ls.take (hp ls.length)) k).length ≤ 1000000 := Nat.le_trans (pathD_size _ _ k (Nat.le_refl _)) (by omega)
        have hdl := rootD_len (ls.drop (hp ls.length))
        generalize pathD (ls.take (hp ls.length)) k = pd at *
        generalize rootD (ls.drop (hp ls.length)) = d at *
        have E1 := Lib.hid e1
        have HL := Lib.hid hL
        have HG := Lib.hid hG
        have HDL := Lib.hid hdl
        have hkI : decide ((k : Int) < (hp ls.length : Int)) = true := by rw [decide_eq_true_eq]; omega
        clear lk ld hL hG ih h60 e1 hdl 
        generalize hp ls.length = h at *
        go_enter Tryz.func48, Tryz.ntmps48
        go_wp2_with (go_at_call 79; refine (F.out _).mono ?_; rintro e w' ⟨rfl, rfl⟩)
        rename World => wb
        have HL1 := Lib.hid (show Lst wb.drew A ls from HL.out)
        have HG1 := Lib.hid (show Glob wb.drew from HG.out)
        refine wp_region_rel_tail 10 49 (by kernel_rfl) (by kernel_rfl) Stp [.one ?_, .one ?_, .one ?_, .one ?_, .rel (fun v w => w.ownsRow wb.heap.size 24 32 v pd.length (idsV pd)), .one ?_, .one ?_, .one ?_, .one ?_, .rel (MadeId (d.map bv).toArray)] (by kernel_rfl) rfl (by kernel_rfl) Stp.refl Stp.trans ⟨fun v w w' h1 h2 => own_below h1 h2, fun v w w' h1 h2 => MadeId.stable _ v w w' h1 h2, trivial⟩ ?main
        case main =>
        simp only [List.take_succ_cons, List.take_zero, List.drop_succ_cons, List.drop_zero]
        iterate 4
          refine wpR_one (A' := ?_) Stp.refl (by rfl) _ rfl 49 (by rfl) (by rfl) ?_ ?_ ?_
          rotate_left 1
          · simp only [Act.put, List.setIfInBounds_toArray, List.set_cons_zero, List.set_cons_succ]; rfl
          · intro w1 hs hf K hK
            go_big_quiet_op
            first
              | go_big_quiet_on
              | (refine ⟨_, fun _ _ => rfl, ?_⟩; go_big_quiet_on)
            rfl
        refine wpR_rel (A' := ?_) (by rfl) ?_ ?_ ?_
        · intro w1 hs hf
          have hg1 := glob_stp HG1.out hs
          have hl1 := lst_stp HL1.out hs
          refine does_call (w' := w1) (f := 48) (args := #[.slice A h c, .int .i64 (k : Int)]) (by kernel_rfl) ((P1.out w1 hl1 hg1).mono ?_)
          rintro e w3 ⟨v, rfl, ho, h3⟩
          exact ⟨v, rfl, World.ownsRow.mono ho (show wb.drew.heap.size ≤ w1.heap.size from Below.size hs), h3⟩
        rotate_left 1
        · intro x
          simp only [Act.put, List.setIfInBounds_toArray, List.set_cons_zero, List.set_cons_succ]; rfl
        intro x29
        iterate 3
          refine wpR_one (A' := ?_) Stp.refl (by rfl) _ rfl 49 (by rfl) (by rfl) ?_ ?_ ?_
          rotate_left 1
          · simp only [Act.put, List.setIfInBounds_toArray, List.set_cons_zero, List.set_cons_succ]; rfl
          · intro w1 hs hf K hK
            go_big_quiet_op
            first
              | go_big_quiet_on
              | (refine ⟨_, fun _ _ => rfl, ?_⟩; go_big_quiet_on)
            rfl
        refine wpR_one (A' := ?_) Stp.refl (by rfl) _ rfl 49 (by rfl) (by rfl) ?_ ?_ ?_
        rotate_left 1
        · simp only [Act.put, List.setIfInBounds_toArray, List.set_cons_zero, List.set_cons_succ]; rfl
        · intro w1 hs hf K hK
          have hg1 := Lib.hid (glob_stp HG1.out hs)
          have hl1 := Lib.hid (lst_stp HL1.out hs)
          go_big_quiet_op
          apply Exists.intro
          refine ⟨fun w2 h2 => ?_, ?_⟩
          · refine (R2.out w2 (lst_stp hl1.out h2) (glob_stp hg1.out h2)).mono ?_
            rintro e w3 ⟨rfl, h3⟩
            exact ⟨rfl, Stp.trans _ _ _ h2 h3⟩
          · go_big_quiet_on
            rfl
        refine wpR_rel (A' := ?_) (by rfl) ?_ ?_ ?_
        · intro w1 hs hf
          exact does_build_id d HDL.out _ rfl (by kernel_rfl) ⟨⟨_, rfl, heap_alloc_new w1 _⟩, (Below.refl _ _).alloc (Nat.le_refl _) _⟩
        rotate_left 1
        · intro x
          simp only [Act.put, List.setIfInBounds_toArray, List.set_cons_zero, List.set_cons_succ]; rfl
        intro x34
        intro w9 hs hf
        obtain ⟨⟨g34, rfl, h34⟩, h29, -⟩ := hf
        have HB9 := Lib.hid (show Below wb.heap.size wb w9 from stp_start hs (Below.refl _ _))
        have hs9 : wb.heap.size ≤ w9.heap.size := HB9.out.size
        refine wpList_append_own (o := ⟨some 35, _, _, _, _, _⟩) w9 rfl _ _ 31 rfl wb.heap.size 24 i0 (.agg ZIdT) 32 32 Tryz.underlying31 hi hz0 hz1 hz2 (by kernel_rfl) (by decide) x29 pd.length (idsV pd) rfl h29 ⟨g34, 0, none⟩ 1 1 (d.map bv) rfl (by rw [List.length_map, HDL.out]) (MadeId.cells h34) (bv_one _) ?_ ?_ ?_ ?_
        · unfold maxLen; omega
        · omega
        · omega
        intro v' w' h3 h4 _
        have HO := Lib.hid h3
        have HBt := Lib.hid (HB9.out.grown h4 hs9 (fun k hk => (h29.lt k hk).1))
        clear h3 h4 h34 h29 hs
        go_wp2_with fail
        go_ret
        refine ⟨v', rfl, ?_, HBt.out⟩
        rw [E1.out, List.length_append, idsV_append, idsV_one]
        exact HO.out
      · have e1 := pathD_high h2 hk hkh
        have P1 := Lib.hid (fun (w : World) (hL : Lst w A ls) (hG : Glob w) => ih (ls.drop (hp ls.length)) (by omega) (by omega) (fun xs hx => h60 xs (List.mem_of_mem_drop hx)) (cutA A c (hp ls.length)) (c - hp ls.length) (((k - hp ls.length : Nat)) : Int) w (hL.cut c _ hc) (by omega) hG)
        have R2 := Lib.hid (fun (w : World) (hL : Lst w A ls) (hG : Glob w) => root_any N (ls.take (hp ls.length)) (by omega) (by omega) (fun xs hx => h60 xs (List.mem_of_mem_take hx)) A c w (hL.front _) (by omega) hG)
        rw [ld, pathZ_nat] at P1
        rw [lk] at R2
        have hml : (pathD (ls.drop (hp ls.length)) (k - hp ls.length)).length ≤ 1000000 := Nat.le_trans (pathD_size _ _ _ (Nat.le_refl _)) (by omega)
        have hdl := rootD_len (ls.take (hp ls.length))
        have hsub : ((k - hp ls.length : Nat) : Int) = (k : Int) - (hp ls.length : Int) := by omega
        rw [hsub] at P1
        generalize pathD (ls.drop (hp ls.length)) (k - hp ls.length) = pd at *
        generalize rootD (ls.take (hp ls.length)) = d at *
        have E1 := Lib.hid e1
        have HL := Lib.hid hL
        have HG := Lib.hid hG
        have HDL := Lib.hid hdl
        have hkI : decide ((k : Int) < (hp ls.length : Int)) = false := by rw [decide_eq_false_iff_not]; omega
        clear lk ld hL hG ih h60 e1 hdl hsub
        generalize hp ls.length = h at *
        go_enter Tryz.func48, Tryz.ntmps48
        go_wp2_with (go_at_call 79; refine (F.out _).mono ?_; rintro e w' ⟨rfl, rfl⟩)
        rename World => wb
        have HL1 := Lib.hid (show Lst wb.drew A ls from HL.out)
        have HG1 := Lib.hid (show Glob wb.drew from HG.out)
        refine wp_region_rel_tail 12 49 (by kernel_rfl) (by kernel_rfl) Stp [.one ?_, .one ?_, .one ?_, .one ?_, .one ?_, .one ?_, .rel (fun v w => w.ownsRow wb.heap.size 24 32 v pd.length (idsV pd)), .one ?_, .one ?_, .one ?_, .one ?_, .rel (MadeId (d.map bv).toArray)] (by kernel_rfl) rfl (by kernel_rfl) Stp.refl Stp.trans ⟨fun v w w' h1 h2 => own_below h1 h2, fun v w w' h1 h2 => MadeId.stable _ v w w' h1 h2, trivial⟩ ?main
        case main =>
        simp only [List.take_succ_cons, List.take_zero, List.drop_succ_cons, List.drop_zero]
        iterate 6
          refine wpR_one (A' := ?_) Stp.refl (by rfl) _ rfl 49 (by rfl) (by rfl) ?_ ?_ ?_
          rotate_left 1
          · simp only [Act.put, List.setIfInBounds_toArray, List.set_cons_zero, List.set_cons_succ]; rfl
          · intro w1 hs hf K hK
            go_big_quiet_op
            first
              | go_big_quiet_on
              | (refine ⟨_, fun _ _ => rfl, ?_⟩; go_big_quiet_on)
            rfl
        refine wpR_rel (A' := ?_) (by rfl) ?_ ?_ ?_
        · intro w1 hs hf
          have hg1 := glob_stp HG1.out hs
          have hl1 := lst_stp HL1.out hs
          refine does_call (w' := w1) (f := 48) (args := #[.slice (cutA A c h) (ls.length - h) (c - h), .int .i64 ((k : Int) - (h : Int))]) (by kernel_rfl) ((P1.out w1 hl1 hg1).mono ?_)
          rintro e w3 ⟨v, rfl, ho, h3⟩
          exact ⟨v, rfl, World.ownsRow.mono ho (show wb.drew.heap.size ≤ w1.heap.size from Below.size hs), h3⟩
        rotate_left 1
        · intro x
          simp only [Act.put, List.setIfInBounds_toArray, List.set_cons_zero, List.set_cons_succ]; rfl
        intro x29
        iterate 3
          refine wpR_one (A' := ?_) Stp.refl (by rfl) _ rfl 49 (by rfl) (by rfl) ?_ ?_ ?_
          rotate_left 1
          · simp only [Act.put, List.setIfInBounds_toArray, List.set_cons_zero, List.set_cons_succ]; rfl
          · intro w1 hs hf K hK
            go_big_quiet_op
            first
              | go_big_quiet_on
              | (refine ⟨_, fun _ _ => rfl, ?_⟩; go_big_quiet_on)
            rfl
        refine wpR_one (A' := ?_) Stp.refl (by rfl) _ rfl 49 (by rfl) (by rfl) ?_ ?_ ?_
        rotate_left 1
        · simp only [Act.put, List.setIfInBounds_toArray, List.set_cons_zero, List.set_cons_succ]; rfl
        · intro w1 hs hf K hK
          have hg1 := Lib.hid (glob_stp HG1.out hs)
          have hl1 := Lib.hid (lst_stp HL1.out hs)
          go_big_quiet_op
          apply Exists.intro
          refine ⟨fun w2 h2 => ?_, ?_⟩
          · refine (R2.out w2 (lst_stp hl1.out h2) (glob_stp hg1.out h2)).mono ?_
            rintro e w3 ⟨rfl, h3⟩
            exact ⟨rfl, Stp.trans _ _ _ h2 h3⟩
          · go_big_quiet_on
            rfl
        refine wpR_rel (A' := ?_) (by rfl) ?_ ?_ ?_
        · intro w1 hs hf
          exact does_build_id d HDL.out _ rfl (by kernel_rfl) ⟨⟨_, rfl, heap_alloc_new w1 _⟩, (Below.refl _ _).alloc (Nat.le_refl _) _⟩
        rotate_left 1
        · intro x
          simp only [Act.put, List.setIfInBounds_toArray, List.set_cons_zero, List.set_cons_succ]; rfl
        intro x34
        intro w9 hs hf
        obtain ⟨⟨g34, rfl, h34⟩, h29, -⟩ := hf
        have HB9 := Lib.hid (show Below wb.heap.size wb w9 from stp_start hs (Below.refl _ _))
        have hs9 : wb.heap.size ≤ w9.heap.size := HB9.out.size
        refine wpList_append_own (o := ⟨some 48, _, _, _, _, _⟩) w9 rfl _ _ 31 rfl wb.heap.size 24 i0 (.agg ZIdT) 32 32 Tryz.underlying31 hi hz0 hz1 hz2 (by kernel_rfl) (by decide) x29 pd.length (idsV pd) rfl h29 ⟨g34, 0, none⟩ 1 1 (d.map bv) rfl (by rw [List.length_map, HDL.out]) (MadeId.cells h34) (bv_one _) ?_ ?_ ?_ ?_
        · unfold maxLen; omega
        · omega
        · omega
        intro v' w' h3 h4 _
        have HO := Lib.hid h3
        have HBt := Lib.hid (HB9.out.grown h4 hs9 (fun k hk => (h29.lt k hk).1))
        clear h3 h4 h34 h29 hs
        go_wp2_with fail
        go_ret
        refine ⟨v', rfl, ?_, HBt.out⟩
        rw [E1.out, List.length_append, idsV_append, idsV_one]
        exact HO.out
    · exact base ls hm A c z w hbad
end
end Go.Proofs.YthoaaieiiokcmaaGreatDoor
