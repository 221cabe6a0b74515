/- Tags as plain functions; the contracts of the code's 'filled' and 'turned'. -/
import Derived.Test.YtnhakcmnpmlopaaDoorShaT1
import Derived.Test.YtnhakcmnpmlopaaDoorTail
import Derived.Test.YtnhakcmnpmlopaaDoorIdEq2
import Derived.Test.YtnhakcmnpmlopaaDoorRowLoad2
set_option linter.unusedVariables false
namespace Go.Proofs.YtnhakcmnpmlopaaDoor
open Go.RowKit
/- A tag, plainly. -/
def keyK (key : List B8) : List B8 := if 64 < key.length then dig key else key
def padK (k : List B8) : List B8 := k ++ zeros (64 - k.length)
def fillK (key : List B8) : List B8 := padK (keyK key)
def turnK (x : B8) (l : List B8) : List B8 := l.map (· ^^^ x)
def tagD (key b : List B8) : List B8 := dig (turnK 92 (fillK key) ++ dig (turnK 54 (fillK key) ++ b))
theorem keyK_le (key : List B8) : (keyK key).length ≤ 64 := by
  unfold keyK; split
  · rw [dig_len]; omega
  · omega
theorem padK_len (k : List B8) (h : k.length ≤ 64) : (padK k).length = 64 := by simp [padK, zeros_len]; omega
theorem fillK_len (key : List B8) : (fillK key).length = 64 := padK_len _ (keyK_le key)
theorem turnK_len (x : B8) (l : List B8) : (turnK x l).length = l.length := by simp [turnK]
theorem tagD_len (key b : List B8) : (tagD key b).length = 32 := dig_len _
abbrev Z64 : Array Value := ((zeros 64).map bv).toArray
abbrev ZId : Array Value := ((zeros 32).map bv).toArray
theorem heap_below {w w' : World} (hb : Below w.heap.size w w') {g : Nat} {o : Obj} (h : w.heap[g]? = some o) : w'.heap[g]? = some o := (hb.block g (lt_of_block h)).trans h
theorem glob_below {w w' : World} {B : Nat} (h : Glob w) (hb : Below B w w') (hB : w.heap.size ≤ B) : Glob w' := h.below (hb.mono hB) h.1
theorem slice_64 (a : Addr) (w : World) : (Instr.sliceAt 40 (.pointer (some a)) none none none).run Tryd.prog w = .ok (.slice (some a) 64 64) w := by
  have e : Tryd.prog.arrayLen 40 = 64 := by kernel_rfl
  rw [run_sliceAt_array_all (P := Tryd.prog) w 40 a (by kernel_rfl)]
  rw [show Tryd.prog.elem 40 = 5 by kernel_rfl, size_u8, e]
  simp [Result.andThen, slicedAt, Addr.add]
theorem slice_32 (a : Addr) (w : World) : (Instr.sliceAt 24 (.pointer (some a)) none none none).run Tryd.prog w = .ok (.slice (some a) 32 32) w := by
  have e : Tryd.prog.arrayLen 24 = 32 := by kernel_rfl
  rw [run_sliceAt_array_all (P := Tryd.prog) w 24 a (by kernel_rfl)]
  rw [show Tryd.prog.elem 24 = 5 by kernel_rfl, size_u8, e]
  simp [Result.andThen, slicedAt, Addr.add]
theorem splice_pad (k : List B8) (h : k.length ≤ 64) : (splice ((zeros 64).map bv) 0 (k.map bv)).toArray = ((padK k).map bv).toArray := by
  unfold splice padK
  rw [List.take_zero, List.nil_append, List.map_append, List.length_map, Nat.zero_add]
  simp only [zeros, List.map_replicate, List.drop_replicate]
theorem bts_row {w : World} {g : Nat} {xs : List B8} {t : TypeId} {fr : Nat × Nat} (h : w.heap[g]? = some (.cells (xs.map bv).toArray t fr)) : Bts w (some ⟨g, 0, none⟩) xs := fun j u hu => by
  refine ⟨_, rfl, ?_⟩
  rw [add_row, cell_of_row w g j _ _ _ h, List.getElem?_toArray]; exact hu
theorem bts_copy {w : World} {A : Option Addr} {xs : List B8} (h : Bts w A xs) (hp : 0 < (xs.map bv).length) : ∃ ad, A = some ad ∧ ∀ j v, (xs.map bv)[j]? = some v → w.cell? (ad.add j) = some v := by
  obtain ⟨ad, e, -⟩ := h 0 _ (List.getElem?_eq_getElem hp)
  refine ⟨ad, e, fun j v hj => ?_⟩
  obtain ⟨ad', e', hc⟩ := h j v hj
  rw [e] at e'; injection e' with e'; subst e'; exact hc
set_option maxRecDepth 100000 in
set_option maxHeartbeats 2000000 in
theorem filled_any (A : Option Addr) (c : Nat) (key : List B8) (w : World) (hB : Bts w A key) (hc : key.length ≤ c) (hG : Glob w) (hk : key.length ≤ 1000000) :
    Calls Tryd.prog 18 #[.slice A key.length c] w fun e w' => e = .returned (.agg ((fillK key).map bv).toArray) ∧ Below w.heap.size w w' := by
  obtain ⟨C, hC⟩ : ∃ C, C = ((fillK key).map bv).toArray := ⟨_, rfl⟩
  have hC64 : C.size = 64 := by rw [hC]; simp [fillK_len]
  have H3 := Lib.hid (show C.all (·.oneCell') = true by rw [hC]; exact bvs_one _)
  have H1 := Lib.hid (show (Tryd.prog.info? 40).map (·.size) = some C.size by rw [hC64]; kernel_rfl)
  have H2 := Lib.hid (show Z64.size = C.size by rw [hC64]; rfl)
  obtain ⟨w1, hw1⟩ : ∃ w1, w1 = (w.alloc (.cells Z64 40)).alloc (.cells Z64 40) := ⟨_, rfl⟩
  have hb1 : Below w.heap.size w w1 := by rw [hw1]; exact ((Below.refl _ _).alloc (Nat.le_refl _) _).alloc (by simp) _
  have HB1 := Lib.hid hb1
  have HS1 := Lib.hid (show w1.heap.size = w.heap.size + 2 by rw [hw1]; simp)
  have HR1 := Lib.hid (show w1.heap[w.heap.size]? = some (.cells Z64 40 (0, 0)) by rw [hw1]; exact heap_alloc2_old w _ _)
  have HF1 := Lib.hid (show w1.heap[w.heap.size + 1]? = some (.cells Z64 40 (0, 0)) by rw [hw1]; exact heap_alloc2_new w _ _)
  have HK1 := Lib.hid (hB.below hb1)
  have HG1 := Lib.hid (glob_below hG hb1 (Nat.le_refl _))
  rw [← hC]
  have sl := slice_64
  have sl2 := slice_32
  by_cases hlong : 64 < key.length
  · have hk1 : keyK key = dig key := by unfold keyK; rw [if_pos hlong]
    have HC := Lib.hid (show C = (splice ((zeros 64).map bv) 0 ((dig key).map bv)).toArray by rw [splice_pad _ (by rw [dig_len]; omega), hC]; unfold fillK; rw [hk1])
    obtain ⟨D, hD⟩ : ∃ D, D = ((dig key).map bv).toArray := ⟨_, rfl⟩
    have hD32 : D.size = 32 := by rw [hD]; simp [dig_len]
    have D3 := Lib.hid (show D.all (·.oneCell') = true by rw [hD]; exact bvs_one _)
    have D1 := Lib.hid (show (Tryd.prog.info? 24).map (·.size) = some D.size by rw [hD32]; kernel_rfl)
    have D2 := Lib.hid (show ZId.size = D.size by rw [hD32]; rfl)
    have S1 := Lib.hid (fun (g : Nat) (w : World) (hL : Lst w (some ⟨g, 0, none⟩) [key]) (hG : Glob w) => sum_any (some ⟨g, 0, none⟩) 1 _ w hL hG (by simp; omega) (by simp))
    rw [show [key].flatten = key by simp, ← hD] at S1
    have HD := Lib.hid hD
    clear hb1 hB hG hC hC64 hk1 hD hD32
    go_enter Tryd.func18, Tryd.ntmps18
    go_upto_region 2 with fail
    change Code.wp _ _ _ _ ((w.alloc (.cells Z64 40)).alloc (.cells Z64 40))
    rw [← hw1]
    clear hw1
    go_wp2_with (go_at_call 20; refine stop ?_)
    unfold Stop
    obtain ⟨w2, hw2⟩ : ∃ w2, w2 = w1.alloc (.cells #[.slice A key.length c] 22) := ⟨_, rfl⟩
    have hb2 : Below w1.heap.size w1 w2 := by rw [hw2]; exact (Below.refl _ _).alloc (Nat.le_refl _) _
    have hL : Lst w2 (some ⟨w1.heap.size, 0, none⟩) [key] := fun i xs hi => by
      match i, hi with
      | 0, hi =>
        obtain rfl : key = xs := by simpa using hi
        refine ⟨_, A, c, rfl, ?_, hc, HK1.out.below hb2⟩
        rw [add_row, hw2, cell_of_row _ _ _ _ _ _ (heap_alloc_new w1 _)]; rfl
    rw [← hw2]
    clear hw2
    refine (S1.out _ w2 hL (glob_below HG1.out hb2 (Nat.le_refl _))).mono ?_
    rintro e w3 ⟨rfl, hb3⟩
    have hb13 : Below w1.heap.size w1 w3 := hb2.trans (hb3.mono hb2.size)
    have hb34 : Below w3.heap.size w3 (w3.alloc (.cells ZId 24)) := (Below.refl _ _).alloc (Nat.le_refl _) _
    have HZ4 := Lib.hid (show (w3.alloc (.cells ZId 24)).heap[w3.heap.size]? = some (.cells ZId 24 (0, 0)) from heap_alloc_new _ _)
    have hb14 : Below w1.heap.size w1 (w3.alloc (.cells ZId 24)) := hb13.trans (hb34.mono hb13.size)
    have hb15 := Lib.hid (below_setRow hb14 hb13.size D)
    have HD5 := Lib.hid (show ((w3.alloc (.cells ZId 24)).setRow w3.heap.size D).heap[w3.heap.size]? = some (.cells ((dig key).map bv).toArray 24 (0, 0)) by rw [← HD.out]; exact setRow_heap _ w3.heap.size ZId D _ _ HZ4.out)
    have hs3 : w.heap.size + 2 ≤ w3.heap.size := by have := hb13.size; rw [HS1.out] at this; exact this
    clear hL hb2 hb3 hb34 hb13 hb14
    go_wp2_with (refine wpList_store_row rfl _ _ _ rfl w3.heap.size D rfl rfl _ ZId HZ4.out D1.out D2.out D3.out ?_; refine stop ?_)
    unfold Stop
    obtain ⟨w5, hw5⟩ : ∃ w5, w5 = (w3.alloc (.cells ZId 24)).setRow w3.heap.size D := ⟨_, rfl⟩
    change wpList _ _ _ _ _ ((w3.alloc (.cells ZId 24)).setRow w3.heap.size D)
    rw [← hw5] at hb15 HD5 ⊢
    clear hw5 HZ4
    have F5 := Lib.hid (heap_below hb15.out HF1.out)
    have R5 := Lib.hid (heap_below hb15.out HR1.out)
    have B5 := Lib.hid (HB1.out.trans (hb15.out.mono HB1.out.size))
    go_upto_region 5 with fail
    go_step
    iterate 6 go_step
    refine wpList_copy_splice (o := ⟨some 14, _, _, _, _, _⟩) rfl _ _ _ _ rfl 5 Tryd.underlying22 (by kernel_rfl) _ _ 64 64 32 32 rfl rfl (w.heap.size + 1) 0 ((zeros 64).map bv) _ F5.out ((dig key).map bv) (by rw [List.length_map, dig_len]; rfl) (fun hp => ⟨rfl, bts_copy (bts_row HD5.out) hp⟩) (by simp [dig_len, zeros_len]) (bv_one _) (w.heap.size + 1) w5 (Below.refl _ _) (Nat.le_refl _) ?_
    intro w6 HF6 hb6
    rw [← HC.out] at HF6
    have HR6 := Lib.hid ((hb6.block w.heap.size (by omega)).trans R5.out)
    have HB6 := Lib.hid (B5.out.trans (hb6.mono (by omega)))
    clear hb6
    go_wp2_with (first
      | (refine wpList_load_row rfl _ _ rfl (w.heap.size + 1) rfl _ C (0, 0) _ HF6.out Tryd.underlying40 rfl H1.out ?_)
      | (refine wpList_store_row rfl _ _ _ rfl w.heap.size C rfl rfl _ Z64 HR6.out H1.out H2.out H3.out ?_))
    have hA2 := setRow_heap w6 w.heap.size Z64 C 40 (0, 0) HR6.out
    refine bodyPost_ret (v := .agg C) ?_ rfl ⟨rfl, below_setRow HB6.out (Nat.le_refl _) C⟩
    exact results_cell_row Tryd.results18 _ _ w.heap.size _ C (0, 0) _ rfl hA2 Tryd.underlying40 rfl H1.out
  · have hk1 : keyK key = key := by unfold keyK; rw [if_neg hlong]
    have HC := Lib.hid (show C = (splice ((zeros 64).map bv) 0 (key.map bv)).toArray by rw [splice_pad _ (by omega), hC]; unfold fillK; rw [hk1])
    have hmin : (key.map bv).length = Nat.min key.length 64 := by rw [List.length_map]; exact (Nat.min_eq_left (by omega)).symm
    have HM := Lib.hid hmin
    clear hb1 hB hG hC hC64 hk1 hmin
    go_enter Tryd.func18, Tryd.ntmps18
    go_upto_region 2 with fail
    change Code.wp _ _ _ _ ((w.alloc (.cells Z64 40)).alloc (.cells Z64 40))
    rw [← hw1]
    clear hw1
    go_upto_region 5 with fail
    go_step
    iterate 6 go_step
    refine wpList_copy_splice (o := ⟨some 14, _, _, _, _, _⟩) rfl _ _ _ _ rfl 5 Tryd.underlying22 (by kernel_rfl) _ _ 64 64 key.length c rfl rfl (w.heap.size + 1) 0 ((zeros 64).map bv) _ HF1.out (key.map bv) HM.out (fun hp => ⟨rfl, bts_copy HK1.out hp⟩) (by simp [zeros_len]; omega) (bv_one _) (w.heap.size + 1) w1 (Below.refl _ _) (Nat.le_refl _) ?_
    intro w6 HF6 hb6
    rw [← HC.out] at HF6
    have HR6 := Lib.hid ((hb6.block w.heap.size (by omega)).trans HR1.out)
    have HB6 := Lib.hid (HB1.out.trans (hb6.mono (by omega)))
    clear hb6
    go_wp2_with (first
      | (refine wpList_load_row rfl _ _ rfl (w.heap.size + 1) rfl _ C (0, 0) _ HF6.out Tryd.underlying40 rfl H1.out ?_)
      | (refine wpList_store_row rfl _ _ _ rfl w.heap.size C rfl rfl _ Z64 HR6.out H1.out H2.out H3.out ?_))
    have hA2 := setRow_heap w6 w.heap.size Z64 C 40 (0, 0) HR6.out
    refine bodyPost_ret (v := .agg C) ?_ rfl ⟨rfl, below_setRow HB6.out (Nat.le_refl _) C⟩
    exact results_cell_row Tryd.results18 _ _ w.heap.size _ C (0, 0) _ rfl hA2 Tryd.underlying40 rfl H1.out
end Go.Proofs.YtnhakcmnpmlopaaDoor
