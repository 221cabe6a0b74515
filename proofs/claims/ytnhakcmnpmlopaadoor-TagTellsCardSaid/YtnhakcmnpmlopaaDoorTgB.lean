/- The contract of the code's 'turned'. -/
import Derived.Test.YtnhakcmnpmlopaaDoorTgA
set_option linter.unusedVariables false
namespace Go.Proofs.YtnhakcmnpmlopaaDoor
open Go.RowKit
def mixT (x : B8) (l : List B8) (k : Nat) : List B8 := (l.take k).map (· ^^^ x) ++ l.drop k
theorem mixT_len (x : B8) (l : List B8) (k : Nat) : (mixT x l k).length = l.length := by simp [mixT]; omega
theorem mixT_zero (x : B8) (l : List B8) : mixT x l 0 = l := by simp [mixT]
theorem mixT_end (x : B8) (l : List B8) (k : Nat) (h : l.length ≤ k) : mixT x l k = turnK x l := by unfold mixT turnK; rw [List.take_of_length_le h, List.drop_eq_nil_of_le h, List.append_nil]
theorem mixT_at (x : B8) (l : List B8) (k : Nat) (h : k < l.length) : (mixT x l k)[k]? = some l[k] := by
  unfold mixT
  rw [List.getElem?_append_right (by simp; omega), List.length_map, List.length_take, Nat.min_eq_left (by omega), Nat.sub_self, List.getElem?_drop, Nat.add_zero, List.getElem?_eq_getElem h]
theorem mixT_set (x : B8) (l : List B8) (k : Nat) (h : k < l.length) : ((mixT x l k).map bv).toArray.setIfInBounds k (bv (l[k] ^^^ x)) = ((mixT x l (k + 1)).map bv).toArray := by
  have e : (mixT x l k).set k (l[k] ^^^ x) = mixT x l (k + 1) := by
    unfold mixT
    rw [List.set_append_right _ _ (by rw [List.length_map, List.length_take]; exact Nat.min_le_left _ _), List.length_map, List.length_take, Nat.min_eq_left (by omega), Nat.sub_self, List.drop_eq_getElem_cons h, List.set_cons_zero, List.take_succ_eq_append_getElem h, List.map_append]
    simp
  rw [← e, List.setIfInBounds_toArray, List.map_set]
set_option maxRecDepth 100000 in
set_option maxHeartbeats 2000000 in
theorem tturned_any (l : List B8) (x : B8) (w : World) (hl : l.length = 64) :
    Calls Tryd.prog 19 #[.agg (l.map bv).toArray, .int .u8 (x.toNat : Int)] w fun e w' => e = .returned (.agg ((turnK x l).map bv).toArray) ∧ Below w.heap.size w w' := by
  obtain ⟨C, hC⟩ : ∃ C, C = ((turnK x l).map bv).toArray := ⟨_, rfl⟩
  have hC64 : C.size = 64 := by rw [hC]; simp [turnK_len, hl]
  have H3 := Lib.hid (show C.all (·.oneCell') = true by rw [hC]; exact bvs_one _)
  have H1 := Lib.hid (show (Tryd.prog.info? 40).map (·.size) = some C.size by rw [hC64]; kernel_rfl)
  have H2 := Lib.hid (show Z64.size = C.size by rw [hC64]; rfl)
  have HC := Lib.hid hC
  rw [← hC]
  obtain ⟨L, hL⟩ : ∃ L, L = (l.map bv).toArray := ⟨_, rfl⟩
  rw [← hL]
  obtain ⟨w1, hw1⟩ : ∃ w1, w1 = (w.alloc (.cells L 40)).alloc (.cells Z64 40) := ⟨_, rfl⟩
  have HB1 := Lib.hid (show Below w.heap.size w w1 by rw [hw1]; exact ((Below.refl _ _).alloc (Nat.le_refl _) _).alloc (by simp) _)
  have HS1 := Lib.hid (show w1.heap.size = w.heap.size + 2 by rw [hw1]; simp)
  have HX1 := Lib.hid (show w1.heap[w.heap.size]? = some (.cells ((mixT x l 0).map bv).toArray 40 (0, 0)) by rw [hw1, mixT_zero, ← hL]; exact heap_alloc2_old w _ _)
  have HR1 := Lib.hid (show w1.heap[w.heap.size + 1]? = some (.cells Z64 40 (0, 0)) by rw [hw1]; exact heap_alloc2_new w _ _)
  have HL := Lib.hid hl
  clear hC hC64 hL hl
  go_enter Tryd.func19, Tryd.ntmps19
  go_upto_region 2 with fail
  change Code.wp _ _ _ _ ((w.alloc (.cells L 40)).alloc (.cells Z64 40))
  rw [← hw1]
  clear hw1
  go_wp2
  go_loopw [5, 6] (fun _ i wr => ∃ k : Nat, k ≤ 64 ∧ i = .int .i64 k ∧ wr.heap[w.heap.size]? = some (.cells ((mixT x l k).map bv).toArray 40 (0, 0)) ∧ w1.grownBy wr (some w.heap.size)) (fun _ i _ => 64 - (intOf i).toNat)
  case atStart => exact ⟨0, Nat.zero_le _, rfl, HX1.out, grown_refl _ _⟩
  case round =>
    obtain ⟨k, hk, rfl, hg, hb⟩ := hrel
    have HG := Lib.hid hg
    have HB := Lib.hid hb
    clear hb
    by_cases hlt : k < 64
    · have hlt2 : k < l.length := by rw [HL.out]; exact hlt
      have hcell : wr.cell? ⟨w.heap.size, k, none⟩ = some (bv l[k]) := by
        rw [cell_of_row wr _ _ _ _ _ hg, List.getElem?_toArray, List.getElem?_map, mixT_at x l k hlt2]; rfl
      have hfr : wr.frozen? ⟨w.heap.size, k, none⟩ = false := frozen_of_row wr _ _ _ _ hg
      have HS := Lib.hid (show ∀ v, v = bv (l[k] ^^^ x) → (wr.setCell ⟨w.heap.size, k, none⟩ v).heap[w.heap.size]? = some (.cells ((mixT x l (k + 1)).map bv).toArray 40 (0, 0)) from fun v hv => by
        rw [hv, heap_setCell_same _ _ k _ _ _ HG.out, mixT_set x l k hlt2])
      clear hg
      generalize l[k] = y at *
      unfold bv at hcell
      go_wp2
      go_roundw
      case rel => exact ⟨k + 1, by omega, by go_num, HS.out _ (by rw [(bbits y x).2.2]; rfl), grown_set HB.out _ _⟩
      case measure => simp [intOf]; omega
    · rw [mixT_end x l k (by rw [HL.out]; omega), ← HC.out] at hg
      have HG2 := Lib.hid hg
      have HR2 := Lib.hid ((HB.out.block (w.heap.size + 1) (by rw [HS1.out]; omega) (by intro e; injection e; omega)).trans HR1.out)
      have HB2 := Lib.hid (HB1.out.grown HB.out HB1.out.size (fun k hk => by injection hk with hk; omega))
      clear hg
      go_wp2_with (first
        | (refine wpList_load_row rfl _ _ rfl w.heap.size rfl _ C (0, 0) _ HG2.out Tryd.underlying40 rfl H1.out ?_)
        | (refine wpList_store_row rfl _ _ _ rfl (w.heap.size + 1) C rfl rfl _ Z64 HR2.out H1.out H2.out H3.out ?_))
      have hA2 := setRow_heap wr (w.heap.size + 1) Z64 C 40 (0, 0) HR2.out
      refine bodyPost_ret (v := .agg C) ?_ rfl ⟨rfl, below_setRow HB2.out (by omega) C⟩
      exact results_cell_row Tryd.results19 _ _ (w.heap.size + 1) _ C (0, 0) _ rfl hA2 Tryd.underlying40 rfl H1.out
end Go.Proofs.YtnhakcmnpmlopaaDoor
