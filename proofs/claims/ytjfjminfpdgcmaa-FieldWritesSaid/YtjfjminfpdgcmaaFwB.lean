/- The contracts of 'kind' and of the document's 'Num' and 'Put'. -/
import Derived.Test.YtjfjminfpdgcmaaFwA
set_option linter.unusedVariables false
namespace Go.Proofs.Ytjfjminfpdgcmaa
open Go.RowKit
def Fd.kd (f : Fd) : Fd := { f with k := f.k % 3 }
theorem Fd.kd_cells (f : Fd) : (f.cells.toArray).setIfInBounds 0 (.int .i64 (f.k % 3)) = f.kd.cells.toArray := by
  simp [Fd.cells, Fd.kd]
theorem Fd.one (f : Fd) : f.cells.toArray.all (·.oneCell') = true := by
  rw [Array.all_eq_true_iff_forall_mem]
  intro u hu
  simp only [Fd.cells, List.mem_toArray, List.mem_append, List.mem_cons, List.not_mem_nil, or_false, List.mem_map] at hu
  rcases hu with (rfl | rfl | rfl) | ⟨x, -, rfl⟩ <;> rfl
theorem pick_any (k : Int) (w : World) (h0 : -9223372036854775808 ≤ k) (h1 : k < 9223372036854775808) :
    Calls Try.prog 21 #[.int .i64 k, .int .i64 3] w fun e w' => e = .returned (.int .i64 (k % 3)) ∧ w' = w := by
  have hm : k.tmod 3 = (if k.tmod 3 < 0 then k % 3 - 3 else k % 3) ∧ -3 < k.tmod 3 ∧ k.tmod 3 < 3 := by
    by_cases h : k < 0
    · obtain ⟨m, rfl⟩ : ∃ m : Nat, k = -(m : Int) := ⟨k.natAbs, by omega⟩
      rw [Int.neg_tmod, Int.tmod_eq_emod_of_nonneg (by omega)]
      refine ⟨?_, by omega, by omega⟩
      split <;> omega
    · rw [Int.tmod_eq_emod_of_nonneg (by omega)]
      refine ⟨?_, by omega, by omega⟩
      split <;> omega
  obtain ⟨z, hz⟩ : ∃ z, z = k.tmod 3 := ⟨_, rfl⟩
  have hz2 := hz.symm
  rw [← hz] at hm
  have HM := Lib.hid hm
  have hb : -3 < z ∧ z < 3 := hm.2
  clear hz hm
  by_cases hlt : z < 0
  · go_enter Try.func21, Try.ntmps21
    go_wp2
    go_ret
    have := HM.out.1
    rw [if_pos hlt] at this
    exact ⟨congrArg (fun q => Ending.returned (.int .i64 q)) (by omega), rfl⟩
  · go_enter Try.func21, Try.ntmps21
    go_wp2
    go_ret
    have := HM.out.1
    rw [if_neg (by omega)] at this
    exact ⟨congrArg (fun q => Ending.returned (.int .i64 q)) (by omega), rfl⟩
theorem zero_field (w : World) : (zeroValue 31).run Try.prog w = .ok (.agg (Fd.cells ⟨0, 0, none, 0, [], zeros 32⟩).toArray) w := by kernel_rfl
def Z35 : Array Value := (Fd.cells ⟨0, 0, none, 0, [], zeros 32⟩).toArray
set_option maxHeartbeats 1000000 in
theorem kind_any (f : Fd) (w : World) (h0 : -9223372036854775808 ≤ f.k) (h1 : f.k < 9223372036854775808) (hd : f.d.length = 32) :
    Calls Try.prog 8 #[.agg f.cells.toArray] w fun e w' => e = .returned (.agg f.kd.cells.toArray) ∧ Turn (fun _ => False) w w' := by
  obtain ⟨C, hC⟩ : ∃ C, C = f.cells.toArray := ⟨_, rfl⟩
  obtain ⟨D, hD⟩ : ∃ D, D = f.kd.cells.toArray := ⟨_, rfl⟩
  have hCD : C.setIfInBounds 0 (.int .i64 (f.k % 3)) = D := by rw [hC, hD, Fd.kd_cells]
  have sC : C.size = 35 := by rw [hC, List.size_toArray, f.len hd]
  have sD : D.size = 35 := by rw [hD, List.size_toArray, f.kd.len hd]
  have hzd := zero_field
  change ∀ w, _ = Result.ok (Value.agg Z35) w at hzd
  have g1 := heap_alloc2_old w (.cells C 31) (.cells Z35 31)
  have g2 := heap_alloc2_new w (.cells C 31) (.cells Z35 31)
  have c0 : ((w.alloc (.cells C 31)).alloc (.cells Z35 31)).cell? ⟨w.heap.size, 0, none⟩ = some (.int .i64 f.k) := by rw [cell_of_row _ _ _ _ _ _ g1, hC]; rfl
  have z0 := frozen_of_row _ _ 0 _ _ g1
  have P := Lib.hid (fun w => pick_any f.k w h0 h1)
  have H1 := Lib.hid (show (Try.prog.info? 31).map (·.size) = some D.size by rw [sD]; kernel_rfl)
  have H2 := Lib.hid (show Z35.size = D.size by rw [sD]; rfl)
  have H3 := Lib.hid (show D.all (·.oneCell') = true by rw [hD]; exact f.kd.one)
  have T0 := Lib.hid (((Turn.refl (fun _ => False) w).alloc (.cells C 31)).alloc (.cells Z35 31))
  have s0 : ((w.alloc (.cells C 31)).alloc (.cells Z35 31)).heap.size = w.heap.size + 2 := by simp
  rw [← hC]
  have HD := Lib.hid hD
  have HCD := Lib.hid hCD
  clear hC hD sC sD g1 g2 s0
  go_enter Try.func8, Try.ntmps8
  go_wp2_with (first
    | (go_at_call 21; refine (P.out _).mono ?_; rintro r w' ⟨rfl, rfl⟩)
    | (refine wpList_load_row rfl _ _ rfl w.heap.size rfl _ D (0, 0) _ (heap_alloc2_old w _ _) Try.underlying31 rfl H1.out ?_)
    | (refine wpList_store_row rfl _ _ _ rfl (w.heap.size + 1) D rfl rfl 31 _ (heap_alloc2_new w _ _) H1.out H2.out H3.out ?_))
  refine bodyPost_ret (v := .agg D) ?_ rfl ⟨by rw [HD.out], (((Turn.refl (fun _ => False) w).alloc _).alloc _).setRow _ _ (fun h => by omega)⟩
  exact results_cell_row Try.results8 _ _ (w.heap.size + 1) _ D (0, 0) _ rfl (setRow_heap _ _ _ _ _ _ (heap_alloc2_new w _ _)) Try.underlying31 rfl H1.out
theorem beN_cons (q n : Nat) : beN (q + 1) n = BitVec.ofNat 8 (n / 256 ^ q) :: beN q n := rfl
theorem byte_int (n q : Nat) : IntKind.u8.wrap ((n : Int) / 2 ^ (8 * q)) = ((BitVec.ofNat 8 (n / 256 ^ q)).toNat : Int) := by
  rw [IntKind.wrap_u8, BitVec.toNat_ofNat, show (2 : Int) ^ (8 * q) = ((256 ^ q : Nat) : Int) by rw [Int.natCast_pow, Int.pow_mul]; rfl]
  omega
set_option maxHeartbeats 1000000 in
theorem rnum_any (n : Nat) (w : World) (hn : n < 18446744073709551616) :
    Calls Try.prog 22 #[.int .u64 (n : Int)] w fun e w' => ∃ v, e = .returned v ∧ w'.ownsRow w.heap.size 5 1 v (numB n).length ((numB n).map bv) ∧ Turn (fun _ => False) w w' := by
  obtain ⟨i0, hi, hz0, hz1, hz2⟩ := info_parts info_u8
  have hk8 := klen_eight hn
  have HK8 := Lib.hid hk8
  go_enter Try.func22, Try.ntmps22
  go_wp2
  go_loop [3, 4] (fun k v => ∃ j q : Nat, k = .int .i64 j ∧ v = .int .u64 q ∧ j + klen q = klen n ∧ q < 18446744073709551616) (fun _ v => (intOf v).toNat)
  case atStart => exact ⟨0, n, rfl, rfl, by omega, hn⟩
  case round =>
    obtain ⟨j, q, rfl, rfl, hj, hq⟩ := hrel
    by_cases h0 : q = 0
    · subst h0
      rw [klen_zero] at hj
      obtain rfl : j = klen n := by omega
      obtain ⟨k, hkk⟩ : ∃ k, k = klen n := ⟨_, rfl⟩
      rw [← hkk] at hk8 ⊢
      have HN := Lib.hid (show numB n = BitVec.ofNat 8 k :: beN k n by rw [hkk]; rfl)
      clear hkk hj hq HK8
      have ho := own_new w w.heap.size 5 [bv (BitVec.ofNat 8 k)] 1 rfl (Nat.le_refl _) (by unfold maxLen; omega)
      have hkb : bv (BitVec.ofNat 8 k) = Value.int IntKind.u8 (k : Int) := by unfold bv; rw [BitVec.toNat_ofNat, Nat.mod_eq_of_lt (by omega)]
      rw [hkb] at ho
      have HO := Lib.hid ho
      have HT := Lib.hid ((Turn.refl (fun _ => False) w).alloc (.cells #[Value.int IntKind.u8 (k : Int)] 5))
      have HKB := Lib.hid hkb
      clear ho hkb
      go_wp2
      go_loopw [5, 6] (fun u i wr => ∃ (m : Nat) (z : Int) (W : List B8), i = .int .i64 z ∧ z ≤ (m : Int) - 1 ∧ (m : Int) - 1 ≤ z ∧ m ≤ k ∧ W ++ beN m n = numB n ∧ wr.ownsRow w.heap.size 5 1 u W.length (W.map bv) ∧ Turn (fun _ => False) w wr) (fun _ i _ => (intOf i + 1).toNat)
      case atStart => exact ⟨k, _, [BitVec.ofNat 8 k], rfl, by omega, by omega, Nat.le_refl _, by rw [HN.out]; rfl, by simp only [List.map_cons, List.map_nil, HKB.out]; exact HO.out, HT.out⟩
      case round =>
        clear HO HT
        obtain ⟨m, z, W, rfl, hz1', hz2', hmk, hW, hown, ht⟩ := hrel
        have hWl : W.length + m = 1 + k := by
          have := congrArg List.length hW
          rw [HN.out] at this
          simp [beN_len] at this; omega
        have HW := Lib.hid hW
        have HO := Lib.hid hown
        have HT := Lib.hid ht
        clear hW hown ht
        by_cases h0 : m = 0
        · subst h0
          obtain rfl : z = -1 := by omega
          have hW := HW.out
          rw [beN, List.append_nil] at hW
          subst hW
          go_wp2
          go_ret
          exact ⟨_, rfl, HO.out, HT.out⟩
        · obtain ⟨q, rfl⟩ : ∃ q, m = q + 1 := ⟨m - 1, by omega⟩
          obtain rfl : z = (q : Int) := by omega
          have hq8 : (8 * (q : Int)).toNat = 8 * q := by omega
          have hwr : IntKind.i64.wrap (8 * (q : Int)) = 8 * (q : Int) := IntWalk.i64_in _ (by omega)
          obtain ⟨y, hyy⟩ : ∃ y, y = BitVec.ofNat 8 (n / 256 ^ q) := ⟨_, rfl⟩
          have hy : IntKind.u8.wrap ((n : Int) / 2 ^ (8 * q)) = (y.toNat : Int) := by rw [hyy]; exact byte_int n q
          have HY := Lib.hid hyy
          clear hyy
          go_upto_region 10 with fail
          go_step
          iterate 21 go_step
          refine wpList_append_any_at (o := ⟨some 30, _, _, _, _, _⟩) rfl _ _ 24 rfl w.heap.size 5 i0 (.int .u8 0) 1 Try.underlying24 hi hz0 hz1 hz2 rfl u5 W.length _ rfl (HO.out.alloc _) (some ⟨wr.heap.size, 0, none⟩) 1 1 (([y] : List B8).map bv) rfl (fun h => by cases h) rfl ?_ (bv_one [y]) ?_ ?_ ?_ ?_
          · intro j u hu
            exact ⟨_, rfl, World.news_of_block (heap_alloc_new wr (.cells #[.int .u8 (y.toNat : Int)] 5)) j u hu⟩
          · unfold maxLen; omega
          · omega
          · have := HT.out.size; simp; omega
          intro v1 w1 own1 gr1 at1
          have HO1 := Lib.hid own1
          have HT1 := Lib.hid ((HT.out.alloc (.cells #[.int .u8 (y.toNat : Int)] 5)).grown gr1 (fun i hi e => by have := (HO.out.lt i e.symm).1; omega))
          clear own1 gr1 at1
          go_wp2
          go_roundw
          case rel => exact ⟨q, _, W ++ [y], rfl, by omega, by omega, by omega, by rw [← HW.out, HY.out, beN_cons]; simp, by rw [List.length_append, List.map_append]; exact HO1.out, HT1.out⟩
          case measure => simp [intOf]
    · have hd : klen q = klen (q / 256) + 1 := klen_pos h0
      have hp : (0 : Int) < (q : Int) := by omega
      have hj8 : j ≤ 8 := by omega
      have HD := Lib.hid (show (j + 1) + klen (q / 256) = klen n by omega)
      clear hd hj
      go_wp2
      go_round
      case rel => exact ⟨j + 1, q / 256, by go_num, by go_num, HD.out, by omega⟩
      case measure => simp [intOf]; omega
end Go.Proofs.Ytjfjminfpdgcmaa
