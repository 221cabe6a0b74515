/- The contracts of 'kind' and of the document's 'Num' and 'Put'. -/
import Derived.Test.YtciohmlobknhlaaFwA
set_option linter.unusedVariables false
namespace Go.Proofs.Ytciohmlobknhlaa
open Go.RowKit
def Fd.kd (f : Fd) : Fd := { f with k := f.k % 3 }
theorem Fd.kd_cells (f : Fd) : (f.cells.toArray).setIfInBounds 0 (.int .i64 (f.k % 3)) = f.kd.cells.toArray := by
  simp [Fd.cells, Fd.kd]
theorem Fd.one (f : Fd) : f.cells.toArray.all (·.oneCell') = true := by
  rw [Array.all_eq_true_iff_forall_mem]
  intro u hu
  simp only [Fd.cells, List.mem_toArray, List.mem_append, List.mem_cons, List.not_mem_nil, or_false, List.mem_map] at hu
  rcases hu with (rfl | rfl | rfl) | ⟨x, -, rfl⟩ <;> rfl
theorem pick_any (k : Int) (w : World) (h0 : -9223372036854775808 ≤ k) (h1 : k < 9223372036854775808) :
    Calls Try.prog 13 #[.int .i64 k, .int .i64 3] w fun e w' => e = .returned (.int .i64 (k % 3)) ∧ w' = w := by
  have hm : k.tmod 3 = (if k.tmod 3 < 0 then k % 3 - 3 else k % 3) ∧ -3 < k.tmod 3 ∧ k.tmod 3 < 3 := by
    by_cases h : k < 0
    · obtain ⟨m, rfl⟩ : ∃ m : Nat, k = -(m : Int) := ⟨k.natAbs, by omega⟩
      rw [Int.neg_tmod, Int.tmod_eq_emod_of_nonneg (by omega)]
      refine ⟨?_, by omega, by omega⟩
      split <;> omega
    · rw [Int.tmod_eq_emod_of_nonneg (by omega)]
      refine ⟨?_, by omega, by omega⟩
      split <;> omega
  obtain ⟨z, hz⟩ : ∃ z, z = k.tmod 3 := ⟨_, rfl⟩
  have hz2 := hz.symm
  rw [← hz] at hm
  have HM := Lib.hid hm
  have hb : -3 < z ∧ z < 3 := hm.2
  clear hz hm
  by_cases hlt : z < 0
  · go_enter Try.func13, Try.ntmps13
    go_wp2
    go_ret
    have := HM.out.1
    rw [if_pos hlt] at this
    exact ⟨congrArg (fun q => Ending.returned (.int .i64 q)) (by omega), rfl⟩
  · go_enter Try.func13, Try.ntmps13
    go_wp2
    go_ret
    have := HM.out.1
    rw [if_neg (by omega)] at this
    exact ⟨congrArg (fun q => Ending.returned (.int .i64 q)) (by omega), rfl⟩
theorem zero_field (w : World) : (zeroValue 30).run Try.prog w = .ok (.agg (Fd.cells ⟨0, 0, none, 0, [], zeros 32⟩).toArray) w := by kernel_rfl
def Z35 : Array Value := (Fd.cells ⟨0, 0, none, 0, [], zeros 32⟩).toArray
set_option maxHeartbeats 1000000 in
theorem kind_any (f : Fd) (w : World) (h0 : -9223372036854775808 ≤ f.k) (h1 : f.k < 9223372036854775808) (hd : f.d.length = 32) :
    Calls Try.prog 5 #[.agg f.cells.toArray] w fun e w' => e = .returned (.agg f.kd.cells.toArray) ∧ Turn (fun _ => False) w w' := by
  obtain ⟨C, hC⟩ : ∃ C, C = f.cells.toArray := ⟨_, rfl⟩
  obtain ⟨D, hD⟩ : ∃ D, D = f.kd.cells.toArray := ⟨_, rfl⟩
  have hCD : C.setIfInBounds 0 (.int .i64 (f.k % 3)) = D := by rw [hC, hD, Fd.kd_cells]
  have sC : C.size = 35 := by rw [hC, List.size_toArray, f.len hd]
  have sD : D.size = 35 := by rw [hD, List.size_toArray, f.kd.len hd]
  have hzd := zero_field
  change ∀ w, _ = Result.ok (Value.agg Z35) w at hzd
  have g1 := heap_alloc2_old w (.cells C 30) (.cells Z35 30)
  have g2 := heap_alloc2_new w (.cells C 30) (.cells Z35 30)
  have c0 : ((w.alloc (.cells C 30)).alloc (.cells Z35 30)).cell? ⟨w.heap.size, 0, none⟩ = some (.int .i64 f.k) := by rw [cell_of_row _ _ _ _ _ _ g1, hC]; rfl
  have z0 := frozen_of_row _ _ 0 _ _ g1
  have P := Lib.hid (fun w => pick_any f.k w h0 h1)
  have H1 := Lib.hid (show (Try.prog.info? 30).map (·.size) = some D.size by rw [sD]; kernel_rfl)
  have H2 := Lib.hid (show Z35.size = D.size by rw [sD]; rfl)
  have H3 := Lib.hid (show D.all (·.oneCell') = true by rw [hD]; exact f.kd.one)
  have T0 := Lib.hid (((Turn.refl (fun _ => False) w).alloc (.cells C 30)).alloc (.cells Z35 30))
  have s0 : ((w.alloc (.cells C 30)).alloc (.cells Z35 30)).heap.size = w.heap.size + 2 := by simp
  rw [← hC]
  have HD := Lib.hid hD
  have HCD := Lib.hid hCD
  clear hC hD sC sD g1 g2 s0
  go_enter Try.func5, Try.ntmps5
  go_wp2_with (first
    | (go_at_call 13; refine (P.out _).mono ?_; rintro r w' ⟨rfl, rfl⟩)
    | (refine wpList_load_row rfl _ _ rfl w.heap.size rfl _ D (0, 0) _ (heap_alloc2_old w _ _) Try.underlying30 rfl H1.out ?_)
    | (refine wpList_store_row rfl _ _ _ rfl (w.heap.size + 1) D rfl rfl 30 _ (heap_alloc2_new w _ _) H1.out H2.out H3.out ?_))
  refine bodyPost_ret (v := .agg D) ?_ rfl ⟨by rw [HD.out], (((Turn.refl (fun _ => False) w).alloc _).alloc _).setRow _ _ (fun h => by omega)⟩
  exact results_cell_row Try.results5 _ _ (w.heap.size + 1) _ D (0, 0) _ rfl (setRow_heap _ _ _ _ _ _ (heap_alloc2_new w _ _)) Try.underlying30 rfl H1.out
theorem beN_cons (q n : Nat) : beN (q + 1) n = BitVec.ofNat 8 (n / 256 ^ q) :: beN q n := rfl
theorem byte_int (n q : Nat) : IntKind.u8.wrap ((n : Int) / 2 ^ (8 * q)) = ((BitVec.ofNat 8 (n / 256 ^ q)).toNat : Int) := by
  rw [IntKind.wrap_u8, BitVec.toNat_ofNat, show (2 : Int) ^ (8 * q) = ((256 ^ q : Nat) : Int) by rw [Int.natCast_pow, Int.pow_mul]; rfl]
  omega
end Go.Proofs.Ytciohmlobknhlaa
