/- The code's Climb. -/
import Derived.Test.YtppkjlmnnpfcfaaDoorTrJ
set_option linter.unusedVariables false
namespace Go.Proofs.YtppkjlmnnpfcfaaDoor
open Go.RowKit
attribute [local go_sem ↓] loadAt_id
attribute [local go_sem] rowOf_drew rowOf_drewN run_idLoad
theorem size_id (w : World) : (sizeOf 26).run Tryd.prog w = .ok 32 w := by kernel_rfl
theorem slicei_hi (A : Option Addr) (len cap n : Nat) (h : n ≤ len) (hc : len ≤ cap) (w : World) : (Instr.slice 29 (.slice A len cap) none (some (.int .i64 (n : Int))) none).run Tryd.prog w = .ok (.slice A n cap) w := by
  rw [run_slice_h (P := Tryd.prog) w 29 A len cap (by kernel_rfl) .i64 (n : Int) (by omega) (by omega)]
  rw [show Tryd.prog.elem 29 = 26 by kernel_rfl, size_id]
  simp [Result.andThen, sliced, Addr.add]
theorem slicei_lo (A : Option Addr) (len cap n : Nat) (h : n ≤ len) (w : World) : (Instr.slice 29 (.slice A len cap) (some (.int .i64 (n : Int))) none none).run Tryd.prog w = .ok (.slice (if cap = n then A else A.map (·.add (n * 32))) (len - n) (cap - n)) w := by
  rw [run_slice_l (P := Tryd.prog) w 29 A len cap (by kernel_rfl) .i64 (n : Int) (by omega) (by omega)]
  rw [show Tryd.prog.elem 29 = 26 by kernel_rfl, size_id]
  simp [Result.andThen, sliced]
def climbZ (leaf : List B8) (z zn : Int) (p : List (List B8)) : Option (List B8) := if 0 ≤ z ∧ z < zn ∧ zn ≤ 1048576 then climbD leaf z.toNat zn.toNat p else none
theorem climbZ_nat {leaf : List B8} {k n : Nat} {p : List (List B8)} (h : k < n) (hn : n ≤ 1048576) : climbZ leaf k n p = climbD leaf k n p := by
  unfold climbZ; rw [if_pos (by omega)]; rfl
theorem climbD_len32 : ∀ (n : Nat) (leaf : List B8) (k : Nat) (p : List (List B8)) (d : List B8), climbD leaf k n p = some d → d.length = 32 := by
  intro n leaf k p d h
  rw [climbD] at h
  split at h
  · split at h
    · cases h
    · split at h
      · obtain ⟨x, -, rfl⟩ := Option.map_eq_some_iff.1 h; exact nodeD_len _ _
      · obtain ⟨x, -, rfl⟩ := Option.map_eq_some_iff.1 h; exact nodeD_len _ _
  · split at h
    · split at h
      · injection h with h; rw [← h]; exact leafD_len _
      · cases h
    · cases h
theorem getD_len32 {leaf : List B8} {k n : Nat} {p : List (List B8)} : ((climbD leaf k n p).getD (zeros 32)).length = 32 := by
  cases h : climbD leaf k n p with
  | none => rfl
  | some d => exact climbD_len32 n leaf k p d h
set_option maxRecDepth 100000 in
set_option maxHeartbeats 4000000 in
theorem climb_bad (A A' : Option Addr) (lb c lp c' : Nat) (z zn : Int) (w : World) (h : ¬ (0 ≤ z ∧ z < zn ∧ zn ≤ 1048576)) :
    Calls Tryd.prog 15 #[.slice A lb c, .int .i64 z, .int .i64 zn, .slice A' lp c'] w fun e w' => e = .returned (ansV none) ∧ Below w.heap.size w w' := by
  obtain ⟨w1, hw1⟩ : ∃ w1, w1 = w.alloc (.cells ZId 26) := ⟨_, rfl⟩
  have hb1 : Below w.heap.size w w1 := by rw [hw1]; exact (Below.refl _ _).alloc (Nat.le_refl _) _
  have hz1 : w1.heap[w.heap.size]? = some (.cells ZId 26 (0, 0)) := by rw [hw1]; exact heap_alloc_new w _
  have HB1 := Lib.hid hb1
  have HZ1 := Lib.hid hz1
  have H1 := Lib.hid info_z
  have H3 := Lib.hid (show ZId.all (·.oneCell') = true by kernel_rfl)
  have HH := Lib.hid h
  rw [ansV_none]
  clear hb1 hz1 h
  have fin : ∀ (tmps : Array Value) (g : Nat), g = 0 → True := fun _ _ _ => trivial
  by_cases h1 : z < 0
  · have t0 : decide (z < 0) = true := by rw [decide_eq_true_eq]; exact h1
    go_enter Tryd.func15, Tryd.ntmps15
    go_upto_region 1 with fail
    rw [← hw1]
    clear hw1
    go_wp2_with (refine wpList_store_row rfl _ _ _ rfl w.heap.size ZId rfl rfl _ ZId HZ1.out H1.out rfl H3.out ?_)
    have hA2 := setRow_heap w1 w.heap.size ZId ZId 26 (0, 0) HZ1.out
    refine bodyPost_ret (v := .tuple #[.agg ZId, .bool false]) ?_ rfl ⟨rfl, below_setRow HB1.out (Nat.le_refl _) ZId⟩
    exact results_two Tryd.results15 _ _ w.heap.size _ ZId (0, 0) _ _ rfl rfl hA2 Tryd.underlying26 rfl H1.out
  · have t0 : decide (z < 0) = false := by rw [decide_eq_false_iff_not]; exact h1
    by_cases h2 : zn ≤ z
    · have t1 : decide (zn ≤ z) = true := by rw [decide_eq_true_eq]; exact h2
      go_enter Tryd.func15, Tryd.ntmps15
      go_upto_region 1 with fail
      rw [← hw1]
      clear hw1
      go_wp2_with (refine wpList_store_row rfl _ _ _ rfl w.heap.size ZId rfl rfl _ ZId HZ1.out H1.out rfl H3.out ?_)
      have hA2 := setRow_heap w1 w.heap.size ZId ZId 26 (0, 0) HZ1.out
      refine bodyPost_ret (v := .tuple #[.agg ZId, .bool false]) ?_ rfl ⟨rfl, below_setRow HB1.out (Nat.le_refl _) ZId⟩
      exact results_two Tryd.results15 _ _ w.heap.size _ ZId (0, 0) _ _ rfl rfl hA2 Tryd.underlying26 rfl H1.out
    · have t1 : decide (zn ≤ z) = false := by rw [decide_eq_false_iff_not]; exact h2
      have t2 : decide (1048576 < zn) = true := by rw [decide_eq_true_eq]; have := HH.out; omega
      go_enter Tryd.func15, Tryd.ntmps15
      go_upto_region 1 with fail
      rw [← hw1]
      clear hw1
      go_wp2_with (refine wpList_store_row rfl _ _ _ rfl w.heap.size ZId rfl rfl _ ZId HZ1.out H1.out rfl H3.out ?_)
      have hA2 := setRow_heap w1 w.heap.size ZId ZId 26 (0, 0) HZ1.out
      refine bodyPost_ret (v := .tuple #[.agg ZId, .bool false]) ?_ rfl ⟨rfl, below_setRow HB1.out (Nat.le_refl _) ZId⟩
      exact results_two Tryd.results15 _ _ w.heap.size _ ZId (0, 0) _ _ rfl rfl hA2 Tryd.underlying26 rfl H1.out
end Go.Proofs.YtppkjlmnnpfcfaaDoor
