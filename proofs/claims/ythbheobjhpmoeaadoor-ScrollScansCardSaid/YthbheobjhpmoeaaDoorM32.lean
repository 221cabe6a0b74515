/- Merged: ScrollScans: an append of made zeros; the drum that is written. -/
import Derived.Test.YthbheobjhpmoeaaDoorM31
import Derived.Lib.AppendZerosOnto
namespace Go.Proofs.YthbheobjhpmoeaaDoor
section
set_option linter.unusedVariables false
set_option linter.unusedSimpArgs false
open Go.RowKit
set_option maxRecDepth 100000
theorem zeroCells_bytes (k : Nat) : Builtin.zeroCells (Value.int .u8 0).cells k = ((zeros k).map bv).toArray := by
  have h := made_bytes k
  have e : Builtin.zeroCells (Value.int .u8 0).cells k = madeCells (Value.int .u8 0).cells (k * 1) := by
    simp [Builtin.zeroCells, madeCells, Value.cells]
  rw [e, h]
/-- Made zeros behind a row of one's own. -/
theorem append_zeros (w : World) (B : Nat) (A : Option Addr) (n c k : Nat) (xs : List B8) (ho : w.ownsRow B 5 1 (.slice A n c) n (xs.map bv)) (hB : B ≤ w.heap.size) (hnk : n + k ≤ 1000000) :
    ∃ A' c' w', (Builtin.append_ #[22, 3] 22 #[.slice A n c, .int .i64 (k : Int)]).run Tryd.prog w = .ok (.slice A' (n + k) c') w' ∧ w'.ownsRow B 5 1 (.slice A' (n + k) c') (n + k) ((xs ++ zeros k).map bv) ∧ w.grownBy w' (Value.slice A n c).ownBlock ∧ (A' = none → c' = 0) := by
  obtain ⟨i0, hi, hz0, hz1, hz2⟩ := info_parts info_u8
  have hxl : (xs.map bv).length = n := by have := ho.1; omega
  have hwk : IntKind.i64.wrap (k : Int) = k := IntWalk.i64_in _ (by omega)
  have hkneg : ¬ ((k : Int) < 0) := by omega
  have h48 : ¬ (281474976710656 < (k : Int) * (i0.bytes : Int)) := by rw [hz2]; omega
  obtain ⟨A', c', ea, -, -, hnc, hca⟩ := own_sl ho
  injection ea with ea1 ea2 ea3
  subst ea1 ea3
  by_cases hk0 : k = 0
  · subst hk0
    have hw0 : IntKind.i64.wrap 0 = 0 := rfl
    refine ⟨A, c, w, ?_, by simpa [zeros] using ho, grown_refl _ _, hca⟩
    cases A with
    | none => simp [Builtin.append_, run_underlying Tryd.underlying22, run_underlying Tryd.underlying3, sizeOf, typeInfo, hi, asInt, asIntOf, hw0, hnc]
    | some a => simp [Builtin.append_, run_underlying Tryd.underlying22, run_underlying Tryd.underlying3, sizeOf, typeInfo, hi, asInt, asIntOf, hw0, hnc, storeCells]
  by_cases hroom : n + k ≤ c
  · rcases ho.2 with ⟨e, hn0⟩ | ⟨g, cap, cur, e, hg, hh, hnc', hcm, hsz, htk⟩
    · injection e with e1 e2 e3
      omega
    · injection e with e1 e2 e3
      subst e1 e3
      have hst := run_storeCells_at Tryd.prog g n 5 ((zeros k).map bv) 0 cur w hh (by simp [zeros_len]; omega) (bv_one _)
      simp only [Nat.add_zero] at hst
      refine ⟨some ⟨g, 0, none⟩, c, w.setRow g (cur.toList.take n ++ (zeros k).map bv ++ cur.toList.drop (n + ((zeros k).map bv).length)).toArray, ?_, ?_, ?_, fun h => by cases h⟩
      · simp [Builtin.append_, run_underlying Tryd.underlying22, run_underlying Tryd.underlying3, sizeOf, typeInfo, zeroValue, hi, hz0, hz1, asInt, asIntOf, hwk, hkneg, h48, hroom, zeroCells_bytes, Addr.add_lit, hst, hk0]
      · refine ⟨by simp [hxl, zeros_len], .inr ⟨g, c, _, rfl, hg, setRow_heap w g cur _ 5 (0, 0) hh, by omega, hcm, ?_, ?_⟩⟩
        · simp [zeros_len]; omega
        · simp only [Nat.mul_one] at htk ⊢
          rw [htk, List.map_append, List.append_assoc, ← List.append_assoc]
          exact List.take_left' (by rw [List.length_append, hxl, List.length_map, zeros_len])
      · exact grownBy_setRow0 w g _
  · have hgr : c < n + k := by omega
    have hold : (Builtin.firstCells i0.size n (.slice A n c)).run Tryd.prog w.drew = .ok (xs.map bv).toArray w.drew := by
      rcases ho.2 with ⟨e, hn0⟩ | ⟨g, cap, cur, e, hg, hh, hnc', hcm, hsz, htk⟩
      · injection e with e1 e2 e3
        subst e1 hn0
        have hx0 : xs = [] := List.eq_nil_of_length_eq_zero (by simpa using hxl)
        subst hx0
        simp [Builtin.firstCells, loadCells, loadCellsFrom]
      · injection e with e1 e2 e3
        subst e1 e3
        exact run_firstCells_some (P := Tryd.prog) w.drew i0.size n ⟨g, 0, none⟩ n c _ (by rw [hz1, hxl, Nat.mul_one]) (fun j v hj => (ho.cells (g := g) rfl j v hj))
    have hr := Lib.run_append_grow_zeros (P := Tryd.prog) w 22 3 22 5 i0 (.int .u8 0) .i64 .i64 Tryd.underlying22 Tryd.underlying3 hi hz0 A n c _ hold k (by omega) (by omega) hgr (by omega) (by rw [hz2]; omega) (growslice_fits (by omega) (by rw [hz2]; omega))
    have hge := grownCap_ge w (n + k) c 5
    have hcm : grownCap w (n + k) c 5 ≤ maxLen := grownCap_le_maxLen w (n + k) c 5 (by unfold maxLen; omega)
    refine ⟨_, _, _, hr, ⟨by simp [hxl, zeros_len], .inr ⟨w.heap.size, _, _, rfl, hB, heap_alloc_new w.drew _, hge, hcm, ?_, ?_⟩⟩, ⟨rfl, rfl, rfl, by simp, fun k hk _ => heap_alloc_old w.drew _ hk⟩, fun h => by cases h⟩
    · rw [zeroCells_bytes]
      simp [size_zeroCells, hxl, zeros_len, Value.cells]
      omega
    · rw [zeroCells_bytes, Nat.mul_one]
      simp only [Array.toList_append, List.append_assoc]
      rw [← List.append_assoc, List.map_append]
      exact List.take_left' (by rw [List.length_append, hxl, List.length_map, zeros_len])
end
end Go.Proofs.YthbheobjhpmoeaaDoor
