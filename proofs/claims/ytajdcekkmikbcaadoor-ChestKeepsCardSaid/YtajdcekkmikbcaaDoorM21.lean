/- Merged: The landed drum: New. -/
import Derived.Test.YtajdcekkmikbcaaDoorM20
import Derived.Laws.OwnMore
namespace Go.Proofs.YtajdcekkmikbcaaDoor
section
set_option linter.unusedVariables false
open Go.RowKit
set_option maxRecDepth 100000 in
theorem info_sec : (Tryd.prog.info? 92).map (fun i => (i.zero, i.size, i.bytes)) = some (some (.agg ZSec), 64, 64) := by kernel_rfl
set_option maxRecDepth 100000 in
theorem made_zero (n : Nat) : (madeCells (Value.agg ZSec).cells (n * 64)).toList = secsV (List.replicate n (zeros 64)) := by
  have h1 : ∀ u ∈ (madeCells (Value.agg ZSec).cells (n * 64)).toList, u = bv 0 := by
    intro u hu
    simp only [madeCells, Value.cells, Array.mem_toList_iff, Array.mem_map, Array.mem_range] at hu
    obtain ⟨i, -, rfl⟩ := hu
    have hs : ZSec.size = 64 := ZSec_size
    have hl : i % ZSec.size < ZSec.size := Nat.mod_lt _ (by omega)
    rw [getElem!_pos ZSec _ hl]
    have hz : ∀ x ∈ ZSec, x = bv 0 := by
      intro x hx
      simp only [ZSec, zeros, List.mem_toArray, List.mem_map] at hx
      obtain ⟨y, hy, rfl⟩ := hx
      rw [(List.mem_replicate.1 hy).2]
    exact hz _ (Array.getElem_mem hl)
  have h2 : ∀ u ∈ secsV (List.replicate n (zeros 64)), u = bv 0 := by
    intro u hu
    simp only [secsV, List.mem_flatMap, List.mem_replicate, zeros, List.mem_map] at hu
    obtain ⟨s, ⟨-, rfl⟩, x, hx, rfl⟩ := hu
    rw [(List.mem_replicate.1 hx).2]
  rw [List.eq_replicate_of_mem h1, List.eq_replicate_of_mem h2, secsV_len _ (by intro s hs; rw [(List.mem_replicate.1 hs).2]; simp [zeros])]
  simp [madeCells]
set_option maxRecDepth 100000 in
theorem make_secs (w : World) (n : Nat) (hn : n ≤ 8192) : ∃ w', (Instr.makeSlice 68 (.int .i64 (n : Int)) (.int .i64 (n : Int))).run Tryd.prog w = .ok (.slice (some ⟨w.heap.size, 0, none⟩) n n) w' ∧
    w'.ownsRow w.heap.size 92 64 (.slice (some ⟨w.heap.size, 0, none⟩) n n) n (secsV (List.replicate n (zeros 64))) ∧ w.grownBy w' none := by
  obtain ⟨i0, hi, hz0, hz1, hz2⟩ := info_parts info_sec
  have := run_makeSlice_full (P := Tryd.prog) (w := w) w.heap.size 68 92 i0 (.agg ZSec) 64 Tryd.underlying68 hi hz0 hz1 .i64 .i64 n (by omega) (by rw [hz2]; omega) (by unfold maxLen; omega) (Nat.le_refl _)
  rw [made_zero] at this
  exact this
set_option maxRecDepth 100000 in
theorem own_base {w : World} {base s n : Nat} {e : TypeId} {v : Value} {xs : List Value} (h : w.ownsRow base e s v n xs) : w.ownsRow 0 e s v n xs := by
  obtain ⟨h1, h2⟩ := h
  refine ⟨h1, ?_⟩
  rcases h2 with h2 | ⟨g, cap, cur, e, hg, r⟩
  · exact .inl h2
  · exact .inr ⟨g, cap, cur, e, Nat.zero_le _, r⟩
set_option maxRecDepth 100000 in
theorem new_any (n : Nat) (h1 : 1 ≤ n) (hn : n ≤ 8192) (w : World) : Calls Tryd.prog 10 #[.int .i64 (n : Int)] w fun r w' => ∃ g, r = .returned (.pointer (some ⟨g, 0, none⟩)) ∧ (∃ Sv, LMem w' g Sv (.slice none 0 0) (Dr.new n) n (Since w w')) ∧ Below w.heap.size w w' := by
  obtain ⟨w1, hm, hown, hgr⟩ := make_secs w n hn
  have HO := Lib.hid hown
  have HG := Lib.hid hgr
  have i1 : ¬ ((n : Int) < 1) := by omega
  have i2 : ¬ ((8192 : Int) < (n : Int)) := by omega
  clear hown hgr
  go_enter Tryd.func10, Tryd.ntmps10
  go_wp2
  go_ret
  have t2 : Turn (fun _ => False) w1 (w1.alloc (.cells #[.slice (some ⟨w.heap.size, 0, none⟩) n n, .slice none 0 0, .int .i64 0, .bool true] 71)) := (Turn.refl _ w1).alloc _
  have t1 : Turn (fun _ => False) w w1 := (Turn.of_grown HG.out).mono (fun i _ e => by cases e)
  have t3 := t1.trans t2 (fun _ _ h => h)
  have hlt : w.heap.size < w1.heap.size := by
    rcases HO.out.2 with ⟨e, -⟩ | ⟨g, cap, cur, e, -, hh, -⟩
    · cases e
    · injection e with e; injection e with e; injection e with e; subst e; exact lt_of_block hh
  have hl2 := lt_of_block (heap_alloc_new w1 (.cells #[.slice (some ⟨w.heap.size, 0, none⟩) n n, .slice none 0 0, .int .i64 0, .bool true] 71))
  refine ⟨_, rfl, ⟨_, ⟨⟨0, heap_alloc_new w1 _, by omega, fun _ => rfl⟩, .new n, by omega, own_turn t2 (own_base HO.out) (fun _ _ h => h), ⟨rfl, .inl ⟨rfl, rfl⟩⟩, by simp [Dr.new], ?_, (fun e => by cases e), (fun k _ e => by cases e), ⟨by omega, hl2⟩, ?_, (fun k e => by cases e), fun k h => h.2⟩⟩, t3.below (fun _ _ h => h.elim) (Nat.le_refl _)⟩
  · intro e
    have e : w.heap.size = w1.heap.size := Option.some.inj e
    omega
  · intro k e; injection e with e; subst e; exact ⟨Nat.le_refl _, Nat.lt_trans hlt hl2⟩
end
end Go.Proofs.YtajdcekkmikbcaaDoor
