/- Tags as plain functions; the contracts of the code's 'filled' and 'turned'. -/
import Derived.Test.YtoagneibaincpaaDoorShaT1
import Derived.Test.YtoagneibaincpaaDoorTail
import Derived.Test.YtoagneibaincpaaDoorIdEq2
import Derived.Test.YtoagneibaincpaaDoorRowLoad2
set_option linter.unusedVariables false
namespace Go.Proofs.YtoagneibaincpaaDoor
open Go.RowKit
/- A tag, plainly. -/
def keyK (key : List B8) : List B8 := if 64 < key.length then dig key else key
def padK (k : List B8) : List B8 := k ++ zeros (64 - k.length)
def fillK (key : List B8) : List B8 := padK (keyK key)
def turnK (x : B8) (l : List B8) : List B8 := l.map (· ^^^ x)
def tagD (key b : List B8) : List B8 := dig (turnK 92 (fillK key) ++ dig (turnK 54 (fillK key) ++ b))
set_option maxRecDepth 100000 in
theorem keyK_le (key : List B8) : (keyK key).length ≤ 64 := by
  unfold keyK; split
  · rw [dig_len]; omega
  · omega
set_option maxRecDepth 100000 in
theorem padK_len (k : List B8) (h : k.length ≤ 64) : (padK k).length = 64 := by simp [padK, zeros_len]; omega
set_option maxRecDepth 100000 in
theorem fillK_len (key : List B8) : (fillK key).length = 64 := padK_len _ (keyK_le key)
set_option maxRecDepth 100000 in
theorem turnK_len (x : B8) (l : List B8) : (turnK x l).length = l.length := by simp [turnK]
set_option maxRecDepth 100000 in
theorem tagD_len (key b : List B8) : (tagD key b).length = 32 := dig_len _
abbrev Z64 : Array Value := ((zeros 64).map bv).toArray
abbrev ZId : Array Value := ((zeros 32).map bv).toArray
set_option maxRecDepth 100000 in
theorem heap_below {w w' : World} (hb : Below w.heap.size w w') {g : Nat} {o : Obj} (h : w.heap[g]? = some o) : w'.heap[g]? = some o := (hb.block g (lt_of_block h)).trans h
set_option maxRecDepth 100000 in
theorem glob_below {w w' : World} {B : Nat} (h : Glob w) (hb : Below B w w') (hB : w.heap.size ≤ B) : Glob w' := h.below (hb.mono hB) h.1
set_option maxRecDepth 100000 in
theorem slice_64 (a : Addr) (w : World) : (Instr.sliceAt 85 (.pointer (some a)) none none none).run Tryd.prog w = .ok (.slice (some a) 64 64) w := by
  have e : Tryd.prog.arrayLen 85 = 64 := by kernel_rfl
  rw [run_sliceAt_array_all (P := Tryd.prog) w 85 a (by kernel_rfl)]
  rw [show Tryd.prog.elem 85 = 5 by kernel_rfl, size_u8, e]
  simp [Result.andThen, slicedAt, Addr.add]
set_option maxRecDepth 100000 in
theorem slice_32 (a : Addr) (w : World) : (Instr.sliceAt 23 (.pointer (some a)) none none none).run Tryd.prog w = .ok (.slice (some a) 32 32) w := by
  have e : Tryd.prog.arrayLen 23 = 32 := by kernel_rfl
  rw [run_sliceAt_array_all (P := Tryd.prog) w 23 a (by kernel_rfl)]
  rw [show Tryd.prog.elem 23 = 5 by kernel_rfl, size_u8, e]
  simp [Result.andThen, slicedAt, Addr.add]
set_option maxRecDepth 100000 in
theorem splice_pad (k : List B8) (h : k.length ≤ 64) : (splice ((zeros 64).map bv) 0 (k.map bv)).toArray = ((padK k).map bv).toArray := by
  unfold splice padK
  rw [List.take_zero, List.nil_append, List.map_append, List.length_map, Nat.zero_add]
  simp only [zeros, List.map_replicate, List.drop_replicate]
set_option maxRecDepth 100000 in
theorem bts_row {w : World} {g : Nat} {xs : List B8} {t : TypeId} {fr : Nat × Nat} (h : w.heap[g]? = some (.cells (xs.map bv).toArray t fr)) : Bts w (some ⟨g, 0, none⟩) xs := fun j u hu => by
  refine ⟨_, rfl, ?_⟩
  rw [add_row, cell_of_row w g j _ _ _ h, List.getElem?_toArray]; exact hu
set_option maxRecDepth 100000 in
theorem bts_copy {w : World} {A : Option Addr} {xs : List B8} (h : Bts w A xs) (hp : 0 < (xs.map bv).length) : ∃ ad, A = some ad ∧ ∀ j v, (xs.map bv)[j]? = some v → w.cell? (ad.add j) = some v := by
  obtain ⟨ad, e, -⟩ := h 0 _ (List.getElem?_eq_getElem hp)
  refine ⟨ad, e, fun j v hj => ?_⟩
  obtain ⟨ad', e', hc⟩ := h j v hj
  rw [e] at e'; injection e' with e'; subst e'; exact hc
end Go.Proofs.YtoagneibaincpaaDoor
