/- The statements' walks, in the cards' order of arguments. -/
import Derived.Test.YthbheobjhpmoeaaDoorM35
import Derived.Test.YthbheobjhpmoeaaDoorM41
import Derived.ProofKit
import Derived.OpenShut
set_option linter.unusedVariables false
set_option linter.unusedSimpArgs false
namespace Go.Proofs.YthbheobjhpmoeaaDoor
open Go.ChangeShapes Go.WideShapes Go.ChangeAt Go.RowKit
set_option maxRecDepth 100000
section
variable {H : Type} {enc : TypeId × Value → H} {W : World} {fuel : Nat} {x : DataW H × List MemPlace}
theorem open_texts {r : Reach} {b0 : Nat} {v : Value} {d : DataW H} {p : List MemPlace} (hval : Value.okWide Tryd.prog W r b0 36 v) (hd : DataW.Trod enc Tryd.prog W 0 (fun _ => true) true 36 v d p) :
    ∃ (A : Option Addr) (c : Nat) (l : List (List B8)), v = .slice A l.length c ∧ LstN W A l ∧ (A = none → c = 0) ∧ l.length ≤ c ∧ l.length ≤ maxLen ∧ ∀ x ∈ l, x.length ≤ maxLen := by
  obtain ⟨a0, len, cap, rfl⟩ := okWide_slice Tryd.underlying36 hval
  obtain ⟨fuel, hf⟩ := hd
  rcases DataW.trod_slice Tryd.underlying36 hf with ⟨hcs, -⟩ | ⟨a, len', cap', elems, rest, m, -, hcs, -, -, hl, hm, hel, hall, -, -⟩
  · simp [Value.cells] at hcs
    obtain ⟨rfl, rfl, rfl⟩ := hcs
    exact ⟨none, 0, [], rfl, fun i f h => by simp at h, fun _ => rfl, by simp, by simp, by simp⟩
  · simp [Value.cells] at hcs
    obtain ⟨rfl, rfl, rfl⟩ := hcs
    have c31 : Tryd.prog.cellsOf 22 = 1 := by kernel_rfl
    have each : ∀ i, i < len → ∃ xs : List B8, ∃ Ai ci, W.cell? (a.add i) = some (.slice Ai xs.length ci) ∧ xs.length ≤ ci ∧ (Ai = none → ci = 0) ∧ Bts W Ai xs ∧ xs.length ≤ maxLen := by
      intro i hi
      have h := hall i hi
      rw [c31, List.getElem?_eq_getElem (by omega), Option.bind_eq_some_iff, Nat.mul_one] at h
      obtain ⟨cs, hcs, ht⟩ := h
      obtain ⟨Ai, ci, xs, rfl, h1, h2, h3, h4⟩ := trod_bytes ht
      exact ⟨xs, Ai, ci, cells_one hcs, h3, h2, h1, h4⟩
    have hlen : ((List.range len).map fun i => if h : i < len then (each i h).choose else []).length = len := by simp
    refine ⟨some a, cap, (List.range len).map fun i => if h : i < len then (each i h).choose else [], by rw [hlen], ?_, (fun h => by cases h), by omega, by omega, ?_⟩
    rotate_left 1
    · intro x hx
      rw [List.mem_map] at hx
      obtain ⟨i, hi, rfl⟩ := hx
      have hi : i < len := by simpa using hi
      rw [dif_pos hi]
      obtain ⟨Ai, ci, -, -, -, -, h5⟩ := (each i hi).choose_spec
      exact h5
    intro i f hf
    have hi : i < len := by have := (List.getElem?_eq_some_iff.1 hf).1; simpa using this
    simp [hi] at hf
    obtain ⟨Ai, ci, h1, h2, h3, h4, -⟩ := (each i hi).choose_spec
    rw [hf] at h1 h2 h4
    exact ⟨a, Ai, ci, rfl, h1, h2, h3, h4⟩
end
def bov (b : Bool) : Value := .bool b
theorem open_bools {H : Type} {enc : TypeId × Value → H} {W : World} {r : Reach} {b0 : Nat} {v : Value} {d : DataW H} {p : List MemPlace} (hval : Value.okWide Tryd.prog W r b0 49 v) (hd : DataW.Trod enc Tryd.prog W 0 (fun _ => true) true 49 v d p) :
    ∃ (A : Option Addr) (c : Nat) (xs : List Bool), v = .slice A xs.length c ∧ Sl W W.heap.size A (xs.map bov) ∧ (A = none → c = 0) ∧ xs.length ≤ c ∧ xs.length ≤ maxLen := by
  obtain ⟨a0, len, cap, rfl⟩ := okWide_slice Tryd.underlying49 hval
  obtain ⟨fuel, hf⟩ := hd
  rcases DataW.trod_slice Tryd.underlying49 hf with ⟨hcs, -⟩ | ⟨a, len', cap', elems, rest, m, -, hcs, -, -, hl, hm, hel, hall, -, -⟩
  · simp [Value.cells] at hcs
    obtain ⟨rfl, rfl, rfl⟩ := hcs
    exact ⟨none, 0, [], rfl, Sl.none _ _ _, fun _ => rfl, by simp, by simp⟩
  · simp [Value.cells] at hcs
    obtain ⟨rfl, rfl, rfl⟩ := hcs
    have c31 : Tryd.prog.cellsOf 4 = 1 := by kernel_rfl
    have each : ∀ i, i < len → ∃ b : Bool, W.cell? (a.add i) = some (.bool b) := by
      intro i hi
      have h := hall i hi
      rw [c31, List.getElem?_eq_getElem (by omega), Option.bind_eq_some_iff] at h
      obtain ⟨cs, hcs, ht⟩ := h
      obtain ⟨b, rfl, -⟩ := DataW.trod_bool Tryd.underlying4 ht
      obtain ⟨hb, hl, hc⟩ := World.cells?_some hcs
      have h0 := hc 0 (by omega)
      rw [Nat.mul_one, addr_zero0] at h0
      exact ⟨b, h0⟩
    have hlen : ((List.range len).map fun i => if h : i < len then (each i h).choose else false).length = len := by simp
    refine ⟨some a, cap, (List.range len).map fun i => if h : i < len then (each i h).choose else false, by rw [hlen], ?_, (fun h => by cases h), by omega, by omega⟩
    intro j u hu
    have hj : j < len := by have := (List.getElem?_eq_some_iff.1 hu).1; simpa using this
    simp [hj] at hu
    have h1 := (each j hj).choose_spec
    refine ⟨a, rfl, ?_, ?_⟩
    · have := World.block_lt_of_cell? W _ h1
      rwa [add_block] at this
    · rw [h1, ← hu]; rfl

theorem to_below13 {w w' : World} {r : Ending} (h : r = .returned (.bool true) ∧ Turn (fun _ => False) w w') : r = .returned (.bool true) ∧ Below w.heap.size w w' := ⟨h.1, turn_stp' h.2⟩
theorem byte_nat {a : Nat} (h : a < 256) : (((BitVec.ofNat 8 a) : B8).toNat : Int) = (a : Int) := by rw [BitVec.toNat_ofNat, Nat.mod_eq_of_lt (by omega)]
theorem forms_law (a0 a1 : Int) (A : Option Addr) (c : Nat) (l : List B8) (W : World) (w0 : (Lit.int .i64 a0).wf = true) (w1 : (Lit.int .i64 a1).wf = true) (s : Sl W W.heap.size A (l.map bv)) (m : l.length ≤ maxLen) (hA : A = none → c = 0) (hc : l.length ≤ c) (hG : Glob W) :
    Calls Tryd.prog 3 #[.int .i64 a0, .int .i64 a1, .slice A l.length c] W fun r w' => r = .returned (.bool true) ∧ Below W.heap.size W w' :=
  (scrollForms_of sc13 a0 a1 A c l W hG s hA hc).mono fun _ _ h => to_below13 h
theorem long_law (a0 : Nat) (W : World) (b0 : a0 < 4294967296) (hG : Glob W) :
    Calls Tryd.prog 4 #[.int .u32 (a0 : Int)] W fun r w' => r = .returned (.bool true) ∧ Below W.heap.size W w' :=
  (scrollLong_of sc13 a0 b0 W hG).mono fun _ _ h => to_below13 h
theorem scans_law (A : Option Addr) (c : Nat) (l : List B8) (a1 a2 a3 : Int) (W : World) (s : Sl W W.heap.size A (l.map bv)) (m : l.length ≤ maxLen) (hA : A = none → c = 0) (hc : l.length ≤ c) (w1 : (Lit.int .i64 a1).wf = true) (w2 : (Lit.int .i64 a2).wf = true) (w3 : (Lit.int .i64 a3).wf = true) (hG : Glob W) :
    Calls Tryd.prog 5 #[.slice A l.length c, .int .i64 a1, .int .i64 a2, .int .i64 a3] W fun r w' => r = .returned (.bool true) ∧ Below W.heap.size W w' :=
  (scrollScans_of sc13 A c l a1 a2 a3 W hG s hA hc (bounds_i64 w1) (bounds_i64 w2) (bounds_i64 w3)).mono fun _ _ h => to_below13 h
theorem other_law (A : Option Addr) (c : Nat) (l : List (List B8)) (a1 a2 : Nat) (W : World) (s : LstN W A l) (m : l.length ≤ maxLen) (hA : A = none → c = 0) (hc : l.length ≤ c) (x : ∀ x ∈ l, x.length ≤ maxLen) (b1 : a1 < 65536) (b2 : a2 < 65536) (hG : Glob W) :
    Calls Tryd.prog 7 #[.slice A l.length c, .int .u16 (a1 : Int), .int .u16 (a2 : Int)] W fun r w' => r = .returned (.bool true) ∧ Below W.heap.size W w' :=
  (scrollOther_of sc13 A c l a1 a2 b1 b2 W hG s hA hc m x).mono fun _ _ h => to_below13 h
theorem gone_law (a0 a1 a2 : Nat) (W : World) (b0 : a0 < 256) (b1 : a1 < 256) (b2 : a2 < 256) (hG : Glob W) :
    Calls Tryd.prog 8 #[.int .u8 (a0 : Int), .int .u8 (a1 : Int), .int .u8 (a2 : Int)] W fun r w' => r = .returned (.bool true) ∧ Below W.heap.size W w' := by
  have h := scrollGone_of sc13 (BitVec.ofNat 8 a0) (BitVec.ofNat 8 a1) a2 b2 W hG
  rw [byte_nat b0, byte_nat b1] at h
  exact h.mono fun _ _ h => to_below13 h
end Go.Proofs.YthbheobjhpmoeaaDoor
