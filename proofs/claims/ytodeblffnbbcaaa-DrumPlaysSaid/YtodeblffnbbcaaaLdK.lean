/- Slices of bytes and of bools that came in. -/
import Derived.Test.YtodeblffnbbcaaaLdJ
import Derived.Test.YtodeblffnbbcaaaDrL
import Derived.Test.YtodeblffnbbcaaaPick
import Derived.OpenShut
import Derived.ChangeSlices
import Derived.ChangeArms
set_option linter.unusedVariables false
namespace Go.Proofs.Ytodeblffnbbcaaa
open Go.RowKit Go.ChangeShapes Go.WideShapes Go.ChangeAt
theorem open_bytes {H : Type} {enc : TypeId × Value → H} {W : World} {r : Reach} {b0 : Nat} {v : Value} {d : DataW H} {p : List MemPlace} (hval : Value.okWide Try.prog W r b0 28 v) (hd : DataW.Trod enc Try.prog W 0 (fun _ => true) true 28 v d p) :
    ∃ (A : Option Addr) (c : Nat) (xs : List B8), v = .slice A xs.length c ∧ Sl W W.heap.size A (xs.map bv) ∧ (A = none → c = 0) ∧ xs.length ≤ c ∧ xs.length ≤ maxLen := by
  obtain ⟨a0, len, cap, rfl⟩ := okWide_slice Try.underlying28 hval
  obtain ⟨fuel, hf⟩ := hd
  obtain ⟨A, c, xs, e, h⟩ := trod_bytes hf
  simp [Value.cells] at e
  obtain ⟨rfl, rfl, rfl⟩ := e
  exact ⟨_, _, xs, rfl, h⟩
def bov (b : Bool) : Value := .bool b
theorem open_bools {H : Type} {enc : TypeId × Value → H} {W : World} {r : Reach} {b0 : Nat} {v : Value} {d : DataW H} {p : List MemPlace} (hval : Value.okWide Try.prog W r b0 52 v) (hd : DataW.Trod enc Try.prog W 0 (fun _ => true) true 52 v d p) :
    ∃ (A : Option Addr) (c : Nat) (xs : List Bool), v = .slice A xs.length c ∧ Sl W W.heap.size A (xs.map bov) ∧ (A = none → c = 0) ∧ xs.length ≤ c ∧ xs.length ≤ maxLen := by
  obtain ⟨a0, len, cap, rfl⟩ := okWide_slice Try.underlying52 hval
  obtain ⟨fuel, hf⟩ := hd
  rcases DataW.trod_slice Try.underlying52 hf with ⟨hcs, -⟩ | ⟨a, len', cap', elems, rest, m, -, hcs, -, -, hl, hm, hel, hall, -, -⟩
  · simp [Value.cells] at hcs
    obtain ⟨rfl, rfl, rfl⟩ := hcs
    exact ⟨none, 0, [], rfl, Sl.none _ _ _, fun _ => rfl, by simp, by simp⟩
  · simp [Value.cells] at hcs
    obtain ⟨rfl, rfl, rfl⟩ := hcs
    have c31 : Try.prog.cellsOf 4 = 1 := by kernel_rfl
    have each : ∀ i, i < len → ∃ b : Bool, W.cell? (a.add i) = some (.bool b) := by
      intro i hi
      have h := hall i hi
      rw [c31, List.getElem?_eq_getElem (by omega), Option.bind_eq_some_iff] at h
      obtain ⟨cs, hcs, ht⟩ := h
      obtain ⟨b, rfl, -⟩ := DataW.trod_bool Try.underlying4 ht
      obtain ⟨hb, hl, hc⟩ := World.cells?_some hcs
      have h0 := hc 0 (by omega)
      rw [Nat.mul_one, addr_zero] at h0
      exact ⟨b, h0⟩
    have hlen : ((List.range len).map fun i => if h : i < len then (each i h).choose else false).length = len := by simp
    refine ⟨some a, cap, (List.range len).map fun i => if h : i < len then (each i h).choose else false, by rw [hlen], ?_, (fun h => by cases h), by omega, by omega⟩
    intro j u hu
    have hj : j < len := by have := (List.getElem?_eq_some_iff.1 hu).1; simpa using this
    simp [hj] at hu
    have h1 := (each j hj).choose_spec
    refine ⟨a, rfl, ?_, ?_⟩
    · have := World.block_lt_of_cell? W _ h1
      rwa [add_block] at this
    · rw [h1, ← hu]; rfl
end Go.Proofs.Ytodeblffnbbcaaa
