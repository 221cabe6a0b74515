/- Seven ints that came in, opened; the walks as the laws' frames ask them. -/
import Derived.Test.YtmkpoodhhpfgpaaVtN
import Derived.Test.YtmkpoodhhpfgpaaVtO
set_option linter.unusedVariables false
namespace Go.Proofs.Ytmkpoodhhpfgpaa
open Go.RowKit Go.ChangeShapes Go.WideShapes Go.ChangeAt
section
variable {H : Type} {enc : TypeId × Value → H} {W : World}
set_option maxRecDepth 100000 in
theorem open_ints7 {r : Reach} {b0 : Nat} {v : Value} {d : DataW H} {p : List MemPlace} (hval : Value.okWide Try.prog W r b0 40 v) (hd : DataW.Trod enc Try.prog W 0 (fun _ => true) true 40 v d p) :
    ∃ l : List Int, v = .agg (i64s l).toArray ∧ l.length = 7 := by
  have hv : ∃ cs, v = .agg cs := by
    simp only [Value.okWide, Try.underlying40] at hval
    obtain ⟨cs, h1, _⟩ := hval
    exact ⟨cs, h1⟩
  obtain ⟨ca, rfl⟩ := hv
  obtain ⟨fuel, hf⟩ := hd
  obtain ⟨xs, m, -, -, hl, hxl, hall⟩ := DataW.trod_array Try.underlying40 hf
  obtain ⟨cs, hcs⟩ : ∃ cs, cs = (Value.agg ca).cells.toList := ⟨_, rfl⟩
  rw [← hcs] at hl hall
  have hca : ca = cs.toArray := by rw [hcs]; simp [Value.cells]
  have c7 : Try.prog.cellsOf 40 = 7 := by kernel_rfl
  have c1 : Try.prog.cellsOf 3 = 1 := by kernel_rfl
  have hl7 : cs.length = 7 := by rw [hl, c7]
  have hget : ∀ i, i < 7 → ∃ z : Int, cs[i]? = some (.int .i64 z) := by
    intro i hi
    have h := hall i hi
    rw [c1, Nat.mul_one] at h
    rw [List.getElem?_eq_getElem (by omega)] at h
    obtain ⟨z, e1, -, hw⟩ := DataW.trod_int Try.underlying3 h
    have h1 : ((cs.drop i).take 1)[0]? = some (.int .i64 z) := by rw [e1]; rfl
    exact ⟨z, by simpa using h1⟩
  refine ⟨(List.range 7).map fun i => if h : i < 7 then (hget i h).choose else 0, ?_, by simp⟩
  rw [hca]
  congr 2
  apply List.ext_getElem?
  intro i
  by_cases hi : i < 7
  · rw [(hget i hi).choose_spec]
    unfold i64s
    rw [List.getElem?_map, List.getElem?_map, List.getElem?_range hi]
    simp [hi]
  · rw [List.getElem?_eq_none (by omega), List.getElem?_eq_none (by simp [i64s]; omega)]
end
end Go.Proofs.Ytmkpoodhhpfgpaa
