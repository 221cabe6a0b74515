/- An outpoint that came in, opened; 'MappingOf': its walk, as the card asks it. -/
import Derived.Test.YtoclfohgchlpnaaDoorMpV
import Derived.Test.YtoclfohgchlpnaaDoorTxD6
set_option linter.unusedVariables false
set_option linter.unusedSimpArgs false
namespace Go.Proofs.YtoclfohgchlpnaaDoor
open Go.RowKit Go.ChangeShapes Go.WideShapes Go.ChangeAt
set_option maxRecDepth 100000 in
theorem open_point {H : Type} {enc : TypeId × Value → H} {W : World} {r : Reach} {b0 : Nat} {v : Value} {d : DataW H} {p : List MemPlace} (hval : Value.okWide Tryd.prog W r b0 25 v) (hd : DataW.Trod enc Tryd.prog W 0 (fun _ => true) true 25 v d p) :
    ∃ (l : List B8) (z : Int), v = .agg (recV l (.int .i64 z)).toArray ∧ l.length = 32 := by
  have hv : ∃ cs, v = .agg cs := by
    simp only [Value.okWide, Tryd.underlying25] at hval
    obtain ⟨cs, h1, _⟩ := hval
    exact ⟨cs, h1⟩
  obtain ⟨ca, rfl⟩ := hv
  obtain ⟨fuel, hf⟩ := hd
  obtain ⟨l, z, hl, -, -, e⟩ := trod_point hf
  refine ⟨l, z, ?_, hl⟩
  have hca : ca = ((Value.agg ca).cells.toList).toArray := by simp [Value.cells]
  rw [hca, e]; rfl
set_option maxRecDepth 100000 in
theorem mappingOf_walk' (l : List B8) (z n : Int) (w : World) (hl : l.length = 32) (_ : (Lit.int .i64 n).wf = true) (hG : Glob w) :
    Calls Tryd.prog 3 #[.agg (recV l (.int .i64 z)).toArray, .int .i64 n] w fun e w' => e = .returned (.bool true) ∧ Below w.heap.size w w' := mappingOf_walk l z n w hl hG
end Go.Proofs.YtoclfohgchlpnaaDoor
