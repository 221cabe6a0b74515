/- An entry that came in, opened; the walks as the laws' frames ask them. -/
import Derived.Test.YtomflniknnenaaaEnJ
set_option linter.unusedVariables false
set_option linter.unusedSimpArgs false
namespace Go.Proofs.Ytomflniknnenaaa
open Go.RowKit Go.ChangeShapes Go.WideShapes Go.ChangeAt
section
variable {H : Type} {enc : TypeId × Value → H} {W : World} {fuel : Nat} {x : DataW H × List MemPlace}
set_option maxRecDepth 100000 in
theorem trod_entry {cs : List Value} (h : DataW.trod enc Try.prog W 0 (fun _ => true) true fuel 26 cs = some x) : ∃ e : Ent, cs = e.cells ∧ e.d.length = 32 := by
  obtain ⟨xs, m, -, -, hl, hxl, hall⟩ := DataW.trod_struct Try.underlying26 h
  rw [show Try.prog.cellsOf 26 = 37 by kernel_rfl] at hl
  have hx6 : xs.length = 6 := hxl
  have g0 : xs[0]? = some xs[0] := List.getElem?_eq_getElem (by omega)
  have g1 : xs[1]? = some xs[1] := List.getElem?_eq_getElem (by omega)
  have g2 : xs[2]? = some xs[2] := List.getElem?_eq_getElem (by omega)
  have g3 : xs[3]? = some xs[3] := List.getElem?_eq_getElem (by omega)
  have g4 : xs[4]? = some xs[4] := List.getElem?_eq_getElem (by omega)
  have g5 : xs[5]? = some xs[5] := List.getElem?_eq_getElem (by omega)
  have h0 : DataW.trod enc Try.prog W 0 (fun _ => true) true m 3 ((cs.drop 0).take (Try.prog.cellsOf 3)) = some xs[0] := (hall 0 _ rfl).trans g0
  have h1 : DataW.trod enc Try.prog W 0 (fun _ => true) true m 3 ((cs.drop 1).take (Try.prog.cellsOf 3)) = some xs[1] := (hall 1 _ rfl).trans g1
  have h2 : DataW.trod enc Try.prog W 0 (fun _ => true) true m 23 ((cs.drop 2).take (Try.prog.cellsOf 23)) = some xs[2] := (hall 2 _ rfl).trans g2
  have h3 : DataW.trod enc Try.prog W 0 (fun _ => true) true m 24 ((cs.drop 34).take (Try.prog.cellsOf 24)) = some xs[3] := (hall 3 _ rfl).trans g3
  have h4 : DataW.trod enc Try.prog W 0 (fun _ => true) true m 3 ((cs.drop 35).take (Try.prog.cellsOf 3)) = some xs[4] := (hall 4 _ rfl).trans g4
  have h5 : DataW.trod enc Try.prog W 0 (fun _ => true) true m 3 ((cs.drop 36).take (Try.prog.cellsOf 3)) = some xs[5] := (hall 5 _ rfl).trans g5
  rw [show Try.prog.cellsOf 3 = 1 by kernel_rfl] at h0 h1 h4 h5
  rw [show Try.prog.cellsOf 24 = 1 by kernel_rfl] at h3
  rw [show Try.prog.cellsOf 23 = 32 by kernel_rfl] at h2
  obtain ⟨k, e0, -, w0⟩ := DataW.trod_int Try.underlying3 h0
  obtain ⟨s, e1, -, w1⟩ := DataW.trod_int Try.underlying3 h1
  obtain ⟨d, hd, e2⟩ := trod_id h2
  obtain ⟨a, e3, -, w3⟩ := DataW.trod_int Try.underlying24 h3
  obtain ⟨y, e4, -, w4⟩ := DataW.trod_int Try.underlying3 h4
  obtain ⟨p, e5, -, w5⟩ := DataW.trod_int Try.underlying3 h5
  have b3 := bounds_u64 w3
  refine ⟨⟨k, s, d, a.toNat, y, p⟩, ?_, hd⟩
  have e : cs = (cs.drop 0).take 1 ++ ((cs.drop 1).take 1 ++ ((cs.drop 2).take 32 ++ ((cs.drop 34).take 1 ++ ((cs.drop 35).take 1 ++ (cs.drop 36).take 1)))) := by
    rw [List.take_of_length_le (l := cs.drop 36) (by simp; omega)]
    rw [show cs.drop 36 = (cs.drop 35).drop 1 by simp, List.take_append_drop, show cs.drop 35 = (cs.drop 34).drop 1 by simp, List.take_append_drop, show cs.drop 34 = (cs.drop 2).drop 32 by simp, List.take_append_drop, show cs.drop 2 = (cs.drop 1).drop 1 by simp, List.take_append_drop, show cs.drop 1 = (cs.drop 0).drop 1 by simp, List.take_append_drop]
    simp
  rw [e, e0, e1, e2, e3, e4, e5]
  simp [Ent.cells, Int.toNat_of_nonneg b3.1]
end
set_option maxRecDepth 100000 in
theorem open_entry {H : Type} {enc : TypeId × Value → H} {W : World} {r : Reach} {b0 : Nat} {v : Value} {d : DataW H} {p : List MemPlace} (hval : Value.okWide Try.prog W r b0 26 v) (hd : DataW.Trod enc Try.prog W 0 (fun _ => true) true 26 v d p) :
    ∃ e : Ent, v = .agg e.cells.toArray ∧ e.d.length = 32 := by
  have hv : ∃ cs, v = .agg cs := by
    simp only [Value.okWide, Try.underlying26] at hval
    obtain ⟨cs, h1, _⟩ := hval
    exact ⟨cs, h1⟩
  obtain ⟨ca, rfl⟩ := hv
  obtain ⟨fuel, hf⟩ := hd
  obtain ⟨e, he, hl⟩ := trod_entry hf
  refine ⟨e, ?_, hl⟩
  have hca : ca = ((Value.agg ca).cells.toList).toArray := by simp [Value.cells]
  rw [hca, he]
set_option maxRecDepth 100000 in
theorem entryForms_walk (e : Ent) (w : World) (hd : e.d.length = 32) :
    Calls Try.prog 3 #[.agg e.cells.toArray] w fun r w' => r = .returned (.bool true) ∧ Below w.heap.size w w' :=
  (entryForms_any e w hd).mono fun _ _ ⟨h1, h2⟩ => ⟨h1, turn_stp' h2⟩
end Go.Proofs.Ytomflniknnenaaa
