/- Merged: What the document's Read of a record wants: a field taken, and where it lies; a record's results. -/
import Derived.Test.YtajdcekkmikbcaaDoorM28
import Derived.Test.YtajdcekkmikbcaaDoorM30
namespace Go.Proofs.YtajdcekkmikbcaaDoor
section
set_option linter.unusedVariables false
set_option linter.unusedSimpArgs false
open Go.RowKit
set_option maxRecDepth 100000
theorem Gt.atR (g : Gt) (C : Array Value) (hC : C = g.cells.toArray) (hd : g.f.d.length = 32) {w : World} {b : Nat} {t : TypeId} (h : w.heap[b]? = some (.cells C t (0, 0))) : rowOf w b 3 32 = some (g.f.d.map bv).toArray := by
  refine rowOf_eq (by simp [hd]) (fun j v hj => ?_)
  rw [cell_of_row _ _ _ _ _ _ h, hC, List.getElem?_toArray]
  have hlj := (List.getElem?_eq_some_iff.1 hj).1
  show ((g.f.cells) ++ [Value.int .i64 (g.e : Int), .slice g.A g.l.length g.c])[3 + j]? = some v
  unfold Fd.cells
  rw [List.append_assoc, List.getElem?_append_right (by simp), List.getElem?_append_left (by simp at hlj ⊢; omega)]
  simpa using hj
theorem got_info' : (Tryd.prog.info? 119).map (·.size) = some 37 := by kernel_rfl
theorem zero_field' (w : World) : (zeroValue 117).run Tryd.prog w = .ok (.agg Z35) w := zero_field w
theorem zero_got' (w : World) : (zeroValue 119).run Tryd.prog w = .ok (.agg Z37) w := zero_got w
/-- A field that is asked for. -/
def tF (k : Int) (n : Nat) : Fd := ⟨k, n, none, 0, [], zeros 32⟩
theorem tF_cells (k : Int) (n : Nat) : (tF k n).cells.toArray = FL k n := rfl
/-- What a taken field's block holds. -/
structure QF (w : World) (Q : Nat) (g : Gt) : Prop where
  n : w.cell? ⟨Q, 1, none⟩ = some (.int .u64 (g.f.n : Int))
  b : w.cell? ⟨Q, 2, none⟩ = some (.slice g.f.A g.f.b.length g.f.c)
  e : w.cell? ⟨Q, 35, none⟩ = some (.int .i64 (g.e : Int))
  l : w.cell? ⟨Q, 36, none⟩ = some (.slice g.A g.l.length g.c)
  d : rowOf w Q 3 32 = some (g.f.d.map bv).toArray
def GBl (w : World) (Q : Nat) (g : Gt) : Prop := w.heap[Q]? = some (.cells g.cells.toArray 119 (0, 0)) ∧ g.f.d.length = 32
theorem GBl.facts {w : World} {Q : Nat} {g : Gt} (h : GBl w Q g) : QF w Q g := by
  obtain ⟨h, hd⟩ := h
  obtain ⟨-, -, a1, a2, a35, a36⟩ := g.at _ rfl hd
  refine ⟨?_, ?_, ?_, ?_, g.atR _ rfl hd h⟩ <;> (rw [cell_of_row _ _ _ _ _ _ h]; assumption)
theorem GBl.turn {S : Nat → Prop} {w w' : World} {Q : Nat} {g : Gt} (h : GBl w Q g) (t : Turn S w w') (hS : ¬ S Q) : GBl w' Q g := ⟨t.heap h.1 hS, h.2⟩
theorem gkeep (g : Gt) (h : g.f.d.length = 32) : (Tryd.prog.info? 119).map (·.size) = some g.cells.toArray.size ∧ g.cells.toArray.size = 37 ∧ g.cells.toArray.all (·.oneCell') = true := by
  obtain ⟨sC, oC, -⟩ := g.at _ rfl h
  exact ⟨by rw [sC]; exact got_info', sC, oC⟩
/-- A record's cells. -/
abbrev ZRc : Array Value := #[.int .i64 0, .int .i64 0, .int .i64 0, .slice none 0 0]
theorem zero_rc (w : World) : (zeroValue 84).run Tryd.prog w = .ok (.agg ZRc) w := by kernel_rfl
theorem rc_info : (Tryd.prog.info? 84).map (·.size) = some 4 := by kernel_rfl
theorem results_rc {fn : Func} {p u : Tmp} (h : fn.results = #[.cell p 84, .tmp u]) (tmps : Array Value) (w : World) (g : Nat) (cs : Array Value) (v : Value)
    (hp : tmps.getD p undef = .pointer (some ⟨g, 0, none⟩)) (hv : tmps.getD u undef = v) (hg : w.heap[g]? = some (.cells cs 84 (0, 0))) (hc : cs.size = 4) :
    (results fn tmps).run Tryd.prog w = .ok (.tuple #[.agg cs, v]) w := by
  rw [results_cell_tmp h, hp, hv]
  simp [asAddr, run_loadVar_row w g 84 84 cs (0, 0) _ hg Tryd.underlying84 rfl (by rw [hc]; kernel_rfl), Result.andThen]
end
end Go.Proofs.YtajdcekkmikbcaaDoor
