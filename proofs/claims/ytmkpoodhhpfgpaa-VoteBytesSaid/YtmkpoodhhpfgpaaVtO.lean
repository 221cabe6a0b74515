/- The laws' arguments, opened: a ballot, rows of ints, seven ints, askings, bytes. -/
import Derived.Test.YtmkpoodhhpfgpaaVtI
import Derived.Deep.MidRow
import Derived.OpenShut
import Derived.ChangeSlices
set_option linter.unusedVariables false
set_option linter.unusedSimpArgs false
namespace Go.Proofs.Ytmkpoodhhpfgpaa
open Go.RowKit Go.ChangeShapes Go.WideShapes Go.ChangeAt
def i64R (n : Int) : Prop := -9223372036854775808 ≤ n ∧ n < 9223372036854775808
set_option maxRecDepth 100000 in
theorem addr_zeroV (a : Addr) : a.add 0 = a := by unfold Addr.add; split <;> simp_all
set_option maxRecDepth 100000 in
theorem rangeAt_ofV {w : World} {base : Nat} {a : Addr} {n : Nat} {cs : List Value} (h : w.cells? base a n = some cs) (hn : 0 < n) : a.spot = none ∧ w.rangeAt a.block a.off cs ∧ a.block < w.heap.size ∧ cs.length = n := by
  obtain ⟨hb, hl, hc⟩ := World.cells?_some h
  have h0 := hc 0 hn
  have hsp : a.spot = none := by
    rw [addr_zeroV] at h0
    unfold World.cell? at h0
    cases hh : a.spot with
    | none => rfl
    | some z =>
      rw [hh] at h0
      rw [List.getElem?_eq_getElem (by omega)] at h0
      revert h0
      split <;> simp
  refine ⟨hsp, fun j v hj => ?_, World.cells?_block h hn, hl⟩
  have hj' := (List.getElem?_eq_some_iff.1 hj).1
  have := hc j (by omega)
  rw [hj] at this
  rw [← this]
  congr 1
  unfold Addr.add
  split
  · rename_i h; subst h; cases a; simp_all
  · rfl
/-- An asking, plain. -/
structure Asg where
  t : Int
  f : Int
  n : Bool
def Asg.cells (p : Asg) : List Value := [.int .i64 p.t, .int .i64 p.f, .bool p.n]
/-- Askings that came in. -/
def AsgAt (w : World) (A : Option Addr) (l : List Asg) : Prop := ∀ i p, l[i]? = some p → i64R p.t ∧ i64R p.f ∧ ∃ b o, A = some ⟨b, o, none⟩ ∧ b < w.heap.size ∧ w.cell? ⟨b, o + i * 3, none⟩ = some (.int .i64 p.t) ∧ w.cell? ⟨b, o + i * 3 + 1, none⟩ = some (.int .i64 p.f) ∧ w.cell? ⟨b, o + i * 3 + 2, none⟩ = some (.bool p.n)
section
variable {H : Type} {enc : TypeId × Value → H} {W : World} {fuel : Nat} {x : DataW H × List MemPlace}
set_option maxRecDepth 100000 in
theorem trod_two {t : TypeId} {cs : List Value} (hu : t = 23) (h : DataW.trod enc Try.prog W 0 (fun _ => true) true fuel t cs = some x) : ∃ a f : Int, cs = [.int .i64 a, .int .i64 f] ∧ i64R a ∧ i64R f := by
  subst hu
  obtain ⟨xs, m, -, -, hl, hxl, hall⟩ := DataW.trod_struct Try.underlying23 h
  rw [show Try.prog.cellsOf 23 = 2 by kernel_rfl] at hl
  have hx2 : xs.length = 2 := hxl
  have g0 : xs[0]? = some xs[0] := List.getElem?_eq_getElem (by omega)
  have g1 : xs[1]? = some xs[1] := List.getElem?_eq_getElem (by omega)
  have h0 : DataW.trod enc Try.prog W 0 (fun _ => true) true m 3 ((cs.drop 0).take (Try.prog.cellsOf 3)) = some xs[0] := (hall 0 _ rfl).trans g0
  have h1 : DataW.trod enc Try.prog W 0 (fun _ => true) true m 3 ((cs.drop 1).take (Try.prog.cellsOf 3)) = some xs[1] := (hall 1 _ rfl).trans g1
  rw [show Try.prog.cellsOf 3 = 1 by kernel_rfl] at h0 h1
  obtain ⟨a, e0, -, w0⟩ := DataW.trod_int Try.underlying3 h0
  obtain ⟨f, e1, -, w1⟩ := DataW.trod_int Try.underlying3 h1
  have b0 := bounds_i64 w0
  have b1 := bounds_i64 w1
  refine ⟨a, f, ?_, ⟨b0.1, by omega⟩, ⟨b1.1, by omega⟩⟩
  have e : cs = (cs.drop 0).take 1 ++ (cs.drop 1).take 1 := by
    rw [List.take_of_length_le (l := cs.drop 1) (by simp; omega), List.drop_zero, List.take_append_drop]
  rw [e, e0, e1]; rfl
set_option maxRecDepth 100000 in
theorem open_ballot {r : Reach} {b0 : Nat} {v : Value} {d : DataW H} {p : List MemPlace} (hval : Value.okWide Try.prog W r b0 23 v) (hd : DataW.Trod enc Try.prog W 0 (fun _ => true) true 23 v d p) :
    ∃ t f : Int, v = blV t f ∧ i64R t ∧ i64R f := by
  have hv : ∃ cs, v = .agg cs := by
    simp only [Value.okWide, Try.underlying23] at hval
    obtain ⟨cs, h1, _⟩ := hval
    exact ⟨cs, h1⟩
  obtain ⟨ca, rfl⟩ := hv
  obtain ⟨fuel, hf⟩ := hd
  obtain ⟨t, f, e, h1, h2⟩ := trod_two rfl hf
  refine ⟨t, f, ?_, h1, h2⟩
  have hca : ca = ((Value.agg ca).cells.toList).toArray := by simp [Value.cells]
  rw [hca, e]
set_option maxRecDepth 100000 in
theorem open_intsV {r : Reach} {b0 : Nat} {v : Value} {d : DataW H} {p : List MemPlace} (hval : Value.okWide Try.prog W r b0 31 v) (hd : DataW.Trod enc Try.prog W 0 (fun _ => true) true 31 v d p) :
    ∃ (A : Option Addr) (c : Nat) (zs : List Int), v = .slice A zs.length c ∧ Sl W W.heap.size A (i64s zs) ∧ (A = none → c = 0) ∧ zs.length ≤ c ∧ zs.length ≤ maxLen := by
  obtain ⟨a0, len, cap, rfl⟩ := okWide_slice Try.underlying31 hval
  obtain ⟨fuel, hf⟩ := hd
  rcases open_ints Try.underlying31 Try.underlying3 (by kernel_rfl) hf with ⟨hcs, hx⟩ | ⟨a, len', cap', zs, hcs, _, hl, hm, hz, hx, hcell, hwz⟩
  · simp [Value.cells] at hcs
    obtain ⟨rfl, rfl, rfl⟩ := hcs
    exact ⟨_, 0, [], rfl, Sl.none _ _ _, (fun _ => rfl), by simp, by simp⟩
  · simp [Value.cells] at hcs
    obtain ⟨rfl, rfl, rfl⟩ := hcs
    have hzl : zs.length = cap := by simpa using hz
    have hlen : (zs.take len).length = len := by simp; omega
    refine ⟨some a, cap, zs.take len, by rw [hlen], ?_, (fun h => by cases h), by omega, by omega⟩
    intro j u hu
    unfold i64s at hu
    rw [List.getElem?_map, Option.map_eq_some_iff] at hu
    obtain ⟨z, hz1, rfl⟩ := hu
    have hj : j < len := by have := (List.getElem?_eq_some_iff.1 hz1).1; omega
    have hzj : zs[j]? = some z := by rw [List.getElem?_take, if_pos hj] at hz1; exact hz1
    have h1 := hcell j (by omega)
    refine ⟨a, rfl, ?_, ?_⟩
    · have := World.block_lt_of_cell? W _ h1
      rwa [add_block] at this
    · rw [h1]; simp_all
set_option maxRecDepth 100000 in
theorem trod_asg {cs : List Value} (h : DataW.trod enc Try.prog W 0 (fun _ => true) true fuel 38 cs = some x) : ∃ p : Asg, cs = p.cells ∧ i64R p.t ∧ i64R p.f := by
  obtain ⟨xs, m, -, -, hl, hxl, hall⟩ := DataW.trod_struct Try.underlying38 h
  rw [show Try.prog.cellsOf 38 = 3 by kernel_rfl] at hl
  have hx3 : xs.length = 3 := hxl
  have g0 : xs[0]? = some xs[0] := List.getElem?_eq_getElem (by omega)
  have g1 : xs[1]? = some xs[1] := List.getElem?_eq_getElem (by omega)
  have g2 : xs[2]? = some xs[2] := List.getElem?_eq_getElem (by omega)
  have h0 : DataW.trod enc Try.prog W 0 (fun _ => true) true m 3 ((cs.drop 0).take (Try.prog.cellsOf 3)) = some xs[0] := (hall 0 _ rfl).trans g0
  have h1 : DataW.trod enc Try.prog W 0 (fun _ => true) true m 3 ((cs.drop 1).take (Try.prog.cellsOf 3)) = some xs[1] := (hall 1 _ rfl).trans g1
  have h2 : DataW.trod enc Try.prog W 0 (fun _ => true) true m 4 ((cs.drop 2).take (Try.prog.cellsOf 4)) = some xs[2] := (hall 2 _ rfl).trans g2
  rw [show Try.prog.cellsOf 3 = 1 by kernel_rfl] at h0 h1
  rw [show Try.prog.cellsOf 4 = 1 by kernel_rfl] at h2
  obtain ⟨a, e0, -, w0⟩ := DataW.trod_int Try.underlying3 h0
  obtain ⟨f, e1, -, w1⟩ := DataW.trod_int Try.underlying3 h1
  obtain ⟨s, e2, -⟩ := DataW.trod_bool Try.underlying4 h2
  have b0 := bounds_i64 w0
  have b1 := bounds_i64 w1
  refine ⟨⟨a, f, s⟩, ?_, ⟨b0.1, by simp only; omega⟩, ⟨b1.1, by simp only; omega⟩⟩
  have e : cs = (cs.drop 0).take 1 ++ ((cs.drop 1).take 1 ++ (cs.drop 2).take 1) := by
    rw [List.take_of_length_le (l := cs.drop 2) (by simp; omega), show cs.drop 2 = (cs.drop 1).drop 1 by simp, List.take_append_drop, show cs.drop 1 = (cs.drop 0).drop 1 by simp, List.take_append_drop]; simp
  rw [e, e0, e1, e2]; rfl
set_option maxRecDepth 100000 in
theorem open_asks {r : Reach} {b0 : Nat} {v : Value} {d : DataW H} {p : List MemPlace} (hval : Value.okWide Try.prog W r b0 35 v) (hd : DataW.Trod enc Try.prog W 0 (fun _ => true) true 35 v d p) :
    ∃ (A : Option Addr) (c : Nat) (l : List Asg), v = .slice A l.length c ∧ AsgAt W A l ∧ (A = none → c = 0) ∧ l.length ≤ c ∧ l.length ≤ maxLen := by
  obtain ⟨a0, len, cap, rfl⟩ := okWide_slice Try.underlying35 hval
  obtain ⟨fuel, hf⟩ := hd
  rcases DataW.trod_slice Try.underlying35 hf with ⟨hcs, -⟩ | ⟨a, len', cap', elems, rest, m, -, hcs, -, -, hl, hm, hel, hall, -, -⟩
  · simp [Value.cells] at hcs
    obtain ⟨rfl, rfl, rfl⟩ := hcs
    exact ⟨none, 0, [], rfl, fun i f h => by simp at h, fun _ => rfl, by simp, by simp⟩
  · simp [Value.cells] at hcs
    obtain ⟨rfl, rfl, rfl⟩ := hcs
    have c3 : Try.prog.cellsOf 38 = 3 := by kernel_rfl
    have each : ∀ i, i < len → ∃ q : Asg, (i64R q.t ∧ i64R q.f) ∧ (i = 0 → a.spot = none) ∧ a.block < W.heap.size ∧ W.rangeAt a.block (a.off + i * 3) q.cells := by
      intro i hi
      have h := hall i hi
      rw [c3, List.getElem?_eq_getElem (by omega), Option.bind_eq_some_iff] at h
      obtain ⟨cs, hcs, ht⟩ := h
      obtain ⟨q, rfl, hok⟩ := trod_asg ht
      obtain ⟨hsp, hr, hbl, -⟩ := rangeAt_ofV hcs (by omega)
      have hadd : (a.add (i * 3)).block = a.block := add_block _ _
      refine ⟨q, hok, ?_, by rw [← hadd]; exact hbl, ?_⟩
      · rintro rfl
        rw [Nat.zero_mul, addr_zeroV] at hsp; exact hsp
      · rw [hadd] at hr
        have : (a.add (i * 3)).off = a.off + i * 3 := by unfold Addr.add; split <;> simp_all
        rwa [this] at hr
    have hlen : ((List.range len).map fun i => if h : i < len then (each i h).choose else ⟨0, 0, false⟩).length = len := by simp
    refine ⟨some a, cap, (List.range len).map fun i => if h : i < len then (each i h).choose else ⟨0, 0, false⟩, by rw [hlen], ?_, (fun h => by cases h), by omega, by omega⟩
    intro i q hq
    have hi : i < len := by have := (List.getElem?_eq_some_iff.1 hq).1; simpa using this
    simp [hi] at hq
    have hsp := (each 0 (by omega)).choose_spec.2.1 rfl
    obtain ⟨h1, h3, h4, h5⟩ := (each i hi).choose_spec
    rw [hq] at h1 h5
    refine ⟨h1.1, h1.2, a.block, a.off, ?_, h4, ?_, ?_, ?_⟩
    · cases a; simp_all
    · have := h5 0 (.int .i64 q.t) rfl
      simpa using this
    · exact h5 1 _ rfl
    · exact h5 2 _ rfl
end
end Go.Proofs.Ytmkpoodhhpfgpaa
