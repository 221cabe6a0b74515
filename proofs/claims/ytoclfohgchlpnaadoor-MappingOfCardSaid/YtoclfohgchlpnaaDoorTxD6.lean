/- Transactions that came in, opened. -/
import Derived.Test.YtoclfohgchlpnaaDoorTxD4
set_option linter.unusedVariables false
set_option linter.unusedSimpArgs false
namespace Go.Proofs.YtoclfohgchlpnaaDoor
open Go.RowKit Go.ChangeShapes Go.WideShapes Go.ChangeAt
section
variable {H : Type} {enc : TypeId × Value → H} {W : World} {fuel : Nat} {x : DataW H × List MemPlace}
set_option maxRecDepth 100000 in
theorem two_parts {n m : Nat} {cs : List Value} (h : cs.length = n + m) : cs = (cs.drop 0).take n ++ (cs.drop n).take m := by
  rw [List.drop_zero, List.take_of_length_le (l := cs.drop n) (by simp; omega), List.take_append_drop]
set_option maxRecDepth 100000 in
theorem trod_point {cs : List Value} (h : DataW.trod enc Tryd.prog W 0 (fun _ => true) true fuel 25 cs = some x) : ∃ (d : List B8) (z : Int), d.length = 32 ∧ -9223372036854775808 ≤ z ∧ z < 9223372036854775808 ∧ cs = d.map bv ++ [.int .i64 z] := by
  obtain ⟨xs, m, -, -, hl, hxl, hall⟩ := DataW.trod_struct Tryd.underlying25 h
  rw [show Tryd.prog.cellsOf 25 = 33 by kernel_rfl] at hl
  have hx2 : xs.length = 2 := hxl
  have g0 : xs[0]? = some xs[0] := List.getElem?_eq_getElem (by omega)
  have g1 : xs[1]? = some xs[1] := List.getElem?_eq_getElem (by omega)
  have h0 : DataW.trod enc Tryd.prog W 0 (fun _ => true) true m 23 ((cs.drop 0).take (Tryd.prog.cellsOf 23)) = some xs[0] := (hall 0 _ rfl).trans g0
  have h1 : DataW.trod enc Tryd.prog W 0 (fun _ => true) true m 3 ((cs.drop 32).take (Tryd.prog.cellsOf 3)) = some xs[1] := (hall 1 _ rfl).trans g1
  rw [show Tryd.prog.cellsOf 23 = 32 by kernel_rfl] at h0
  rw [show Tryd.prog.cellsOf 3 = 1 by kernel_rfl] at h1
  obtain ⟨d, hd, e0⟩ := trod_id h0
  obtain ⟨z, e1, -, w1⟩ := DataW.trod_int Tryd.underlying3 h1
  have b1 := bounds_i64 w1
  exact ⟨d, z, hd, b1.1, by omega, by rw [two_parts (n := 32) (m := 1) hl, e0, e1]⟩
set_option maxRecDepth 100000 in
theorem trod_in {cs : List Value} (h : DataW.trod enc Tryd.prog W 0 (fun _ => true) true fuel 58 cs = some x) : ∃ (p : Pin) (S : Option Addr) (c : Nat), cs = p.cells S c ∧ p.ok ∧ BAt W W.heap.size S c p.b := by
  obtain ⟨xs, m, -, -, hl, hxl, hall⟩ := DataW.trod_struct Tryd.underlying58 h
  rw [show Tryd.prog.cellsOf 58 = 35 by kernel_rfl] at hl
  have hx3 : xs.length = 3 := hxl
  have g0 : xs[0]? = some xs[0] := List.getElem?_eq_getElem (by omega)
  have g1 : xs[1]? = some xs[1] := List.getElem?_eq_getElem (by omega)
  have g2 : xs[2]? = some xs[2] := List.getElem?_eq_getElem (by omega)
  have h0 : DataW.trod enc Tryd.prog W 0 (fun _ => true) true m 25 ((cs.drop 0).take (Tryd.prog.cellsOf 25)) = some xs[0] := (hall 0 _ rfl).trans g0
  have h1 : DataW.trod enc Tryd.prog W 0 (fun _ => true) true m 33 ((cs.drop 33).take (Tryd.prog.cellsOf 33)) = some xs[1] := (hall 1 _ rfl).trans g1
  have h2 : DataW.trod enc Tryd.prog W 0 (fun _ => true) true m 52 ((cs.drop 34).take (Tryd.prog.cellsOf 52)) = some xs[2] := (hall 2 _ rfl).trans g2
  rw [show Tryd.prog.cellsOf 25 = 33 by kernel_rfl] at h0
  rw [show Tryd.prog.cellsOf 33 = 1 by kernel_rfl] at h1
  rw [show Tryd.prog.cellsOf 52 = 1 by kernel_rfl] at h2
  obtain ⟨d, z, hd, z0, z1, e0⟩ := trod_point h0
  obtain ⟨n, e1, -, w1⟩ := DataW.trod_int Tryd.underlying33 h1
  obtain ⟨S, c, b, e2, hs, hA, hc, hm⟩ := trod_bytesS h2
  have b1 := bounds_u64 w1
  refine ⟨⟨d, z, n.toNat, b⟩, S, c, ?_, ⟨hd, z0, z1, by simp only; omega, hm⟩, ⟨hs, hA, hc⟩⟩
  have e : cs = (cs.drop 0).take 33 ++ ((cs.drop 33).take 1 ++ (cs.drop 34).take 1) := by
    rw [List.take_of_length_le (l := cs.drop 34) (by simp; omega), show cs.drop 34 = (cs.drop 33).drop 1 by simp, List.take_append_drop, List.drop_zero, List.take_append_drop]
  rw [e, e0, e1, e2]
  simp [Pin.cells, Int.toNat_of_nonneg b1.1]
set_option maxRecDepth 100000 in
theorem trod_out {cs : List Value} (h : DataW.trod enc Tryd.prog W 0 (fun _ => true) true fuel 60 cs = some x) : ∃ p : Pout, cs = p.cells ∧ p.ok := by
  obtain ⟨xs, m, -, -, hl, hxl, hall⟩ := DataW.trod_struct Tryd.underlying60 h
  rw [show Tryd.prog.cellsOf 60 = 33 by kernel_rfl] at hl
  have hx2 : xs.length = 2 := hxl
  have g0 : xs[0]? = some xs[0] := List.getElem?_eq_getElem (by omega)
  have g1 : xs[1]? = some xs[1] := List.getElem?_eq_getElem (by omega)
  have h0 : DataW.trod enc Tryd.prog W 0 (fun _ => true) true m 23 ((cs.drop 0).take (Tryd.prog.cellsOf 23)) = some xs[0] := (hall 0 _ rfl).trans g0
  have h1 : DataW.trod enc Tryd.prog W 0 (fun _ => true) true m 33 ((cs.drop 32).take (Tryd.prog.cellsOf 33)) = some xs[1] := (hall 1 _ rfl).trans g1
  rw [show Tryd.prog.cellsOf 23 = 32 by kernel_rfl] at h0
  rw [show Tryd.prog.cellsOf 33 = 1 by kernel_rfl] at h1
  obtain ⟨d, hd, e0⟩ := trod_id h0
  obtain ⟨n, e1, -, w1⟩ := DataW.trod_int Tryd.underlying33 h1
  have b1 := bounds_u64 w1
  refine ⟨⟨d, n.toNat⟩, ?_, ⟨hd, by simp only; omega⟩⟩
  rw [two_parts (n := 32) (m := 1) hl, e0, e1]
  simp [Pout.cells, Int.toNat_of_nonneg b1.1]
set_option maxRecDepth 100000 in
theorem trod_ins {cs : List Value} (h : DataW.trod enc Tryd.prog W 0 (fun _ => true) true fuel 31 cs = some x) : ∃ (A : Option Addr) (c : Nat) (l : List Pin), cs = [.slice A l.length c] ∧ InsAt W W.heap.size A l ∧ (A = none → c = 0) ∧ l.length ≤ c ∧ l.length ≤ maxLen := by
  rcases DataW.trod_slice Tryd.underlying31 h with ⟨hcs, -⟩ | ⟨a, len, cap, elems, rest, m, -, hcs, -, -, hl, hm, hel, hall, -, -⟩
  · exact ⟨none, 0, [], hcs, fun i f h => by simp at h, fun _ => rfl, by simp, by simp⟩
  · have c35 : Tryd.prog.cellsOf 58 = 35 := by kernel_rfl
    have each : ∀ i, i < len → ∃ (q : Pin × Option Addr × Nat), q.1.ok ∧ BAt W W.heap.size q.2.1 q.2.2 q.1.b ∧ (i = 0 → a.spot = none) ∧ a.block < W.heap.size ∧ W.rangeAt a.block (a.off + i * 35) (q.1.cells q.2.1 q.2.2) := by
      intro i hi
      have h := hall i hi
      rw [c35, List.getElem?_eq_getElem (by omega), Option.bind_eq_some_iff] at h
      obtain ⟨cs, hcs, ht⟩ := h
      obtain ⟨p, S, c, rfl, hok, hb⟩ := trod_in ht
      obtain ⟨hsp, hr, hbl, -⟩ := rangeAt_of hcs (by omega)
      have hadd : (a.add (i * 35)).block = a.block := add_block _ _
      refine ⟨(p, S, c), hok, hb, ?_, by rw [← hadd]; exact hbl, ?_⟩
      · rintro rfl
        rw [Nat.zero_mul, add_zero] at hsp; exact hsp
      · rw [hadd] at hr
        have : (a.add (i * 35)).off = a.off + i * 35 := by unfold Addr.add; split <;> simp_all
        rwa [this] at hr
    have hlen : ((List.range len).map fun i => if h : i < len then (each i h).choose.1 else ⟨[], 0, 0, []⟩).length = len := by simp
    refine ⟨some a, cap, (List.range len).map fun i => if h : i < len then (each i h).choose.1 else ⟨[], 0, 0, []⟩, by rw [hlen]; exact hcs, ?_, (fun h => by cases h), by omega, by omega⟩
    intro i p hp
    have hi : i < len := by have := (List.getElem?_eq_some_iff.1 hp).1; simpa using this
    simp [hi] at hp
    have hsp := (each 0 (by omega)).choose_spec.2.2.1 rfl
    obtain ⟨h1, h2, h3, h4, h5⟩ := (each i hi).choose_spec
    rw [hp] at h1 h2 h5
    refine ⟨h1, a.block, a.off, _, _, ?_, h4, h2, h5⟩
    cases a; simp_all
set_option maxRecDepth 100000 in
theorem trod_outs {cs : List Value} (h : DataW.trod enc Tryd.prog W 0 (fun _ => true) true fuel 32 cs = some x) : ∃ (A : Option Addr) (c : Nat) (l : List Pout), cs = [.slice A l.length c] ∧ OutsAt W W.heap.size A l ∧ (A = none → c = 0) ∧ l.length ≤ c ∧ l.length ≤ maxLen := by
  rcases DataW.trod_slice Tryd.underlying32 h with ⟨hcs, -⟩ | ⟨a, len, cap, elems, rest, m, -, hcs, -, -, hl, hm, hel, hall, -, -⟩
  · exact ⟨none, 0, [], hcs, fun i f h => by simp at h, fun _ => rfl, by simp, by simp⟩
  · have c33 : Tryd.prog.cellsOf 60 = 33 := by kernel_rfl
    have each : ∀ i, i < len → ∃ q : Pout, q.ok ∧ (i = 0 → a.spot = none) ∧ a.block < W.heap.size ∧ W.rangeAt a.block (a.off + i * 33) q.cells := by
      intro i hi
      have h := hall i hi
      rw [c33, List.getElem?_eq_getElem (by omega), Option.bind_eq_some_iff] at h
      obtain ⟨cs, hcs, ht⟩ := h
      obtain ⟨p, rfl, hok⟩ := trod_out ht
      obtain ⟨hsp, hr, hbl, -⟩ := rangeAt_of hcs (by omega)
      have hadd : (a.add (i * 33)).block = a.block := add_block _ _
      refine ⟨p, hok, ?_, by rw [← hadd]; exact hbl, ?_⟩
      · rintro rfl
        rw [Nat.zero_mul, add_zero] at hsp; exact hsp
      · rw [hadd] at hr
        have : (a.add (i * 33)).off = a.off + i * 33 := by unfold Addr.add; split <;> simp_all
        rwa [this] at hr
    have hlen : ((List.range len).map fun i => if h : i < len then (each i h).choose else ⟨[], 0⟩).length = len := by simp
    refine ⟨some a, cap, (List.range len).map fun i => if h : i < len then (each i h).choose else ⟨[], 0⟩, by rw [hlen]; exact hcs, ?_, (fun h => by cases h), by omega, by omega⟩
    intro i p hp
    have hi : i < len := by have := (List.getElem?_eq_some_iff.1 hp).1; simpa using this
    simp [hi] at hp
    have hsp := (each 0 (by omega)).choose_spec.2.1 rfl
    obtain ⟨h1, h3, h4, h5⟩ := (each i hi).choose_spec
    rw [hp] at h1 h5
    refine ⟨h1, a.block, a.off, ?_, h4, h5⟩
    cases a; simp_all
set_option maxRecDepth 100000 in
theorem open_tx {r : Reach} {b0 : Nat} {v : Value} {d : DataW H} {p : List MemPlace} (hval : Value.okWide Tryd.prog W r b0 35 v) (hd : DataW.Trod enc Tryd.prog W 0 (fun _ => true) true 35 v d p) :
    ∃ (Ai : Option Addr) (ci : Nat) (Ao : Option Addr) (co : Nat) (t : Ptx), v = txV Ai ci Ao co t ∧ TxAt W W.heap.size Ai ci Ao co t := by
  have hv : ∃ cs, v = .agg cs := by
    simp only [Value.okWide, Tryd.underlying35] at hval
    obtain ⟨cs, h1, _⟩ := hval
    exact ⟨cs, h1⟩
  obtain ⟨ca, rfl⟩ := hv
  obtain ⟨fuel, hf⟩ := hd
  obtain ⟨xs, m, -, -, hl, hxl, hall⟩ := DataW.trod_struct Tryd.underlying35 hf
  obtain ⟨cs, hcs⟩ : ∃ cs, cs = (Value.agg ca).cells.toList := ⟨_, rfl⟩
  rw [← hcs] at hl hall
  have hca : ca = cs.toArray := by rw [hcs]; simp [Value.cells]
  rw [show Tryd.prog.cellsOf 35 = 4 by kernel_rfl] at hl
  have hx4 : xs.length = 4 := hxl
  have g0 : xs[0]? = some xs[0] := List.getElem?_eq_getElem (by omega)
  have g1 : xs[1]? = some xs[1] := List.getElem?_eq_getElem (by omega)
  have g2 : xs[2]? = some xs[2] := List.getElem?_eq_getElem (by omega)
  have g3 : xs[3]? = some xs[3] := List.getElem?_eq_getElem (by omega)
  have h0 : DataW.trod enc Tryd.prog W 0 (fun _ => true) true m 31 ((cs.drop 0).take (Tryd.prog.cellsOf 31)) = some xs[0] := (hall 0 _ rfl).trans g0
  have h1 : DataW.trod enc Tryd.prog W 0 (fun _ => true) true m 32 ((cs.drop 1).take (Tryd.prog.cellsOf 32)) = some xs[1] := (hall 1 _ rfl).trans g1
  have h2 : DataW.trod enc Tryd.prog W 0 (fun _ => true) true m 33 ((cs.drop 2).take (Tryd.prog.cellsOf 33)) = some xs[2] := (hall 2 _ rfl).trans g2
  have h3 : DataW.trod enc Tryd.prog W 0 (fun _ => true) true m 3 ((cs.drop 3).take (Tryd.prog.cellsOf 3)) = some xs[3] := (hall 3 _ rfl).trans g3
  rw [show Tryd.prog.cellsOf 31 = 1 by kernel_rfl] at h0
  rw [show Tryd.prog.cellsOf 32 = 1 by kernel_rfl] at h1
  rw [show Tryd.prog.cellsOf 33 = 1 by kernel_rfl] at h2
  rw [show Tryd.prog.cellsOf 3 = 1 by kernel_rfl] at h3
  obtain ⟨Ai, ci, li, e0, hi, hia, hic, him⟩ := trod_ins h0
  obtain ⟨Ao, co, lo, e1, ho, hoa, hoc, hom⟩ := trod_outs h1
  obtain ⟨f, e2, -, w2⟩ := DataW.trod_int Tryd.underlying33 h2
  obtain ⟨z, e3, -, w3⟩ := DataW.trod_int Tryd.underlying3 h3
  have b2 := bounds_u64 w2
  have b3 := bounds_i64 w3
  have e : cs = (cs.drop 0).take 1 ++ ((cs.drop 1).take 1 ++ ((cs.drop 2).take 1 ++ (cs.drop 3).take 1)) := by
    rw [List.take_of_length_le (l := cs.drop 3) (by simp; omega)]
    rw [show cs.drop 3 = (cs.drop 2).drop 1 by simp, List.take_append_drop, show cs.drop 2 = (cs.drop 1).drop 1 by simp, List.take_append_drop, show cs.drop 1 = (cs.drop 0).drop 1 by simp, List.take_append_drop]
    simp
  refine ⟨Ai, ci, Ao, co, ⟨li, lo, f.toNat, z⟩, ?_, ⟨hi, hia, hic, him, ho, hoa, hoc, hom, by simp only; omega, by simp only; omega, by simp only; omega⟩⟩
  rw [hca, e, e0, e1, e2, e3]
  simp [txV, Int.toNat_of_nonneg b2.1]
end
end Go.Proofs.YtoclfohgchlpnaaDoor
