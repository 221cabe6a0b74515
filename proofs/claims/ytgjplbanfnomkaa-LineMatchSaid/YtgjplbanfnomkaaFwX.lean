/- Merged: Fields that came in (the document's records), read: a slice of them. The contracts of 'kind' and of the document's 'Num' and 'Put'. -/
import Derived.Test.YtgjplbanfnomkaaFldX
import Derived.Deep.MidRow
import Derived.Deep.WholeRow
namespace Go.Proofs.Ytgjplbanfnomkaa
section
set_option linter.unusedVariables false

open Go.RowKit Go.ChangeShapes Go.WideShapes Go.ChangeAt
/-- A field's record, as it lies. -/
structure Fd where
  k : Int
  n : Nat
  A : Option Addr
  c : Nat
  b : List B8
  d : List B8
def Fd.cells (f : Fd) : List Value := [.int .i64 f.k, .int .u64 (f.n : Int), .slice f.A f.b.length f.c] ++ f.d.map bv
/-- A record whose bytes lie below block B. -/
structure Fd.ok (f : Fd) (w : World) (B : Nat) : Prop where
  k0 : -9223372036854775808 ≤ f.k
  k1 : f.k < 9223372036854775808
  n : f.n < 18446744073709551616
  s : Sl w B f.A (f.b.map bv)
  a : f.A = none → f.c = 0
  c : f.b.length ≤ f.c
  m : f.b.length ≤ maxLen
  d : f.d.length = 32
set_option maxRecDepth 100000 in
theorem Fd.len (f : Fd) (h : f.d.length = 32) : f.cells.length = 35 := by simp [Fd.cells, h]
set_option maxRecDepth 100000 in
theorem rangeAt_of {w : World} {base : Nat} {a : Addr} {n : Nat} {cs : List Value} (h : w.cells? base a n = some cs) (hn : 0 < n) : a.spot = none ∧ w.rangeAt a.block a.off cs ∧ a.block < w.heap.size ∧ cs.length = n := by
  obtain ⟨hb, hl, hc⟩ := World.cells?_some h
  have h0 := hc 0 hn
  have hsp : a.spot = none := by
    rw [add_zero] at h0
    unfold World.cell? at h0
    cases hh : a.spot with
    | none => rfl
    | some z =>
      rw [hh] at h0
      rw [List.getElem?_eq_getElem (by omega)] at h0
      revert h0
      split <;> simp
  refine ⟨hsp, fun j v hj => ?_, World.cells?_block h hn, hl⟩
  have hj' := (List.getElem?_eq_some_iff.1 hj).1
  have := hc j (by omega)
  rw [hj] at this
  rw [← this]
  congr 1
  unfold Addr.add
  split
  · rename_i h; subst h; cases a; simp_all
  · rfl
section
variable {H : Type} {enc : TypeId × Value → H} {W : World} {fuel : Nat} {x : DataW H × List MemPlace}
set_option maxRecDepth 100000 in
theorem trod_id {cs : List Value} (h : DataW.trod enc Try.prog W 0 (fun _ => true) true fuel 90 cs = some x) : ∃ l : List B8, l.length = 32 ∧ cs = l.map bv := by
  obtain ⟨xs, m, -, -, hl, hxl, hall⟩ := DataW.trod_array Try.underlying90 h
  have c26 : Try.prog.cellsOf 90 = 32 := by kernel_rfl
  have c5 : Try.prog.cellsOf 5 = 1 := by kernel_rfl
  have hl32 : cs.length = 32 := by rw [hl, c26]
  have hget : ∀ i, i < 32 → ∃ x : B8, cs[i]? = some (bv x) := by
    intro i hi
    have h := hall i hi
    rw [c5, Nat.mul_one] at h
    rw [List.getElem?_eq_getElem (by omega)] at h
    obtain ⟨z, e1, -, hw⟩ := DataW.trod_int Try.underlying5 h
    have h1 : cs[i]? = some (.int .u8 z) := by
      have : ((cs.drop i).take 1)[0]? = some (.int .u8 z) := by rw [e1]; rfl
      simpa using this
    have hb := bounds_u8 hw
    refine ⟨BitVec.ofNat 8 z.toNat, ?_⟩
    rw [h1]; unfold bv
    rw [BitVec.toNat_ofNat, Nat.mod_eq_of_lt (by omega)]
    rw [Int.toNat_of_nonneg hb.1]
  refine ⟨(List.range 32).map fun i => if h : i < 32 then (hget i h).choose else 0, by simp, ?_⟩
  apply List.ext_getElem?
  intro i
  by_cases hi : i < 32
  · rw [(hget i hi).choose_spec]
    simp [hi]
  · rw [List.getElem?_eq_none (by omega), List.getElem?_eq_none (by simp; omega)]
set_option maxRecDepth 100000 in
theorem trod_bytesS {cs : List Value} (h : DataW.trod enc Try.prog W 0 (fun _ => true) true fuel 34 cs = some x) :
    ∃ (A : Option Addr) (c : Nat) (xs : List B8), cs = [.slice A xs.length c] ∧ Sl W W.heap.size A (xs.map bv) ∧ (A = none → c = 0) ∧ xs.length ≤ c ∧ xs.length ≤ maxLen := by
  rcases open_ints Try.underlying34 Try.underlying5 (by kernel_rfl) h with ⟨hcs, hx⟩ | ⟨a, len', cap', zs, hcs, _, hl, hm, hz, hx, hcell, hwz⟩
  · exact ⟨none, 0, [], hcs, Sl.none _ _ _, fun _ => rfl, by simp, by simp⟩
  · have hzl : zs.length = cap' := by simpa using hz
    have hlen : ((zs.take len').map fun z => BitVec.ofNat 8 z.toNat).length = len' := by simp; omega
    refine ⟨some a, cap', (zs.take len').map (fun z => BitVec.ofNat 8 z.toNat), by rw [hlen]; exact hcs, ?_, (fun h => by cases h), by omega, by omega⟩
    intro j u hu
    simp only [List.map_map, List.getElem?_map, Option.map_eq_some_iff] at hu
    obtain ⟨z, hz1, rfl⟩ := hu
    have hj : j < len' := by have := (List.getElem?_eq_some_iff.1 hz1).1; simp at this; omega
    have hzj : zs[j]? = some z := by rw [List.getElem?_take, if_pos hj] at hz1; exact hz1
    have h1 := hcell j (by omega)
    have hb := bounds_u8 (hwz z (List.mem_of_getElem? hzj))
    refine ⟨a, rfl, ?_, ?_⟩
    · have := World.block_lt_of_cell? W _ h1
      rwa [add_block] at this
    · rw [h1, List.getD, hzj]
      simp only [Option.getD_some, Function.comp, bv, BitVec.toNat_ofNat]
      rw [Nat.mod_eq_of_lt (by omega)]
      congr 2
      omega
set_option maxRecDepth 100000 in
theorem trod_field {cs : List Value} (h : DataW.trod enc Try.prog W 0 (fun _ => true) true fuel 92 cs = some x) : ∃ f : Fd, cs = f.cells ∧ f.ok W W.heap.size := by
  obtain ⟨xs, m, -, -, hl, hxl, hall⟩ := DataW.trod_struct Try.underlying92 h
  have c31 : Try.prog.cellsOf 92 = 35 := by kernel_rfl
  rw [c31] at hl
  have hx4 : xs.length = 4 := hxl
  have g0 : xs[0]? = some xs[0] := List.getElem?_eq_getElem (by omega)
  have g1 : xs[1]? = some xs[1] := List.getElem?_eq_getElem (by omega)
  have g2 : xs[2]? = some xs[2] := List.getElem?_eq_getElem (by omega)
  have g3 : xs[3]? = some xs[3] := List.getElem?_eq_getElem (by omega)
  have h0 : DataW.trod enc Try.prog W 0 (fun _ => true) true m 3 ((cs.drop 0).take (Try.prog.cellsOf 3)) = some xs[0] := (hall 0 _ rfl).trans g0
  have h1 : DataW.trod enc Try.prog W 0 (fun _ => true) true m 80 ((cs.drop 1).take (Try.prog.cellsOf 80)) = some xs[1] := (hall 1 _ rfl).trans g1
  have h2 : DataW.trod enc Try.prog W 0 (fun _ => true) true m 34 ((cs.drop 2).take (Try.prog.cellsOf 34)) = some xs[2] := (hall 2 _ rfl).trans g2
  have h3 : DataW.trod enc Try.prog W 0 (fun _ => true) true m 90 ((cs.drop 3).take (Try.prog.cellsOf 90)) = some xs[3] := (hall 3 _ rfl).trans g3
  rw [show Try.prog.cellsOf 3 = 1 by kernel_rfl] at h0
  rw [show Try.prog.cellsOf 80 = 1 by kernel_rfl] at h1
  rw [show Try.prog.cellsOf 34 = 1 by kernel_rfl] at h2
  rw [show Try.prog.cellsOf 90 = 32 by kernel_rfl] at h3
  obtain ⟨k, e0, -, w0⟩ := DataW.trod_int Try.underlying3 h0
  obtain ⟨n, e1, -, w1⟩ := DataW.trod_int Try.underlying80 h1
  obtain ⟨A, c, b, e2, hs, hA, hc, hm⟩ := trod_bytesS h2
  obtain ⟨d, hd, e3⟩ := trod_id h3
  have b0 := bounds_i64 w0
  have b1 := bounds_u64 w1
  refine ⟨⟨k, n.toNat, A, c, b, d⟩, ?_, ⟨b0.1, by simp only; omega, by simp only; omega, hs, hA, hc, hm, hd⟩⟩
  have e : cs = (cs.drop 0).take 1 ++ ((cs.drop 1).take 1 ++ ((cs.drop 2).take 1 ++ (cs.drop 3).take 32)) := by
    rw [List.take_of_length_le (l := cs.drop 3) (by simp; omega)]
    rw [show cs.drop 3 = (cs.drop 2).drop 1 by simp, List.take_append_drop, show cs.drop 2 = (cs.drop 1).drop 1 by simp, List.take_append_drop, show cs.drop 1 = (cs.drop 0).drop 1 by simp, List.take_append_drop]
    simp
  rw [e, e0, e1, e2, e3]
  simp [Fd.cells, Int.toNat_of_nonneg b1.1]
/-- A slice of fields that came in: each lies where its place says. -/
def Fds (w : World) (B : Nat) (A : Option Addr) (l : List Fd) : Prop := ∀ i f, l[i]? = some f → f.ok w B ∧ ∃ b o, A = some ⟨b, o, none⟩ ∧ b < B ∧ w.rangeAt b (o + i * 35) f.cells
end

end
section
set_option linter.unusedVariables false

open Go.RowKit
def Fd.kd (f : Fd) : Fd := { f with k := f.k % 3 }
set_option maxRecDepth 100000 in
theorem Fd.kd_cells (f : Fd) : (f.cells.toArray).setIfInBounds 0 (.int .i64 (f.k % 3)) = f.kd.cells.toArray := by
  simp [Fd.cells, Fd.kd]
set_option maxRecDepth 100000 in
theorem Fd.one (f : Fd) : f.cells.toArray.all (·.oneCell') = true := by
  rw [Array.all_eq_true_iff_forall_mem]
  intro u hu
  simp only [Fd.cells, List.mem_toArray, List.mem_append, List.mem_cons, List.not_mem_nil, or_false, List.mem_map] at hu
  rcases hu with (rfl | rfl | rfl) | ⟨x, -, rfl⟩ <;> rfl
set_option maxRecDepth 100000 in
theorem zero_field (w : World) : (zeroValue 92).run Try.prog w = .ok (.agg (Fd.cells ⟨0, 0, none, 0, [], zeros 32⟩).toArray) w := by kernel_rfl
def Z35 : Array Value := (Fd.cells ⟨0, 0, none, 0, [], zeros 32⟩).toArray
set_option maxRecDepth 100000 in
theorem beN_cons (q n : Nat) : beN (q + 1) n = BitVec.ofNat 8 (n / 256 ^ q) :: beN q n := rfl
set_option maxRecDepth 100000 in
theorem byte_int (n q : Nat) : IntKind.u8.wrap ((n : Int) / 2 ^ (8 * q)) = ((BitVec.ofNat 8 (n / 256 ^ q)).toNat : Int) := by
  rw [IntKind.wrap_u8, BitVec.toNat_ofNat, show (2 : Int) ^ (8 * q) = ((256 ^ q : Nat) : Int) by rw [Int.natCast_pow, Int.pow_mul]; rfl]
  omega

end
end Go.Proofs.Ytgjplbanfnomkaa
