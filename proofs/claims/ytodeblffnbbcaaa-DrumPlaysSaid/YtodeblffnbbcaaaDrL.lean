/- The laws' acts that came in, read: a slice of records {Do, At, B, M}. -/
import Derived.Test.YtodeblffnbbcaaaDrC
import Derived.Deep.MidRow
import Derived.Deep.WholeRow
set_option linter.unusedVariables false
namespace Go.Proofs.Ytodeblffnbbcaaa
open Go.RowKit Go.ChangeShapes Go.WideShapes Go.ChangeAt
/-- An act, as it lies. -/
structure Ac where
  k : Int
  n : Int
  A : Option Addr
  c : Nat
  b : List B8
  A' : Option Addr
  c' : Nat
  m : List B8
def Ac.cells (f : Ac) : List Value := [.int .i64 f.k, .int .i64 f.n, .slice f.A f.b.length f.c, .slice f.A' f.m.length f.c']
/-- An act whose bytes lie below block B. -/
structure Ac.ok (f : Ac) (w : World) (B : Nat) : Prop where
  k0 : -9223372036854775808 ≤ f.k
  k1 : f.k < 9223372036854775808
  n0 : -9223372036854775808 ≤ f.n
  n1 : f.n < 9223372036854775808
  s : Sl w B f.A (f.b.map bv)
  a : f.A = none → f.c = 0
  c : f.b.length ≤ f.c
  l : f.b.length ≤ maxLen
  s' : Sl w B f.A' (f.m.map bv)
  a' : f.A' = none → f.c' = 0
  c' : f.m.length ≤ f.c'
  l' : f.m.length ≤ maxLen
theorem addr_zero (a : Addr) : a.add 0 = a := by unfold Addr.add; split <;> simp_all
theorem rangeAt_of {w : World} {base : Nat} {a : Addr} {n : Nat} {cs : List Value} (h : w.cells? base a n = some cs) (hn : 0 < n) : a.spot = none ∧ w.rangeAt a.block a.off cs ∧ a.block < w.heap.size ∧ cs.length = n := by
  obtain ⟨hb, hl, hc⟩ := World.cells?_some h
  have h0 := hc 0 hn
  have hsp : a.spot = none := by
    rw [addr_zero] at h0
    unfold World.cell? at h0
    cases hh : a.spot with
    | none => rfl
    | some z =>
      rw [hh] at h0
      rw [List.getElem?_eq_getElem (by omega)] at h0
      revert h0
      split <;> simp
  refine ⟨hsp, fun j v hj => ?_, World.cells?_block h hn, hl⟩
  have hj' := (List.getElem?_eq_some_iff.1 hj).1
  have := hc j (by omega)
  rw [hj] at this
  rw [← this]
  congr 1
  unfold Addr.add
  split
  · rename_i h; subst h; cases a; simp_all
  · rfl
section
variable {H : Type} {enc : TypeId × Value → H} {W : World} {fuel : Nat} {x : DataW H × List MemPlace}
theorem trod_bytes {cs : List Value} (h : DataW.trod enc Try.prog W 0 (fun _ => true) true fuel 28 cs = some x) :
    ∃ (A : Option Addr) (c : Nat) (xs : List B8), cs = [.slice A xs.length c] ∧ Sl W W.heap.size A (xs.map bv) ∧ (A = none → c = 0) ∧ xs.length ≤ c ∧ xs.length ≤ maxLen := by
  rcases open_ints Try.underlying28 Try.underlying5 (by kernel_rfl) h with ⟨hcs, hx⟩ | ⟨a, len', cap', zs, hcs, _, hl, hm, hz, hx, hcell, hwz⟩
  · exact ⟨none, 0, [], hcs, Sl.none _ _ _, fun _ => rfl, by simp, by simp⟩
  · have hzl : zs.length = cap' := by simpa using hz
    have hlen : ((zs.take len').map fun z => BitVec.ofNat 8 z.toNat).length = len' := by simp; omega
    refine ⟨some a, cap', (zs.take len').map (fun z => BitVec.ofNat 8 z.toNat), by rw [hlen]; exact hcs, ?_, (fun h => by cases h), by omega, by omega⟩
    intro j u hu
    simp only [List.map_map, List.getElem?_map, Option.map_eq_some_iff] at hu
    obtain ⟨z, hz1, rfl⟩ := hu
    have hj : j < len' := by have := (List.getElem?_eq_some_iff.1 hz1).1; simp at this; omega
    have hzj : zs[j]? = some z := by rw [List.getElem?_take, if_pos hj] at hz1; exact hz1
    have h1 := hcell j (by omega)
    have hb := bounds_u8 (hwz z (List.mem_of_getElem? hzj))
    refine ⟨a, rfl, ?_, ?_⟩
    · have := World.block_lt_of_cell? W _ h1
      rwa [add_block] at this
    · rw [h1, List.getD, hzj]
      simp only [Option.getD_some, Function.comp, bv, BitVec.toNat_ofNat]
      rw [Nat.mod_eq_of_lt (by omega)]
      congr 2
      omega
theorem trod_act {cs : List Value} (h : DataW.trod enc Try.prog W 0 (fun _ => true) true fuel 30 cs = some x) : ∃ f : Ac, cs = f.cells ∧ f.ok W W.heap.size := by
  obtain ⟨xs, m, -, -, hl, hxl, hall⟩ := DataW.trod_struct Try.underlying30 h
  have c31 : Try.prog.cellsOf 30 = 4 := by kernel_rfl
  rw [c31] at hl
  have hx4 : xs.length = 4 := hxl
  have g0 : xs[0]? = some xs[0] := List.getElem?_eq_getElem (by omega)
  have g1 : xs[1]? = some xs[1] := List.getElem?_eq_getElem (by omega)
  have g2 : xs[2]? = some xs[2] := List.getElem?_eq_getElem (by omega)
  have g3 : xs[3]? = some xs[3] := List.getElem?_eq_getElem (by omega)
  have h0 : DataW.trod enc Try.prog W 0 (fun _ => true) true m 3 ((cs.drop 0).take (Try.prog.cellsOf 3)) = some xs[0] := (hall 0 _ rfl).trans g0
  have h1 : DataW.trod enc Try.prog W 0 (fun _ => true) true m 3 ((cs.drop 1).take (Try.prog.cellsOf 3)) = some xs[1] := (hall 1 _ rfl).trans g1
  have h2 : DataW.trod enc Try.prog W 0 (fun _ => true) true m 28 ((cs.drop 2).take (Try.prog.cellsOf 28)) = some xs[2] := (hall 2 _ rfl).trans g2
  have h3 : DataW.trod enc Try.prog W 0 (fun _ => true) true m 28 ((cs.drop 3).take (Try.prog.cellsOf 28)) = some xs[3] := (hall 3 _ rfl).trans g3
  rw [show Try.prog.cellsOf 3 = 1 by kernel_rfl] at h0 h1
  rw [show Try.prog.cellsOf 28 = 1 by kernel_rfl] at h2 h3
  obtain ⟨k, e0, -, w0⟩ := DataW.trod_int Try.underlying3 h0
  obtain ⟨n, e1, -, w1⟩ := DataW.trod_int Try.underlying3 h1
  obtain ⟨A, c, b, e2, hs, hA, hc, hm⟩ := trod_bytes h2
  obtain ⟨A', c', b', e3, hs', hA', hc', hm'⟩ := trod_bytes h3
  have b0 := bounds_i64 w0
  have b1 := bounds_i64 w1
  refine ⟨⟨k, n, A, c, b, A', c', b'⟩, ?_, ⟨b0.1, by simp only; omega, b1.1, by simp only; omega, hs, hA, hc, hm, hs', hA', hc', hm'⟩⟩
  have e : cs = (cs.drop 0).take 1 ++ ((cs.drop 1).take 1 ++ ((cs.drop 2).take 1 ++ (cs.drop 3).take 1)) := by
    rw [List.take_of_length_le (l := cs.drop 3) (by simp; omega)]
    rw [show cs.drop 3 = (cs.drop 2).drop 1 by simp, List.take_append_drop, show cs.drop 2 = (cs.drop 1).drop 1 by simp, List.take_append_drop, show cs.drop 1 = (cs.drop 0).drop 1 by simp, List.take_append_drop]
    simp
  rw [e, e0, e1, e2, e3]
  simp [Ac.cells]
/-- A slice of acts that came in: each lies where its place says. -/
def Acs (w : World) (B : Nat) (A : Option Addr) (l : List Ac) : Prop := ∀ i f, l[i]? = some f → f.ok w B ∧ ∃ b o, A = some ⟨b, o, none⟩ ∧ b < B ∧ w.rangeAt b (o + i * 4) f.cells
theorem open_acts {r : Reach} {b0 : Nat} {v : Value} {d : DataW H} {p : List MemPlace} (hval : Value.okWide Try.prog W r b0 22 v) (hd : DataW.Trod enc Try.prog W 0 (fun _ => true) true 22 v d p) :
    ∃ (A : Option Addr) (c : Nat) (l : List Ac), v = .slice A l.length c ∧ Acs W W.heap.size A l ∧ (A = none → c = 0) ∧ l.length ≤ c ∧ l.length ≤ maxLen := by
  obtain ⟨a0, len, cap, rfl⟩ := okWide_slice Try.underlying22 hval
  obtain ⟨fuel, hf⟩ := hd
  rcases DataW.trod_slice Try.underlying22 hf with ⟨hcs, -⟩ | ⟨a, len', cap', elems, rest, m, -, hcs, -, -, hl, hm, hel, hall, -, -⟩
  · simp [Value.cells] at hcs
    obtain ⟨rfl, rfl, rfl⟩ := hcs
    exact ⟨none, 0, [], rfl, fun i f h => by simp at h, fun _ => rfl, by simp, by simp⟩
  · simp [Value.cells] at hcs
    obtain ⟨rfl, rfl, rfl⟩ := hcs
    have c31 : Try.prog.cellsOf 30 = 4 := by kernel_rfl
    have each : ∀ i, i < len → ∃ f : Ac, f.ok W W.heap.size ∧ (i = 0 → a.spot = none) ∧ a.block < W.heap.size ∧ W.rangeAt a.block (a.off + i * 4) f.cells := by
      intro i hi
      have h := hall i hi
      rw [c31, List.getElem?_eq_getElem (by omega), Option.bind_eq_some_iff] at h
      obtain ⟨cs, hcs, ht⟩ := h
      obtain ⟨f, rfl, hok⟩ := trod_act ht
      obtain ⟨hsp, hr, hb, -⟩ := rangeAt_of hcs (by omega)
      have hadd : (a.add (i * 4)).block = a.block := add_block _ _
      refine ⟨f, hok, ?_, by rw [← hadd]; exact hb, ?_⟩
      · rintro rfl
        rw [Nat.zero_mul, addr_zero] at hsp; exact hsp
      · rw [hadd] at hr
        have : (a.add (i * 4)).off = a.off + i * 4 := by unfold Addr.add; split <;> simp_all
        rwa [this] at hr
    have hlen : ((List.range len).map fun i => if h : i < len then (each i h).choose else ⟨0, 0, none, 0, [], none, 0, []⟩).length = len := by simp
    refine ⟨some a, cap, (List.range len).map fun i => if h : i < len then (each i h).choose else ⟨0, 0, none, 0, [], none, 0, []⟩, by rw [hlen], ?_, (fun h => by cases h), by omega, by omega⟩
    intro i f hf
    have hi : i < len := by have := (List.getElem?_eq_some_iff.1 hf).1; simpa using this
    simp [hi] at hf
    have hsp := (each 0 (by omega)).choose_spec.2.1 rfl
    obtain ⟨h1, h2, h3, h4⟩ := (each i hi).choose_spec
    rw [hf] at h1 h4
    refine ⟨h1, a.block, a.off, ?_, h3, h4⟩
    cases a; simp_all
end
end Go.Proofs.Ytodeblffnbbcaaa
