/- A letter that came in, opened. -/
import Derived.Test.YtgjplbanfnomkaaLtZ
import Derived.Deep.MidRow
import Derived.Deep.WholeRow
set_option linter.unusedVariables false
set_option linter.unusedSimpArgs false
namespace Go.Proofs.Ytgjplbanfnomkaa
open Go.RowKit Go.ChangeShapes Go.WideShapes Go.ChangeAt
theorem bt_nil {w : World} {N : Nat → Prop} : BtN w N none 0 [] := ⟨fun j u hu => by simp at hu, fun _ => rfl, by simp⟩
set_option maxRecDepth 100000 in
theorem addr_zeroL (a : Addr) : a.add 0 = a := by unfold Addr.add; split <;> simp_all
set_option maxRecDepth 100000 in
theorem rangeAt_ofL {w : World} {base : Nat} {a : Addr} {n : Nat} {cs : List Value} (h : w.cells? base a n = some cs) (hn : 0 < n) : a.spot = none ∧ w.rangeAt a.block a.off cs ∧ a.block < w.heap.size ∧ cs.length = n := by
  obtain ⟨hb, hl, hc⟩ := World.cells?_some h
  have h0 := hc 0 hn
  have hsp : a.spot = none := by
    rw [addr_zeroL] at h0
    unfold World.cell? at h0
    cases hh : a.spot with
    | none => rfl
    | some z =>
      rw [hh] at h0
      rw [List.getElem?_eq_getElem (by omega)] at h0
      revert h0
      split <;> simp
  refine ⟨hsp, fun j v hj => ?_, World.cells?_block h hn, hl⟩
  have hj' := (List.getElem?_eq_some_iff.1 hj).1
  have := hc j (by omega)
  rw [hj] at this
  rw [← this]
  congr 1
  unfold Addr.add
  split
  · rename_i h; subst h; cases a; simp_all
  · rfl
set_option maxRecDepth 100000 in
theorem sl_slF {w : World} {A : Option Addr} {xs : List Value} (h : Sl w w.heap.size A xs) : SlN w (fun _ => False) A xs := SlN.of h (fun _ _ h => h)
section
variable {H : Type} {enc : TypeId × Value → H} {W : World} {fuel : Nat} {x : DataW H × List MemPlace}
set_option maxRecDepth 100000 in
theorem trod_bytesL {cs : List Value} (h : DataW.trod enc Try.prog W 0 (fun _ => true) true fuel 34 cs = some x) :
    ∃ (A : Option Addr) (c : Nat) (xs : List B8), cs = [.slice A xs.length c] ∧ BtN W (fun _ => False) A c xs ∧ xs.length ≤ maxLen := by
  rcases open_ints Try.underlying34 Try.underlying5 (by kernel_rfl) h with ⟨hcs, hx⟩ | ⟨a, len', cap', zs, hcs, _, hl, hm, hz, hx, hcell, hwz⟩
  · exact ⟨none, 0, [], hcs, bt_nil, by simp⟩
  · have hzl : zs.length = cap' := by simpa using hz
    have hlen : ((zs.take len').map fun z => BitVec.ofNat 8 z.toNat).length = len' := by simp; omega
    refine ⟨some a, cap', (zs.take len').map (fun z => BitVec.ofNat 8 z.toNat), by rw [hlen]; exact hcs, ⟨sl_slF ?_, (fun h => by cases h), by omega⟩, by omega⟩
    intro j u hu
    simp only [List.map_map, List.getElem?_map, Option.map_eq_some_iff] at hu
    obtain ⟨z, hz1, rfl⟩ := hu
    have hj : j < len' := by have := (List.getElem?_eq_some_iff.1 hz1).1; simp at this; omega
    have hzj : zs[j]? = some z := by rw [List.getElem?_take, if_pos hj] at hz1; exact hz1
    have h1 := hcell j (by omega)
    have hb := bounds_u8 (hwz z (List.mem_of_getElem? hzj))
    refine ⟨a, rfl, ?_, ?_⟩
    · have := World.block_lt_of_cell? W _ h1
      rwa [add_block] at this
    · rw [h1, List.getD, hzj]
      simp only [Option.getD_some, Function.comp, bv, BitVec.toNat_ofNat]
      rw [Nat.mod_eq_of_lt (by omega)]
      congr 2
      omega
/-- An item's cells. -/
def Itm.cells (p : Itm) (S : Option Addr) (c : Nat) : List Value := [.int .i64 p.t, .slice S p.b.length c]
set_option maxRecDepth 100000 in
theorem trod_itemL {cs : List Value} (h : DataW.trod enc Try.prog W 0 (fun _ => true) true fuel 36 cs = some x) : ∃ (p : Itm) (S : Option Addr) (c : Nat), cs = p.cells S c ∧ p.ok ∧ BtN W (fun _ => False) S c p.b := by
  obtain ⟨xs, m, -, -, hl, hxl, hall⟩ := DataW.trod_struct Try.underlying36 h
  rw [show Try.prog.cellsOf 36 = 2 by kernel_rfl] at hl
  have hx2 : xs.length = 2 := hxl
  have g0 : xs[0]? = some xs[0] := List.getElem?_eq_getElem (by omega)
  have g1 : xs[1]? = some xs[1] := List.getElem?_eq_getElem (by omega)
  have h0 : DataW.trod enc Try.prog W 0 (fun _ => true) true m 3 ((cs.drop 0).take (Try.prog.cellsOf 3)) = some xs[0] := (hall 0 _ rfl).trans g0
  have h1 : DataW.trod enc Try.prog W 0 (fun _ => true) true m 34 ((cs.drop 1).take (Try.prog.cellsOf 34)) = some xs[1] := (hall 1 _ rfl).trans g1
  rw [show Try.prog.cellsOf 3 = 1 by kernel_rfl] at h0
  rw [show Try.prog.cellsOf 34 = 1 by kernel_rfl] at h1
  obtain ⟨t, e0, -, w0⟩ := DataW.trod_int Try.underlying3 h0
  obtain ⟨S, c, b, e1, hb, hm⟩ := trod_bytesL h1
  have b0 := bounds_i64 w0
  refine ⟨⟨t, b⟩, S, c, ?_, ⟨⟨b0.1, by simp only; omega⟩, hm⟩, hb⟩
  have e : cs = (cs.drop 0).take 1 ++ (cs.drop 1).take 1 := by
    rw [List.take_of_length_le (l := cs.drop 1) (by simp; omega), List.drop_zero, List.take_append_drop]
  rw [e, e0, e1]
  simp [Itm.cells]
set_option maxRecDepth 100000 in
theorem trod_itemsL {cs : List Value} (h : DataW.trod enc Try.prog W 0 (fun _ => true) true fuel 27 cs = some x) : ∃ (A : Option Addr) (c : Nat) (l : List Itm), cs = [.slice A l.length c] ∧ ItN W (fun _ => False) A l ∧ (A = none → c = 0) ∧ l.length ≤ c ∧ l.length ≤ maxLen := by
  rcases DataW.trod_slice Try.underlying27 h with ⟨hcs, -⟩ | ⟨a, len, cap, elems, rest, m, -, hcs, -, -, hl, hm, hel, hall, -, -⟩
  · exact ⟨none, 0, [], hcs, fun i f h => by simp at h, fun _ => rfl, by simp, by simp⟩
  · have c2 : Try.prog.cellsOf 36 = 2 := by kernel_rfl
    have each : ∀ i, i < len → ∃ (q : Itm × Option Addr × Nat), q.1.ok ∧ BtN W (fun _ => False) q.2.1 q.2.2 q.1.b ∧ (i = 0 → a.spot = none) ∧ a.block < W.heap.size ∧ W.rangeAt a.block (a.off + i * 2) (q.1.cells q.2.1 q.2.2) := by
      intro i hi
      have h := hall i hi
      rw [c2, List.getElem?_eq_getElem (by omega), Option.bind_eq_some_iff] at h
      obtain ⟨cs, hcs, ht⟩ := h
      obtain ⟨p, S, c, rfl, hok, hb⟩ := trod_itemL ht
      obtain ⟨hsp, hr, hbl, -⟩ := rangeAt_ofL hcs (by omega)
      have hadd : (a.add (i * 2)).block = a.block := add_block _ _
      refine ⟨(p, S, c), hok, hb, ?_, by rw [← hadd]; exact hbl, ?_⟩
      · rintro rfl
        rw [Nat.zero_mul, addr_zeroL] at hsp; exact hsp
      · rw [hadd] at hr
        have : (a.add (i * 2)).off = a.off + i * 2 := by unfold Addr.add; split <;> simp_all
        rwa [this] at hr
    have hlen : ((List.range len).map fun i => if h : i < len then (each i h).choose.1 else ⟨0, []⟩).length = len := by simp
    refine ⟨some a, cap, (List.range len).map fun i => if h : i < len then (each i h).choose.1 else ⟨0, []⟩, by rw [hlen]; exact hcs, ?_, (fun h => by cases h), by omega, by omega⟩
    intro i p hp
    have hi : i < len := by have := (List.getElem?_eq_some_iff.1 hp).1; simpa using this
    simp [hi] at hp
    have hsp := (each 0 (by omega)).choose_spec.2.2.1 rfl
    obtain ⟨h1, h2, h3, h4, h5⟩ := (each i hi).choose_spec
    rw [hp] at h1 h2 h5
    refine ⟨h1, a.block, a.off, _, _, ?_, (fun h => h), h2, ?_, ?_⟩
    · cases a; simp_all
    · have := h5 0 (.int .i64 p.t) rfl
      simpa using this
    · exact h5 1 _ rfl
end
set_option maxRecDepth 100000 in
theorem own_maxL {w : World} {B n : Nat} {e : TypeId} {v : Value} {xs : List Value} (h : w.ownsRow B e 1 v n xs) : n ≤ maxLen := by
  rcases h.2 with ⟨e, h0⟩ | ⟨g, cap, cur, e, _, _, hc, hm, _⟩ <;> omega
end Go.Proofs.Ytgjplbanfnomkaa
