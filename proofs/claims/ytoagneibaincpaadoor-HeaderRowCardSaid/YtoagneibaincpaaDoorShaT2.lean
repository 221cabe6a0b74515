/- 'ShaUnder': its walk. -/
import Derived.Test.YtoagneibaincpaaDoorShaT1
set_option linter.unusedVariables false
namespace Go.Proofs.YtoagneibaincpaaDoor
open Go.RowKit Go.ChangeShapes Go.WideShapes Go.ChangeAt
/-- Lists of bytes that lie in a slice. -/
def LstN (w : World) (A : Option Addr) (ls : List (List B8)) : Prop := ∀ (i : Nat) (xs : List B8), ls[i]? = some xs → ∃ ad Ai ci, A = some ad ∧ w.cell? (ad.add i) = some (.slice Ai xs.length ci) ∧ xs.length ≤ ci ∧ (Ai = none → ci = 0) ∧ Bts w Ai xs
set_option maxRecDepth 100000 in
theorem LstN.lst {w : World} {A : Option Addr} {ls : List (List B8)} (h : LstN w A ls) : Lst w A ls := fun i xs hi => by
  obtain ⟨ad, Ai, ci, h1, h2, h3, -, h5⟩ := h i xs hi
  exact ⟨ad, Ai, ci, h1, h2, h3, h5⟩
set_option maxRecDepth 100000 in
theorem LstN.below {w w' : World} {A : Option Addr} {ls : List (List B8)} (h : LstN w A ls) (hb : Below w.heap.size w w') : LstN w' A ls := fun i xs hi => by
  obtain ⟨ad, Ai, ci, h1, h2, h3, h4, h5⟩ := h i xs hi
  exact ⟨ad, Ai, ci, h1, (hb.cell (World.block_lt_of_cell? w _ h2)).trans h2, h3, h4, h5.below hb⟩
section
variable {H : Type} {enc : TypeId × Value → H} {W : World} {fuel : Nat} {x : DataW H × List MemPlace}
set_option maxRecDepth 100000 in
theorem trod_bytes {cs : List Value} (h : DataW.trod enc Tryd.prog W 0 (fun _ => true) true fuel 26 cs = some x) :
    ∃ (A : Option Addr) (c : Nat) (xs : List B8), cs = [.slice A xs.length c] ∧ Bts W A xs ∧ (A = none → c = 0) ∧ xs.length ≤ c ∧ xs.length ≤ maxLen := by
  rcases open_ints Tryd.underlying26 Tryd.underlying5 (by kernel_rfl) h with ⟨hcs, hx⟩ | ⟨a, len', cap', zs, hcs, _, hl, hm, hz, hx, hcell, hwz⟩
  · exact ⟨none, 0, [], hcs, fun j u h => by simp at h, fun _ => rfl, by simp, by simp⟩
  · have hzl : zs.length = cap' := by simpa using hz
    have hlen : ((zs.take len').map fun z => BitVec.ofNat 8 z.toNat).length = len' := by simp; omega
    refine ⟨some a, cap', (zs.take len').map (fun z => BitVec.ofNat 8 z.toNat), by rw [hlen]; exact hcs, ?_, (fun h => by cases h), by omega, by omega⟩
    intro j u hu
    simp only [List.map_map, List.getElem?_map, Option.map_eq_some_iff] at hu
    obtain ⟨z, hz1, rfl⟩ := hu
    have hj : j < len' := by have := (List.getElem?_eq_some_iff.1 hz1).1; simp at this; omega
    have hzj : zs[j]? = some z := by rw [List.getElem?_take, if_pos hj] at hz1; exact hz1
    have h1 := hcell j (by omega)
    have hb := bounds_u8 (hwz z (List.mem_of_getElem? hzj))
    refine ⟨a, rfl, ?_⟩
    rw [h1, List.getD, hzj]
    simp only [Option.getD_some, Function.comp, bv, BitVec.toNat_ofNat]
    rw [Nat.mod_eq_of_lt (by omega)]
    congr 2
    omega
set_option maxRecDepth 100000 in
theorem cells_one {w : World} {b : Nat} {a : Addr} {v : Value} (h : w.cells? b a 1 = some [v]) : w.cell? a = some v := by
  obtain ⟨-, -, hc⟩ := World.cells?_some h
  have := hc 0 (by omega)
  have e : a.add 0 = a := by unfold Addr.add; simp
  rwa [e] at this
set_option maxRecDepth 100000 in
theorem open_lists {r : Reach} {b0 : Nat} {v : Value} {d : DataW H} {p : List MemPlace} (hval : Value.okWide Tryd.prog W r b0 43 v) (hd : DataW.Trod enc Tryd.prog W 0 (fun _ => true) true 43 v d p) :
    ∃ (A : Option Addr) (c : Nat) (l : List (List B8)), v = .slice A l.length c ∧ LstN W A l ∧ (A = none → c = 0) ∧ l.length ≤ c ∧ l.length ≤ maxLen := by
  obtain ⟨a0, len, cap, rfl⟩ := okWide_slice Tryd.underlying43 hval
  obtain ⟨fuel, hf⟩ := hd
  rcases DataW.trod_slice Tryd.underlying43 hf with ⟨hcs, -⟩ | ⟨a, len', cap', elems, rest, m, -, hcs, -, -, hl, hm, hel, hall, -, -⟩
  · simp [Value.cells] at hcs
    obtain ⟨rfl, rfl, rfl⟩ := hcs
    exact ⟨none, 0, [], rfl, fun i f h => by simp at h, fun _ => rfl, by simp, by simp⟩
  · simp [Value.cells] at hcs
    obtain ⟨rfl, rfl, rfl⟩ := hcs
    have c31 : Tryd.prog.cellsOf 26 = 1 := by kernel_rfl
    have each : ∀ i, i < len → ∃ xs : List B8, ∃ Ai ci, W.cell? (a.add i) = some (.slice Ai xs.length ci) ∧ xs.length ≤ ci ∧ (Ai = none → ci = 0) ∧ Bts W Ai xs := by
      intro i hi
      have h := hall i hi
      rw [c31, List.getElem?_eq_getElem (by omega), Option.bind_eq_some_iff, Nat.mul_one] at h
      obtain ⟨cs, hcs, ht⟩ := h
      obtain ⟨Ai, ci, xs, rfl, h1, h2, h3, -⟩ := trod_bytes ht
      exact ⟨xs, Ai, ci, cells_one hcs, h3, h2, h1⟩
    have hlen : ((List.range len).map fun i => if h : i < len then (each i h).choose else []).length = len := by simp
    refine ⟨some a, cap, (List.range len).map fun i => if h : i < len then (each i h).choose else [], by rw [hlen], ?_, (fun h => by cases h), by omega, by omega⟩
    intro i f hf
    have hi : i < len := by have := (List.getElem?_eq_some_iff.1 hf).1; simpa using this
    simp [hi] at hf
    obtain ⟨Ai, ci, h1, h2, h3, h4⟩ := (each i hi).choose_spec
    rw [hf] at h1 h2 h4
    exact ⟨a, Ai, ci, rfl, h1, h2, h3, h4⟩
end
set_option maxRecDepth 100000 in
theorem own_cap {w : World} {B : Nat} {e : TypeId} {s n cap : Nat} {A : Option Addr} {xs : List Value} (h : w.ownsRow B e s (.slice A n cap) n xs) : n ≤ cap := by
  rcases h.2 with ⟨e, -⟩ | ⟨g, cap', cur, e, -, -, hle, -⟩
  · injection e with _ e1 e2; omega
  · injection e with _ e1 e2; omega
set_option maxRecDepth 100000 in
theorem long_len (b : List B8) : (longB b).length = 4 + b.length := by simp [longB, wb_len]
set_option maxRecDepth 100000 in
theorem under_take_len (mk : B8) (ls : List (List B8)) (k : Nat) (h : ∀ xs ∈ ls.take k, xs.length ≤ 60) : (underB mk (ls.take k)).length ≤ 1 + 64 * k := by
  unfold underB
  rw [List.length_cons, List.length_flatten, List.map_map]
  have : ∀ (l : List (List B8)), (∀ xs ∈ l, xs.length ≤ 60) → (l.map (List.length ∘ longB)).sum ≤ 64 * l.length := by
    intro l
    induction l with
    | nil => intro _; simp
    | cons x l ih =>
      intro hl
      have h1 := hl x (by simp)
      have h2 := ih (fun xs hx => hl xs (by simp [hx]))
      simp only [List.map_cons, List.sum_cons, Function.comp, List.length_cons, long_len]
      omega
  have h3 := this _ h
  have h4 : (ls.take k).length ≤ k := List.length_take_le _ _
  have h5 : 64 * (ls.take k).length ≤ 64 * k := Nat.mul_le_mul_left _ h4
  omega
set_option maxRecDepth 100000 in
theorem under_next (mk : B8) (ls : List (List B8)) (k : Nat) (x : List B8) (h : ls[k]? = some x) : underB mk (ls.take (k + 1)) = underB mk (ls.take k) ++ longB x := by
  unfold underB
  rw [List.take_add_one, h]
  simp
end Go.Proofs.YtoagneibaincpaaDoor
