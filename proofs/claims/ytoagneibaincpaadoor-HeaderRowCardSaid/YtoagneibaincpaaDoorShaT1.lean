/- 'ShaTells': its walk. -/
import Derived.Test.YtoagneibaincpaaDoorShaS8
import Derived.Test.YtoagneibaincpaaDoorRel
set_option linter.unusedVariables false
namespace Go.Proofs.YtoagneibaincpaaDoor
open Go.RowKit Go.ChangeShapes Go.WideShapes Go.ChangeAt
set_option maxRecDepth 100000 in
theorem slice_hi (A : Option Addr) (len cap n : Nat) (h : n ≤ len) (hc : len ≤ cap) (w : World) : (Instr.slice 26 (.slice A len cap) none (some (.int .i64 (n : Int))) none).run Tryd.prog w = .ok (.slice A n cap) w := by
  rw [run_slice_h (P := Tryd.prog) w 26 A len cap (by kernel_rfl) .i64 (n : Int) (by omega) (by omega)]
  rw [show Tryd.prog.elem 26 = 5 by kernel_rfl, size_u8]
  simp [Result.andThen, sliced]
  cases A with
  | none => simp
  | some a => simp [Addr.add]
set_option maxRecDepth 100000 in
/-- A slice of bytes that came in. -/
theorem open_bytes {H : Type} {enc : TypeId × Value → H} {P : Program} {W : World} {r : Reach} {b0 : Nat} {t e : TypeId} {v : Value} {d : DataW H} {p : List MemPlace} (ht : P.underlying t = some (.slice e)) (he : P.underlying e = some (.int .u8)) (hc : P.cellsOf e = 1)
    (hval : Value.okWide P W r b0 t v) (hd : DataW.Trod enc P W 0 (fun _ => true) true t v d p) :
    ∃ (A : Option Addr) (c : Nat) (xs : List B8), v = .slice A xs.length c ∧ Sl W W.heap.size A (xs.map bv) ∧ (A = none → c = 0) ∧ xs.length ≤ c ∧ xs.length ≤ maxLen := by
  obtain ⟨a0, len, cap, rfl⟩ := okWide_slice ht hval
  obtain ⟨fuel, hf⟩ := hd
  rcases open_ints ht he hc hf with ⟨hcs, hx⟩ | ⟨a, len', cap', zs, hcs, _, hl, hm, hz, hx, hcell, hwz⟩
  · simp [Value.cells] at hcs
    obtain ⟨rfl, rfl, rfl⟩ := hcs
    exact ⟨_, 0, [], rfl, Sl.none _ _ _, (fun _ => rfl), by simp, by simp⟩
  · simp [Value.cells] at hcs
    obtain ⟨rfl, rfl, rfl⟩ := hcs
    have hzl : zs.length = cap := by simpa using hz
    have hlen : ((zs.take len).map fun z => BitVec.ofNat 8 z.toNat).length = len := by simp; omega
    refine ⟨some a, cap, (zs.take len).map (fun z => BitVec.ofNat 8 z.toNat), by rw [hlen], ?_, (fun h => by cases h), by omega, by omega⟩
    intro j u hu
    simp only [List.map_map, List.getElem?_map, Option.map_eq_some_iff] at hu
    obtain ⟨z, hz1, rfl⟩ := hu
    have hj : j < len := by have := (List.getElem?_eq_some_iff.1 hz1).1; simp at this; omega
    have hzj : zs[j]? = some z := by rw [List.getElem?_take, if_pos hj] at hz1; exact hz1
    have h1 := hcell j (by omega)
    have hb := bounds_u8 (hwz z (List.mem_of_getElem? hzj))
    refine ⟨a, rfl, ?_, ?_⟩
    · have := World.block_lt_of_cell? W _ h1
      rwa [add_block] at this
    · rw [h1, List.getD, hzj]
      simp only [Option.getD_some, Function.comp, bv, BitVec.toNat_ofNat]
      rw [Nat.mod_eq_of_lt (by omega)]
      congr 2
      omega
/-- What an operation of a law's last line may do to the world that another one reads. -/
def Stp (w w' : World) : Prop := Below w.heap.size w w'
set_option maxRecDepth 100000 in
theorem Stp.refl (w : World) : Stp w w := Below.refl _ _
set_option maxRecDepth 100000 in
theorem Stp.trans (a b c : World) (h : Stp a b) (k : Stp b c) : Stp a c := Below.trans h (Below.mono k (Below.size h))
set_option maxRecDepth 100000 in
theorem glob_stp {w w' : World} (h : Glob w) (hs : Stp w w') : Glob w' := h.below hs h.1
set_option maxRecDepth 100000 in
theorem bts_stp {w w' : World} {A : Option Addr} {xs : List B8} (h : Bts w A xs) (hs : Stp w w') : Bts w' A xs := h.below hs
set_option maxRecDepth 100000 in
theorem stp_start {W w w' : World} (h : Stp w.drew w') (hW : Below W.heap.size W w) : Below W.heap.size W w' := hW.drew.trans (h.mono hW.size)
/-- A list of lists that was made here. -/
def MadeL (ls : List (Option Addr × Nat × Nat)) (v : Value) (w : World) : Prop :=
  ∃ g, v = .slice (some ⟨g, 0, none⟩) ls.length ls.length ∧ ∀ i p, ls[i]? = some p → w.cell? ⟨g, i, none⟩ = some (.slice p.1 p.2.1 p.2.2)
set_option maxRecDepth 100000 in
theorem MadeL.stable (ls : List (Option Addr × Nat × Nat)) (v : Value) (w w' : World) (h : MadeL ls v w) (hs : Stp w w') : MadeL ls v w' := by
  obtain ⟨g, e, hc⟩ := h
  exact ⟨g, e, fun i p hp => by have := hc i p hp; rw [Below.cell hs (World.block_lt_of_cell? w _ this)]; exact this⟩
set_option maxRecDepth 100000 in
theorem MadeL.new (ls : List (Option Addr × Nat × Nat)) (w : World) (t : TypeId) (C : Array Value) (hC : C = (ls.map fun p => Value.slice p.1 p.2.1 p.2.2).toArray) (n : Nat) (hn : n = ls.length) :
    MadeL ls (.slice (some ⟨w.heap.size, 0, none⟩) n n) (w.alloc (.cells C t)) ∧ Stp w (w.alloc (.cells C t)) := by
  subst hn hC
  refine ⟨⟨w.heap.size, rfl, fun i p hp => ?_⟩, (Below.refl _ _).alloc (Nat.le_refl _) _⟩
  rw [cell_of_row _ _ _ _ _ _ (heap_alloc_new w _), List.getElem?_toArray, List.getElem?_map, hp]; rfl
set_option maxRecDepth 100000 in
theorem MadeL.lst {ls : List (Option Addr × Nat × Nat)} {v : Value} {w : World} (h : MadeL ls v w) (xss : List (List B8)) (hb : ∀ (i : Nat) (xs : List B8), xss[i]? = some xs → ∃ (A : Option Addr) (c : Nat), ls[i]? = some (A, xs.length, c) ∧ xs.length ≤ c ∧ Bts w A xs) : ∃ g, v = .slice (some ⟨g, 0, none⟩) ls.length ls.length ∧ Lst w (some ⟨g, 0, none⟩) xss := by
  obtain ⟨g, e, hc⟩ := h
  refine ⟨g, e, fun i xs hi => ?_⟩
  obtain ⟨A, c, h1, h2, h3⟩ := hb i xs hi
  exact ⟨_, A, c, rfl, by rw [add_row]; exact hc i _ h1, h2, h3⟩
set_option maxRecDepth 100000 in
theorem does_made {P : Program} {o : Oper} {a : Act} {w : World} (ls : List (Option Addr × Nat × Nat)) (t : TypeId) (d : Tmp) (hd : o.dst = some d) (hr : ∀ w, (execOp a.eval o).run P w = .ok (.value (.slice (some ⟨w.heap.size, 0, none⟩) ls.length ls.length)) (w.alloc (.cells (ls.map fun p => Value.slice p.1 p.2.1 p.2.2).toArray t))) :
    doesR P o a w (fun u w' => MadeL ls (retV o u) w' ∧ Stp w w') := by
  refine does_run (hr w) ?_
  have e : ∀ u, retV o u = u := fun u => by unfold retV; rw [hd]
  rw [e]
  exact MadeL.new ls w t _ rfl _ rfl
set_option maxRecDepth 100000 in
theorem lst_stp {w w' : World} {A : Option Addr} {ls : List (List B8)} (h : Lst w A ls) (hs : Stp w w') : Lst w' A ls := h.below hs
set_option maxRecDepth 100000 in
theorem Bts.cut {w : World} {A : Option Addr} {xs : List B8} (h : Bts w A xs) (cap n : Nat) (hc : xs.length ≤ cap) : Bts w (cutA A cap n) (xs.drop n) := fun j u hu => by
  rw [List.map_drop, List.getElem?_drop] at hu
  obtain ⟨ad, rfl, hcl⟩ := h (n + j) u hu
  have hlt := (List.getElem?_eq_some_iff.1 hu).1
  refine ⟨ad.add n, ?_, by rw [add_add]; exact hcl⟩
  unfold cutA
  rw [if_neg (by simp at hlt; omega)]; rfl
set_option maxRecDepth 100000 in
theorem Bts.front {w : World} {A : Option Addr} {xs : List B8} (h : Bts w A xs) (n : Nat) : Bts w A (xs.take n) := fun j u hu => by
  rw [List.map_take, List.getElem?_take] at hu
  split at hu
  · exact h j u hu
  · cases hu
set_option maxRecDepth 100000 in
theorem Bts.of_sl {w : World} {B : Nat} {A : Option Addr} {xs : List B8} (h : Sl w B A (xs.map bv)) : Bts w A xs := fun j u hu => by
  obtain ⟨ad, e, -, hc⟩ := h j u hu
  exact ⟨ad, e, hc⟩
end Go.Proofs.YtoagneibaincpaaDoor
