/- The contracts of the code's 'Sum' and 'Under'. -/
import Derived.Test.YtoclfohgchlpnaaDoorShaW5
namespace Go.Proofs.YtoclfohgchlpnaaDoor
open Go.RowKit

/-- Bytes that lie in a slice. -/
def Bts (w : World) (A : Option Addr) (xs : List B8) : Prop := ∀ (j : Nat) (u : Value), (xs.map bv)[j]? = some u → ∃ ad, A = some ad ∧ w.cell? (ad.add j) = some u
theorem Bts.src {w w' : World} {A : Option Addr} {xs : List B8} {B g : Nat} (h : Bts w A xs) (hb : Below B w w') (hB : B = w.heap.size) (hg : B ≤ g) : Src w' g A xs := fun j u hu => by
  obtain ⟨ad, e, hc⟩ := h j u hu
  have hlt := World.block_lt_of_cell? w _ hc
  rw [add_block] at hlt
  exact ⟨ad, e, by omega, (hb.cell (by rw [add_block]; omega)).trans hc⟩
theorem Bts.below {w w' : World} {A : Option Addr} {xs : List B8} (h : Bts w A xs) (hb : Below w.heap.size w w') : Bts w' A xs := fun j u hu => by
  obtain ⟨ad, e, hc⟩ := h j u hu
  have hlt := World.block_lt_of_cell? w _ hc
  exact ⟨ad, e, (hb.cell hlt).trans hc⟩
/-- Lists of bytes that lie in a slice of slices. -/
def Lst (w : World) (A : Option Addr) (ls : List (List B8)) : Prop := ∀ (i : Nat) (xs : List B8), ls[i]? = some xs → ∃ ad Ai ci, A = some ad ∧ w.cell? (ad.add i) = some (.slice Ai xs.length ci) ∧ xs.length ≤ ci ∧ Bts w Ai xs
theorem Lst.below {w w' : World} {A : Option Addr} {ls : List (List B8)} (h : Lst w A ls) (hb : Below w.heap.size w w') : Lst w' A ls := fun i xs hi => by
  obtain ⟨ad, Ai, ci, e, hc, hl, hs⟩ := h i xs hi
  exact ⟨ad, Ai, ci, e, (hb.cell (World.block_lt_of_cell? w _ hc)).trans hc, hl, hs.below hb⟩
theorem eat_nil : Eat [] H8 (zeros 64) 0 := ⟨rfl, rfl, rfl, rfl⟩
theorem below_of_grown {w w' : World} {g : Nat} {B : Nat} {w0 : World} (hb : Below B w0 w) (h : w.grownBy w' (some g)) (hB : B ≤ w.heap.size) (hg : B ≤ g) : Below B w0 w' := hb.grown h hB (fun k hk => by injection hk with hk; omega)

theorem wpList_build_eq {P : Program} {w : World} {ops : Array Oper} {rest : List Oper} {o : Oper} {a : Act} {Q : Exit → Act → World → Prop} (hg : o.guard = none) (t : TypeId) (parts : Array (Nat × Operand)) (ho : o.op = .build t parts)
    (cs : Array Value) (hf' : P.built t (parts.toList.map fun p => (p.1, a.eval p.2)) = some cs) (h : wpList P ops Q rest (a.put o.dst (.agg cs)) w) : wpList P ops Q (o :: rest) a w :=
  have hf : P.built t (parts.map fun (i, x) => (i, a.eval x)).toList = some cs := by rw [Array.toList_map]; exact hf'
  wpList_build hg t parts ho (by rw [hf]; rfl) (by rw [hf]; exact h)
theorem built_dig (x0 x1 x2 x3 x4 x5 x6 x7 : Int) : Tryd.prog.built 72 [(0, .agg #[.int .u32 x0, .int .u32 x1, .int .u32 x2, .int .u32 x3, .int .u32 x4, .int .u32 x5, .int .u32 x6, .int .u32 x7])] =
    some ([Value.int .u32 x0, Value.int .u32 x1, Value.int .u32 x2, Value.int .u32 x3, Value.int .u32 x4, Value.int .u32 x5, Value.int .u32 x6, Value.int .u32 x7] ++ ((zeros 64).map bv ++ [Value.int .i64 ((0 : Nat) : Int), Value.int .u64 ((0 : Nat) : Int)])).toArray := by kernel_rfl
def Z74 : Array Value := (List.replicate 8 (Value.int .u32 0) ++ (List.replicate 64 (Value.int .u8 0) ++ [Value.int .i64 0, Value.int .u64 0])).toArray
theorem zero_dig (w : World) : (zeroValue 72).run Tryd.prog w = .ok (.agg Z74) w := by kernel_rfl
theorem dcells_size (v : V8) (m : List B8) (f l : Nat) (h : m.length = 64) : (dcells v m f l).size = 74 := by simp [dcells, h]
theorem dcells_one (v : V8) (m : List B8) (f l : Nat) : (dcells v m f l).all (·.oneCell') = true := by
  rw [Array.all_eq_true_iff_forall_mem]
  intro u hu
  simp only [dcells, List.mem_toArray, List.mem_append, List.mem_map, List.mem_cons, List.not_mem_nil, or_false] at hu
  rcases hu with (rfl | rfl | rfl | rfl | rfl | rfl | rfl | rfl) | ⟨x, _, rfl⟩ | (rfl | rfl) <;> rfl
theorem v8_bytes_len (v : V8) : v.bytes.length = 32 := by rw [V8.bytes, flat_len, v8_len]
theorem dig_len (m : List B8) : (dig m).length = 32 := v8_bytes_len _
theorem bvs_one (l : List B8) : (l.map bv).toArray.all (·.oneCell') = true := by
  rw [Array.all_eq_true_iff_forall_mem]
  intro u hu
  simp only [List.mem_toArray, List.mem_map] at hu
  obtain ⟨q, _, rfl⟩ := hu; rfl
end Go.Proofs.YtoclfohgchlpnaaDoor
