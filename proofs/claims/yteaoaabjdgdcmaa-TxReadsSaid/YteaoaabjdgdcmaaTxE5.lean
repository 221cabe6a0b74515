/- Records and rows of one record: inputs and outputs. -/
import Derived.Test.YteaoaabjdgdcmaaTxE4
import Derived.Great.BuildSlice
import Derived.Laws.AppendOwnNone
set_option linter.unusedVariables false
set_option linter.unusedSimpArgs false
namespace Go.Proofs.Yteaoaabjdgdcmaa
open Go.RowKit
abbrev ZIn5 : Array Value := #[.int .u8 0, .int .u8 0, .int .u8 0, .int .u8 0, .int .u8 0, .int .u8 0, .int .u8 0, .int .u8 0, .int .u8 0, .int .u8 0, .int .u8 0, .int .u8 0, .int .u8 0, .int .u8 0, .int .u8 0, .int .u8 0, .int .u8 0, .int .u8 0, .int .u8 0, .int .u8 0, .int .u8 0, .int .u8 0, .int .u8 0, .int .u8 0, .int .u8 0, .int .u8 0, .int .u8 0, .int .u8 0, .int .u8 0, .int .u8 0, .int .u8 0, .int .u8 0, .int .i64 0, .int .u64 0, .slice none 0 0]
abbrev ZOu5 : Array Value := #[.int .u8 0, .int .u8 0, .int .u8 0, .int .u8 0, .int .u8 0, .int .u8 0, .int .u8 0, .int .u8 0, .int .u8 0, .int .u8 0, .int .u8 0, .int .u8 0, .int .u8 0, .int .u8 0, .int .u8 0, .int .u8 0, .int .u8 0, .int .u8 0, .int .u8 0, .int .u8 0, .int .u8 0, .int .u8 0, .int .u8 0, .int .u8 0, .int .u8 0, .int .u8 0, .int .u8 0, .int .u8 0, .int .u8 0, .int .u8 0, .int .u8 0, .int .u8 0, .int .u64 0]
set_option maxRecDepth 100000 in
theorem foldl_set : ∀ (l : List Value) (n : Nat) (acc : Array Value), acc.size = n + l.length → ((l.zipIdx n).foldl (fun cs x => cs.setIfInBounds x.snd x.fst) acc).toList = acc.toList.take n ++ l
  | [], n, acc, h => by
    have h1 : acc.toList.length ≤ n := by simp at h ⊢; omega
    simp [List.take_of_length_le h1]
  | x :: l, n, acc, h => by
    rw [List.zipIdx_cons, List.foldl_cons, foldl_set l (n + 1) _ (by simp at h ⊢; omega), Array.toList_setIfInBounds]
    have hn : n < acc.toList.length := by simp at h ⊢; omega
    have e : (acc.toList.set n x).take (n + 1) = acc.toList.take n ++ [x] := by
      rw [List.take_succ_eq_append_getElem (by simpa using hn)]
      simp [List.take_set_of_le]
    rw [e, List.append_assoc]; rfl
set_option maxRecDepth 100000 in
theorem foldl_set0 (l : List Value) (acc : Array Value) (h : acc.size = l.length) : (l.zipIdx.foldl (fun cs x => cs.setIfInBounds x.snd x.fst) acc) = l.toArray := by
  apply Array.ext'
  rw [foldl_set l 0 acc (by omega)]; simp
set_option maxRecDepth 100000 in
theorem info_in5 : (Try.prog.info? 41).map (fun i => (i.zero, i.size, i.bytes)) = some (some (.agg ZIn5), 35, 72) := by kernel_rfl
set_option maxRecDepth 100000 in
theorem build_in (l : List Value) (hl : l.length = 35) (w : World) : (Instr.buildSlice 24 1 #[(0, .agg l.toArray)]).run Try.prog w = .ok (.slice (some ⟨w.heap.size, 0, none⟩) 1 1) (w.alloc (.cells l.toArray 41)) := by
  obtain ⟨i0, hi, hz0, hz1, hz2⟩ := info_parts info_in5
  have hf := foldl_set0 l ZIn5 (by rw [hl]; rfl)
  refine run_buildSlice w 24 41 1 _ _ i0 (.agg ZIn5) Try.underlying24 hi hz0 (by rw [hz1]; decide) (by rw [hz1]; decide) ?_
  rw [hz1]
  have e : ((Array.range (1 * 35)).map fun x => (Value.agg ZIn5).cells[x % (Value.agg ZIn5).cells.size]!) = ZIn5 := by kernel_rfl
  rw [e]
  have hcs : (Value.agg l.toArray).cells = l.toArray := rfl
  simp [Instr.fill, hcs, hl]
  first | exact ⟨Nat.le_of_eq rfl, hf⟩ | exact hf | trace_state
set_option maxRecDepth 100000 in
theorem wpList_build_in {ops : Array Oper} {rest : List Oper} {o : Oper} {a : Act} {w : World} {Q : Exit → Act → World → Prop} (hgd : o.guard = none) (l : List Value) (hl : l.length = 35) (C : Array Value) (hC : C = l.toArray) (parts : Array (Nat × Operand)) (ho : o.op = .buildSlice 24 1 parts)
    (hp' : (parts.toList.map fun p => (p.1, a.eval p.2)) = [(0, .agg C)]) (h : wpList Try.prog ops Q rest (a.put o.dst (.slice (some ⟨w.heap.size, 0, none⟩) 1 1)) (w.alloc (.cells C 41))) : wpList Try.prog ops Q (o :: rest) a w := by
  subst hC
  have hp : (parts.map fun (i, x) => (i, a.eval x)) = #[(0, .agg l.toArray)] := by
    apply Array.ext'
    rw [Array.toList_map]
    exact hp'
  refine wpList_plain hgd fun K hK => ?_
  unfold Oper.wp execOp
  simp only [ho, hp, Sem.run_bind, build_in l hl w, Result.andThen_ok]
  exact hK _ _ h
set_option maxRecDepth 100000 in
theorem info_ou5 : (Try.prog.info? 43).map (fun i => (i.zero, i.size, i.bytes)) = some (some (.agg ZOu5), 33, 40) := by kernel_rfl
set_option maxRecDepth 100000 in
theorem build_ou (l : List Value) (hl : l.length = 33) (w : World) : (Instr.buildSlice 25 1 #[(0, .agg l.toArray)]).run Try.prog w = .ok (.slice (some ⟨w.heap.size, 0, none⟩) 1 1) (w.alloc (.cells l.toArray 43)) := by
  obtain ⟨i0, hi, hz0, hz1, hz2⟩ := info_parts info_ou5
  have hf := foldl_set0 l ZOu5 (by rw [hl]; rfl)
  refine run_buildSlice w 25 43 1 _ _ i0 (.agg ZOu5) Try.underlying25 hi hz0 (by rw [hz1]; decide) (by rw [hz1]; decide) ?_
  rw [hz1]
  have e : ((Array.range (1 * 33)).map fun x => (Value.agg ZOu5).cells[x % (Value.agg ZOu5).cells.size]!) = ZOu5 := by kernel_rfl
  rw [e]
  have hcs : (Value.agg l.toArray).cells = l.toArray := rfl
  simp [Instr.fill, hcs, hl]
  first | exact ⟨Nat.le_of_eq rfl, hf⟩ | exact hf | trace_state
set_option maxRecDepth 100000 in
theorem wpList_build_ou {ops : Array Oper} {rest : List Oper} {o : Oper} {a : Act} {w : World} {Q : Exit → Act → World → Prop} (hgd : o.guard = none) (l : List Value) (hl : l.length = 33) (C : Array Value) (hC : C = l.toArray) (parts : Array (Nat × Operand)) (ho : o.op = .buildSlice 25 1 parts)
    (hp' : (parts.toList.map fun p => (p.1, a.eval p.2)) = [(0, .agg C)]) (h : wpList Try.prog ops Q rest (a.put o.dst (.slice (some ⟨w.heap.size, 0, none⟩) 1 1)) (w.alloc (.cells C 43))) : wpList Try.prog ops Q (o :: rest) a w := by
  subst hC
  have hp : (parts.map fun (i, x) => (i, a.eval x)) = #[(0, .agg l.toArray)] := by
    apply Array.ext'
    rw [Array.toList_map]
    exact hp'
  refine wpList_plain hgd fun K hK => ?_
  unfold Oper.wp execOp
  simp only [ho, hp, Sem.run_bind, build_ou l hl w, Result.andThen_ok]
  exact hK _ _ h
set_option maxRecDepth 100000 in
theorem wpList_build_eq {P : Program} {w : World} {ops : Array Oper} {rest : List Oper} {o : Oper} {a : Act} {Q : Exit → Act → World → Prop} (hg : o.guard = none) (t : TypeId) (parts : Array (Nat × Operand)) (ho : o.op = .build t parts)
    (cs : Array Value) (hf' : P.built t (parts.toList.map fun p => (p.1, a.eval p.2)) = some cs) (h : wpList P ops Q rest (a.put o.dst (.agg cs)) w) : wpList P ops Q (o :: rest) a w :=
  have hf : P.built t (parts.map fun (i, x) => (i, a.eval x)).toList = some cs := by rw [Array.toList_map]; exact hf'
  wpList_build hg t parts ho (by rw [hf]; rfl) (by rw [hf]; exact h)
set_option maxRecDepth 100000 in
theorem built_pt32 (x0 x1 x2 x3 x4 x5 x6 x7 x8 x9 x10 x11 x12 x13 x14 x15 x16 x17 x18 x19 x20 x21 x22 x23 x24 x25 x26 x27 x28 x29 x30 x31 : Value) : Try.prog.built 39 [(0, .agg #[x0, x1, x2, x3, x4, x5, x6, x7, x8, x9, x10, x11, x12, x13, x14, x15, x16, x17, x18, x19, x20, x21, x22, x23, x24, x25, x26, x27, x28, x29, x30, x31])] = some #[x0, x1, x2, x3, x4, x5, x6, x7, x8, x9, x10, x11, x12, x13, x14, x15, x16, x17, x18, x19, x20, x21, x22, x23, x24, x25, x26, x27, x28, x29, x30, x31, .int .i64 0] := by kernel_rfl
set_option maxRecDepth 100000 in
theorem built_pt (l : List Value) (h : l.length = 32) : Try.prog.built 39 [(0, .agg l.toArray)] = some (l ++ [Value.int .i64 0]).toArray := by
  match l, h with
  | [x0, x1, x2, x3, x4, x5, x6, x7, x8, x9, x10, x11, x12, x13, x14, x15, x16, x17, x18, x19, x20, x21, x22, x23, x24, x25, x26, x27, x28, x29, x30, x31], _ => exact built_pt32 x0 x1 x2 x3 x4 x5 x6 x7 x8 x9 x10 x11 x12 x13 x14 x15 x16 x17 x18 x19 x20 x21 x22 x23 x24 x25 x26 x27 x28 x29 x30 x31
set_option maxRecDepth 100000 in
theorem built_in33 (x0 x1 x2 x3 x4 x5 x6 x7 x8 x9 x10 x11 x12 x13 x14 x15 x16 x17 x18 x19 x20 x21 x22 x23 x24 x25 x26 x27 x28 x29 x30 x31 y : Value) : Try.prog.built 41 [(0, .agg #[x0, x1, x2, x3, x4, x5, x6, x7, x8, x9, x10, x11, x12, x13, x14, x15, x16, x17, x18, x19, x20, x21, x22, x23, x24, x25, x26, x27, x28, x29, x30, x31, y])] = some #[x0, x1, x2, x3, x4, x5, x6, x7, x8, x9, x10, x11, x12, x13, x14, x15, x16, x17, x18, x19, x20, x21, x22, x23, x24, x25, x26, x27, x28, x29, x30, x31, y, .int .u64 0, .slice none 0 0] := by kernel_rfl
set_option maxRecDepth 100000 in
theorem built_in (l : List Value) (y : Value) (h : l.length = 32) : Try.prog.built 41 [(0, .agg (l ++ [y]).toArray)] = some (l ++ [y, .int .u64 0, .slice none 0 0]).toArray := by
  match l, h with
  | [x0, x1, x2, x3, x4, x5, x6, x7, x8, x9, x10, x11, x12, x13, x14, x15, x16, x17, x18, x19, x20, x21, x22, x23, x24, x25, x26, x27, x28, x29, x30, x31], _ => exact built_in33 x0 x1 x2 x3 x4 x5 x6 x7 x8 x9 x10 x11 x12 x13 x14 x15 x16 x17 x18 x19 x20 x21 x22 x23 x24 x25 x26 x27 x28 x29 x30 x31 y
set_option maxRecDepth 100000 in
theorem built_ou32 (x0 x1 x2 x3 x4 x5 x6 x7 x8 x9 x10 x11 x12 x13 x14 x15 x16 x17 x18 x19 x20 x21 x22 x23 x24 x25 x26 x27 x28 x29 x30 x31 : Value) : Try.prog.built 43 [(0, .agg #[x0, x1, x2, x3, x4, x5, x6, x7, x8, x9, x10, x11, x12, x13, x14, x15, x16, x17, x18, x19, x20, x21, x22, x23, x24, x25, x26, x27, x28, x29, x30, x31])] = some #[x0, x1, x2, x3, x4, x5, x6, x7, x8, x9, x10, x11, x12, x13, x14, x15, x16, x17, x18, x19, x20, x21, x22, x23, x24, x25, x26, x27, x28, x29, x30, x31, .int .u64 0] := by kernel_rfl
set_option maxRecDepth 100000 in
theorem built_ou (l : List Value) (h : l.length = 32) : Try.prog.built 43 [(0, .agg l.toArray)] = some (l ++ [Value.int .u64 0]).toArray := by
  match l, h with
  | [x0, x1, x2, x3, x4, x5, x6, x7, x8, x9, x10, x11, x12, x13, x14, x15, x16, x17, x18, x19, x20, x21, x22, x23, x24, x25, x26, x27, x28, x29, x30, x31], _ => exact built_ou32 x0 x1 x2 x3 x4 x5 x6 x7 x8 x9 x10 x11 x12 x13 x14 x15 x16 x17 x18 x19 x20 x21 x22 x23 x24 x25 x26 x27 x28 x29 x30 x31
end Go.Proofs.Yteaoaabjdgdcmaa
