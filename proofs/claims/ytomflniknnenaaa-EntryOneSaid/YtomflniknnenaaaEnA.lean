/- Entries as plain records: how they lie in memory, loads of them as one rule, and the language's own == of them. -/
import Derived.Test.YtomflniknnenaaaTxBase
import Derived.Laws.StructEq
import Derived.Laws.ResultCell
import Derived.Laws.Rows
import Derived.Laws.Tables
set_option linter.unusedVariables false
set_option linter.unusedSimpArgs false
namespace Go.Proofs.Ytomflniknnenaaa
open Go.RowKit
/-- An entry, plain: kind, shard, digest, amount, reason, epoch. -/
structure Ent where
  k : Int
  s : Int
  d : List B8
  a : Nat
  y : Int
  p : Int
instance : DecidableEq Ent := fun a b => decidable_of_iff (a.k = b.k ∧ a.s = b.s ∧ a.d = b.d ∧ a.a = b.a ∧ a.y = b.y ∧ a.p = b.p) (by cases a; cases b; simp)
def Ent.cells (e : Ent) : List Value := [.int .i64 e.k, .int .i64 e.s] ++ (e.d.map bv ++ [.int .u64 (e.a : Int), .int .i64 e.y, .int .i64 e.p])
theorem Ent.len (e : Ent) (h : e.d.length = 32) : e.cells.length = 37 := by simp [Ent.cells, h]
set_option maxRecDepth 100000 in
theorem Ent.one (e : Ent) : e.cells.toArray.all (·.oneCell') = true := by
  rw [Array.all_eq_true_iff_forall_mem]
  intro u hu
  simp only [Ent.cells, List.mem_toArray, List.mem_append, List.mem_cons, List.not_mem_nil, or_false, List.mem_map] at hu
  rcases hu with (rfl | rfl) | ⟨x, -, rfl⟩ | (rfl | rfl | rfl) <;> rfl
set_option maxRecDepth 100000 in
theorem Ent.at (e : Ent) (h : e.d.length = 32) : e.cells[0]? = some (.int .i64 e.k) ∧ e.cells[1]? = some (.int .i64 e.s) ∧ e.cells[34]? = some (.int .u64 (e.a : Int)) ∧ e.cells[35]? = some (.int .i64 e.y) ∧ e.cells[36]? = some (.int .i64 e.p) := by
  refine ⟨rfl, rfl, ?_, ?_, ?_⟩ <;> (unfold Ent.cells; rw [List.getElem?_append_right (by simp), List.getElem?_append_right (by simp [h])]; simp [h])
set_option maxRecDepth 100000 in
theorem Ent.mid (e : Ent) (h : e.d.length = 32) : (e.cells.drop 2).take 32 = e.d.map bv := by
  show (e.d.map bv ++ _).take 32 = _
  rw [List.take_append_of_le_length (by simp [h]), List.take_of_length_le (by simp [h])]
theorem en_info : (Try.prog.info? 26).map (·.size) = some 37 := by kernel_rfl
/-- An entry's block. -/
def EAt (w : World) (b : Nat) (e : Ent) : Prop := w.heap[b]? = some (.cells e.cells.toArray 26 (0, 0))
section
variable {w w' : World} {b : Nat} {e : Ent}
theorem EAt.turn {S : Nat → Prop} (h : EAt w b e) (t : Turn S w w') (hb : ¬ S b) : EAt w' b e := t.heap h hb
set_option maxRecDepth 100000 in
theorem EAt.c (h : EAt w b e) (hd : e.d.length = 32) : w.cell? ⟨b, 0, none⟩ = some (.int .i64 e.k) ∧ w.cell? ⟨b, 1, none⟩ = some (.int .i64 e.s) ∧ w.cell? ⟨b, 34, none⟩ = some (.int .u64 (e.a : Int)) ∧ w.cell? ⟨b, 35, none⟩ = some (.int .i64 e.y) ∧ w.cell? ⟨b, 36, none⟩ = some (.int .i64 e.p) := by
  obtain ⟨a0, a1, a2, a3, a4⟩ := e.at hd
  refine ⟨?_, ?_, ?_, ?_, ?_⟩ <;> (rw [cell_of_row _ _ _ _ _ _ h, List.getElem?_toArray]; assumption)
theorem EAt.f (h : EAt w b e) (i : Nat) : w.frozen? ⟨b, i, none⟩ = false := frozen_of_row w b i _ _ h
set_option maxRecDepth 100000 in
theorem EAt.row (h : EAt w b e) (hd : e.d.length = 32) : rowOf w b 0 37 = some e.cells.toArray := by
  have := rowOf_block h 0 37 (by rw [e.len hd]; omega)
  rwa [List.drop_zero, List.take_of_length_le (by rw [e.len hd]; omega)] at this
set_option maxRecDepth 100000 in
theorem EAt.dig (h : EAt w b e) (hd : e.d.length = 32) : rowOf w b 2 32 = some (e.d.map bv).toArray := by
  have := rowOf_block h 2 32 (by rw [e.len hd]; omega)
  rwa [e.mid hd] at this
theorem EAt.lt (h : EAt w b e) : b < w.heap.size := lt_of_block h
end
/-- A load of an entry, behind a name that the walk does not open. -/
def enLoad (v : Value) : Sem Value := Instr.loadAt 26 v
set_option maxRecDepth 100000 in
theorem loadAt_en (v : Value) : Instr.loadAt 26 v = enLoad v := rfl
set_option maxRecDepth 100000 in
theorem run_enLoad (w : World) (b o : Nat) : (enLoad (.pointer (some ⟨b, o, none⟩))).run Try.prog w = (match rowOf w b o 37 with | some C => .ok (.agg C) w | none => loadRest Try.prog 26 b o w) := by
  unfold enLoad
  cases h : rowOf w b o 37 with
  | none => rfl
  | some C =>
    obtain ⟨hs, hr⟩ := rowOf_some h
    have := run_loadAt_mid w b o 26 C.toList _ hr Try.underlying26 rfl (by rw [Array.length_toList, hs]; kernel_rfl)
    simpa using this
/-- One field after another. -/
theorem eqFields_cons {P : Program} {d : Nat} {xs ys : Array Value} {f : Field} {fs : List Field} {a b : Value} {r R : Bool} (hn : f.name ≠ "_") (ha : ∀ w, (part f.type xs f.offset).run P w = .ok a w) (hb : ∀ w, (part f.type ys f.offset).run P w = .ok b w)
    (hr : ∀ w, (Op.equalIn d f.type a b).run P w = .ok r w) (hR : ∀ w, (Op.eqFields d xs ys fs).run P w = .ok R w) (w : World) : (Op.eqFields d xs ys (f :: fs)).run P w = .ok (r && R) w := by
  rw [Op.eqFields, if_pos hn]
  simp only [Sem.run_bind, ha, hb, hr, Result.andThen_ok]
  cases r
  · simp
  · simp [hR]
theorem part_num (t : TypeId) (k : IntKind) (ht : Try.prog.underlying t = some (.int k)) (C : Array Value) (o : Nat) (v : Value) (h : C[o]? = some v) (w : World) : (part t C o).run Try.prog w = .ok v w := by
  simp [part, isAgg, run_underlying ht, h]
theorem part_ids (C : Array Value) (o : Nat) (d : List B8) (h : (C.toList.drop o).take 32 = d.map bv) (w : World) : (part 23 C o).run Try.prog w = .ok (.agg (d.map bv).toArray) w := by
  have hs : ∀ w, (sizeOf 23).run Try.prog w = .ok 32 w := fun w => by kernel_rfl
  have ha : ∀ w, (isAgg 23).run Try.prog w = .ok true w := fun w => by kernel_rfl
  unfold part
  simp only [Sem.run_bind, ha, Result.andThen_ok, if_true, hs, Sem.run_pure]
  congr 2
  rw [← h]
  cases C
  rw [List.extract_toArray, List.extract_eq_take_drop]
  simp
theorem eqlIn_id (n : Nat) (a b : List B8) (ha : a.length = 32) (hb : b.length = 32) (w : World) : (Op.equalIn (n + 2) 23 (.agg (a.map bv).toArray) (.agg (b.map bv).toArray)).run Try.prog w = .ok (decide (a = b)) w := by
  have h := run_equalIn_bytes (P := Try.prog) w n 23 5 32 Try.underlying23 Try.underlying5 size_u8 (u8s a) (u8s b) (by simp [u8s, ha]) (by simp [u8s, hb])
  rw [u8s_cell, u8s_cell, u8s_inj] at h
  exact h
set_option maxRecDepth 100000 in
theorem eql_in_ent (x y : Ent) (hx : x.d.length = 32) (hy : y.d.length = 32) (w : World) : (Op.equalIn 10000 26 (.agg x.cells.toArray) (.agg y.cells.toArray)).run Try.prog w = .ok (decide (x = y)) w := by
  rw [run_equalIn_struct w 9999 26 _ _ (by kernel_rfl) (by kernel_rfl)]
  have hf : (Try.prog.fieldsOf 26).toList.map (fun f => (f.name, f.type, f.offset)) = [("Kind", 3, 0), ("Shard", 3, 1), ("Tx", 23, 2), ("Amount", 24, 34), ("Why", 3, 35), ("Epoch", 3, 36)] := by kernel_rfl
  generalize (Try.prog.fieldsOf 26).toList = F at hf
  rcases F with _ | ⟨f0, _ | ⟨f1, _ | ⟨f2, _ | ⟨f3, _ | ⟨f4, _ | ⟨f5, _ | ⟨f6, F⟩⟩⟩⟩⟩⟩⟩ <;> try (simp at hf; done)
  · simp only [List.map_cons, List.cons.injEq, Prod.mk.injEq, List.map_nil, and_true] at hf
    obtain ⟨⟨a0, b0, c0⟩, ⟨a1, b1, c1⟩, ⟨a2, b2, c2⟩, ⟨a3, b3, c3⟩, ⟨a4, b4, c4⟩, ⟨a5, b5, c5⟩⟩ := hf
    obtain ⟨p0, p1, p3, p4, p5⟩ := x.at hx
    obtain ⟨q0, q1, q3, q4, q5⟩ := y.at hy
    rw [← List.getElem?_toArray] at p0 p1 p3 p4 p5 q0 q1 q3 q4 q5
    have num : ∀ (t : TypeId) (k : IntKind) (ht : Try.prog.underlying t = some (.int k)) (i : Int) (j : Int) (w : World), (Op.equalIn 9999 t (.int k i) (.int k j)).run Try.prog w = .ok (i == j) w := fun t k ht i j w => run_equalIn_int (P := Try.prog) w 9998 t k k i j ht
    have G5 := eqFields_cons (P := Try.prog) (d := 9999) (xs := x.cells.toArray) (ys := y.cells.toArray) (f := f5) (fs := []) (by rw [a5]; decide) (by rw [b5, c5]; exact part_num _ .i64 Try.underlying3 _ _ _ p5) (by rw [b5, c5]; exact part_num _ .i64 Try.underlying3 _ _ _ q5) (by rw [b5]; exact num _ _ Try.underlying3 _ _) (fun w => by simp [Op.eqFields]; rfl)
    have G4 := eqFields_cons (P := Try.prog) (d := 9999) (xs := x.cells.toArray) (ys := y.cells.toArray) (f := f4) (by rw [a4]; decide) (by rw [b4, c4]; exact part_num _ .i64 Try.underlying3 _ _ _ p4) (by rw [b4, c4]; exact part_num _ .i64 Try.underlying3 _ _ _ q4) (by rw [b4]; exact num _ _ Try.underlying3 _ _) G5
    have G3 := eqFields_cons (P := Try.prog) (d := 9999) (xs := x.cells.toArray) (ys := y.cells.toArray) (f := f3) (by rw [a3]; decide) (by rw [b3, c3]; exact part_num _ .u64 Try.underlying24 _ _ _ p3) (by rw [b3, c3]; exact part_num _ .u64 Try.underlying24 _ _ _ q3) (by rw [b3]; exact num _ _ Try.underlying24 _ _) G4
    have G2 := eqFields_cons (P := Try.prog) (d := 9999) (xs := x.cells.toArray) (ys := y.cells.toArray) (f := f2) (by rw [a2]; decide) (by rw [b2, c2]; exact part_ids _ 2 x.d (x.mid hx)) (by rw [b2, c2]; exact part_ids _ 2 y.d (y.mid hy)) (by rw [b2]; exact eqlIn_id 9997 _ _ hx hy) G3
    have G1 := eqFields_cons (P := Try.prog) (d := 9999) (xs := x.cells.toArray) (ys := y.cells.toArray) (f := f1) (by rw [a1]; decide) (by rw [b1, c1]; exact part_num _ .i64 Try.underlying3 _ _ _ p1) (by rw [b1, c1]; exact part_num _ .i64 Try.underlying3 _ _ _ q1) (by rw [b1]; exact num _ _ Try.underlying3 _ _) G2
    have G0 := eqFields_cons (P := Try.prog) (d := 9999) (xs := x.cells.toArray) (ys := y.cells.toArray) (f := f0) (by rw [a0]; decide) (by rw [b0, c0]; exact part_num _ .i64 Try.underlying3 _ _ _ p0) (by rw [b0, c0]; exact part_num _ .i64 Try.underlying3 _ _ _ q0) (by rw [b0]; exact num _ _ Try.underlying3 _ _) G1
    rw [G0 w]
    congr 1
    rw [Bool.eq_iff_iff]
    cases x; cases y
    simp
    omega
set_option maxRecDepth 100000 in
theorem eql_ent (x y : Ent) (hx : x.d.length = 32) (hy : y.d.length = 32) (w : World) : (binOp .eql 26 (.agg x.cells.toArray) (.agg y.cells.toArray)).run Try.prog w = .ok (.bool (decide (x = y))) w := by
  rw [run_eql_struct, eql_in_ent x y hx hy]; rfl
end Go.Proofs.Ytomflniknnenaaa
