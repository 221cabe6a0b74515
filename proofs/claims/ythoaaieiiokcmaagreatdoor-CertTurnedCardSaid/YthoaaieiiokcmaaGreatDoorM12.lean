/- Merged: Merged: Entries as plain records: how they lie in memory, loads of them as one rule, and the language's own == of them. 'between', 'bounded', 'Right', 'Decides', and the document's 'Right': their contracts. The document's 'Right', and 'Decides'. Blocks that no writing of a pen turns; 'Put', and the form that it answers. The document's Num and Bytes, and its 'Put'. -/
import Derived.Test.YthoaaieiiokcmaaGreatDoorM03
import Derived.Test.YthoaaieiiokcmaaGreatDoorM04
import Derived.Test.YthoaaieiiokcmaaGreatDoorM00
import Derived.LoopTactic
import Derived.Below
import Derived.Deep.QuietTactic
import Derived.BigQuiet
import Derived.OwnWalk
import Derived.Test.YthoaaieiiokcmaaGreatDoorM01
import Derived.Stop.BytesEq
import Derived.Test.YthoaaieiiokcmaaGreatDoorM05
import Derived.Test.YthoaaieiiokcmaaGreatDoorM08
import Derived.Test.YthoaaieiiokcmaaGreatDoorM09
import Derived.Test.YthoaaieiiokcmaaGreatDoorM10
import Derived.Deep.MidRow
import Derived.Deep.WholeRow
import Derived.Outline
import Derived.Laws.StructEq
import Derived.Laws.ResultCell
import Derived.Laws.Rows
import Derived.Laws.Tables
import Derived.Test.YthoaaieiiokcmaaGreatDoorM11
import Derived.IntWalk
namespace Go.Proofs.YthoaaieiiokcmaaGreatDoor
section

section
set_option linter.unusedVariables false
set_option linter.unusedSimpArgs false

open Go.RowKit
/-- An entry, plain: kind, shard, digest, amount, reason, epoch. -/
structure Ent where
  k : Int
  s : Int
  d : List B8
  a : Nat
  y : Int
  p : Int
instance : DecidableEq Ent := fun a b => decidable_of_iff (a.k = b.k ∧ a.s = b.s ∧ a.d = b.d ∧ a.a = b.a ∧ a.y = b.y ∧ a.p = b.p) (by cases a; cases b; simp)
def Ent.cells (e : Ent) : List Value := [.int .i64 e.k, .int .i64 e.s] ++ (e.d.map bv ++ [.int .u64 (e.a : Int), .int .i64 e.y, .int .i64 e.p])
theorem Ent.len (e : Ent) (h : e.d.length = 32) : e.cells.length = 37 := by simp [Ent.cells, h]
set_option maxRecDepth 100000 in
theorem Ent.one (e : Ent) : e.cells.toArray.all (·.oneCell') = true := by
  rw [Array.all_eq_true_iff_forall_mem]
  intro u hu
  simp only [Ent.cells, List.mem_toArray, List.mem_append, List.mem_cons, List.not_mem_nil, or_false, List.mem_map] at hu
  rcases hu with (rfl | rfl) | ⟨x, -, rfl⟩ | (rfl | rfl | rfl) <;> rfl
set_option maxRecDepth 100000 in
theorem Ent.at (e : Ent) (h : e.d.length = 32) : e.cells[0]? = some (.int .i64 e.k) ∧ e.cells[1]? = some (.int .i64 e.s) ∧ e.cells[34]? = some (.int .u64 (e.a : Int)) ∧ e.cells[35]? = some (.int .i64 e.y) ∧ e.cells[36]? = some (.int .i64 e.p) := by
  refine ⟨rfl, rfl, ?_, ?_, ?_⟩ <;> (unfold Ent.cells; rw [List.getElem?_append_right (by simp), List.getElem?_append_right (by simp [h])]; simp [h])
set_option maxRecDepth 100000 in
theorem Ent.mid (e : Ent) (h : e.d.length = 32) : (e.cells.drop 2).take 32 = e.d.map bv := by
  show (e.d.map bv ++ _).take 32 = _
  rw [List.take_append_of_le_length (by simp [h]), List.take_of_length_le (by simp [h])]
theorem en_info : (Tryz.prog.info? 27).map (·.size) = some 37 := by kernel_rfl
/-- An entry's block. -/
def EAt (w : World) (b : Nat) (e : Ent) : Prop := w.heap[b]? = some (.cells e.cells.toArray 27 (0, 0))
section
variable {w w' : World} {b : Nat} {e : Ent}
theorem EAt.turn {S : Nat → Prop} (h : EAt w b e) (t : Turn S w w') (hb : ¬ S b) : EAt w' b e := t.heap h hb
set_option maxRecDepth 100000 in
theorem EAt.c (h : EAt w b e) (hd : e.d.length = 32) : w.cell? ⟨b, 0, none⟩ = some (.int .i64 e.k) ∧ w.cell? ⟨b, 1, none⟩ = some (.int .i64 e.s) ∧ w.cell? ⟨b, 34, none⟩ = some (.int .u64 (e.a : Int)) ∧ w.cell? ⟨b, 35, none⟩ = some (.int .i64 e.y) ∧ w.cell? ⟨b, 36, none⟩ = some (.int .i64 e.p) := by
  obtain ⟨a0, a1, a2, a3, a4⟩ := e.at hd
  refine ⟨?_, ?_, ?_, ?_, ?_⟩ <;> (rw [cell_of_row _ _ _ _ _ _ h, List.getElem?_toArray]; assumption)
theorem EAt.f (h : EAt w b e) (i : Nat) : w.frozen? ⟨b, i, none⟩ = false := frozen_of_row w b i _ _ h
set_option maxRecDepth 100000 in
theorem EAt.row (h : EAt w b e) (hd : e.d.length = 32) : rowOf w b 0 37 = some e.cells.toArray := by
  have := rowOf_block h 0 37 (by rw [e.len hd]; omega)
  rwa [List.drop_zero, List.take_of_length_le (by rw [e.len hd]; omega)] at this
set_option maxRecDepth 100000 in
theorem EAt.dig (h : EAt w b e) (hd : e.d.length = 32) : rowOf w b 2 32 = some (e.d.map bv).toArray := by
  have := rowOf_block h 2 32 (by rw [e.len hd]; omega)
  rwa [e.mid hd] at this
theorem EAt.lt (h : EAt w b e) : b < w.heap.size := lt_of_block h
end
/-- A load of an entry, behind a name that the walk does not open. -/
def enLoad (v : Value) : Sem Value := Instr.loadAt 27 v
set_option maxRecDepth 100000 in
theorem loadAt_en (v : Value) : Instr.loadAt 27 v = enLoad v := rfl
set_option maxRecDepth 100000 in
theorem run_enLoad (w : World) (b o : Nat) : (enLoad (.pointer (some ⟨b, o, none⟩))).run Tryz.prog w = (match rowOf w b o 37 with | some C => .ok (.agg C) w | none => loadRest Tryz.prog 27 b o w) := by
  unfold enLoad
  cases h : rowOf w b o 37 with
  | none => rfl
  | some C =>
    obtain ⟨hs, hr⟩ := rowOf_some h
    have := run_loadAt_mid w b o 27 C.toList _ hr Tryz.underlying27 rfl (by rw [Array.length_toList, hs]; kernel_rfl)
    simpa using this
/-- One field after another. -/
theorem eqFields_cons {P : Program} {d : Nat} {xs ys : Array Value} {f : Field} {fs : List Field} {a b : Value} {r R : Bool} (hn : f.name ≠ "_") (ha : ∀ w, (part f.type xs f.offset).run P w = .ok a w) (hb : ∀ w, (part f.type ys f.offset).run P w = .ok b w)
    (hr : ∀ w, (Op.equalIn d f.type a b).run P w = .ok r w) (hR : ∀ w, (Op.eqFields d xs ys fs).run P w = .ok R w) (w : World) : (Op.eqFields d xs ys (f :: fs)).run P w = .ok (r && R) w := by
  rw [Op.eqFields, if_pos hn]
  simp only [Sem.run_bind, ha, hb, hr, Result.andThen_ok]
  cases r
  · simp
  · simp [hR]
theorem part_num (t : TypeId) (k : IntKind) (ht : Tryz.prog.underlying t = some (.int k)) (C : Array Value) (o : Nat) (v : Value) (h : C[o]? = some v) (w : World) : (part t C o).run Tryz.prog w = .ok v w := by
  simp [part, isAgg, run_underlying ht, h]
theorem part_ids (C : Array Value) (o : Nat) (d : List B8) (h : (C.toList.drop o).take 32 = d.map bv) (w : World) : (part 24 C o).run Tryz.prog w = .ok (.agg (d.map bv).toArray) w := by
  have hs : ∀ w, (sizeOf 24).run Tryz.prog w = .ok 32 w := fun w => by kernel_rfl
  have ha : ∀ w, (isAgg 24).run Tryz.prog w = .ok true w := fun w => by kernel_rfl
  unfold part
  simp only [Sem.run_bind, ha, Result.andThen_ok, if_true, hs, Sem.run_pure]
  congr 2
  rw [← h]
  cases C
  rw [List.extract_toArray, List.extract_eq_take_drop]
  simp
theorem eqlIn_id (n : Nat) (a b : List B8) (ha : a.length = 32) (hb : b.length = 32) (w : World) : (Op.equalIn (n + 2) 24 (.agg (a.map bv).toArray) (.agg (b.map bv).toArray)).run Tryz.prog w = .ok (decide (a = b)) w := by
  have h := run_equalIn_bytes (P := Tryz.prog) w n 24 5 32 Tryz.underlying24 Tryz.underlying5 size_u8 (u8s a) (u8s b) (by simp [u8s, ha]) (by simp [u8s, hb])
  rw [u8s_cell, u8s_cell, u8s_inj] at h
  exact h
set_option maxRecDepth 100000 in
theorem eql_in_ent (x y : Ent) (hx : x.d.length = 32) (hy : y.d.length = 32) (w : World) : (Op.equalIn 10000 27 (.agg x.cells.toArray) (.agg y.cells.toArray)).run Tryz.prog w = .ok (decide (x = y)) w := by
  rw [run_equalIn_struct w 9999 27 _ _ (by kernel_rfl) (by kernel_rfl)]
  have hf : (Tryz.prog.fieldsOf 27).toList.map (fun f => (f.name, f.type, f.offset)) = [("Kind", 3, 0), ("Shard", 3, 1), ("Tx", 24, 2), ("Amount", 25, 34), ("Why", 3, 35), ("Epoch", 3, 36)] := by kernel_rfl
  generalize (Tryz.prog.fieldsOf 27).toList = F at hf
  rcases F with _ | ⟨f0, _ | ⟨f1, _ | ⟨f2, _ | ⟨f3, _ | ⟨f4, _ | ⟨f5, _ | ⟨f6, F⟩⟩⟩⟩⟩⟩⟩ <;> try (simp at hf; done)
  · simp only [List.map_cons, List.cons.injEq, Prod.mk.injEq, List.map_nil, and_true] at hf
    obtain ⟨⟨a0, b0, c0⟩, ⟨a1, b1, c1⟩, ⟨a2, b2, c2⟩, ⟨a3, b3, c3⟩, ⟨a4, b4, c4⟩, ⟨a5, b5, c5⟩⟩ := hf
    obtain ⟨p0, p1, p3, p4, p5⟩ := x.at hx
    obtain ⟨q0, q1, q3, q4, q5⟩ := y.at hy
    rw [← List.getElem?_toArray] at p0 p1 p3 p4 p5 q0 q1 q3 q4 q5
    have num : ∀ (t : TypeId) (k : IntKind) (ht : Tryz.prog.underlying t = some (.int k)) (i : Int) (j : Int) (w : World), (Op.equalIn 9999 t (.int k i) (.int k j)).run Tryz.prog w = .ok (i == j) w := fun t k ht i j w => run_equalIn_int (P := Tryz.prog) w 9998 t k k i j ht
    have G5 := eqFields_cons (P := Tryz.prog) (d := 9999) (xs := x.cells.toArray) (ys := y.cells.toArray) (f := f5) (fs := []) (by rw [a5]; decide) (by rw [b5, c5]; exact part_num _ .i64 Tryz.underlying3 _ _ _ p5) (by rw [b5, c5]; exact part_num _ .i64 Tryz.underlying3 _ _ _ q5) (by rw [b5]; exact num _ _ Tryz.underlying3 _ _) (fun w => by simp [Op.eqFields]; rfl)
    have G4 := eqFields_cons (P := Tryz.prog) (d := 9999) (xs := x.cells.toArray) (ys := y.cells.toArray) (f := f4) (by rw [a4]; decide) (by rw [b4, c4]; exact part_num _ .i64 Tryz.underlying3 _ _ _ p4) (by rw [b4, c4]; exact part_num _ .i64 Tryz.underlying3 _ _ _ q4) (by rw [b4]; exact num _ _ Tryz.underlying3 _ _) G5
    have G3 := eqFields_cons (P := Tryz.prog) (d := 9999) (xs := x.cells.toArray) (ys := y.cells.toArray) (f := f3) (by rw [a3]; decide) (by rw [b3, c3]; exact part_num _ .u64 Tryz.underlying25 _ _ _ p3) (by rw [b3, c3]; exact part_num _ .u64 Tryz.underlying25 _ _ _ q3) (by rw [b3]; exact num _ _ Tryz.underlying25 _ _) G4
    have G2 := eqFields_cons (P := Tryz.prog) (d := 9999) (xs := x.cells.toArray) (ys := y.cells.toArray) (f := f2) (by rw [a2]; decide) (by rw [b2, c2]; exact part_ids _ 2 x.d (x.mid hx)) (by rw [b2, c2]; exact part_ids _ 2 y.d (y.mid hy)) (by rw [b2]; exact eqlIn_id 9997 _ _ hx hy) G3
    have G1 := eqFields_cons (P := Tryz.prog) (d := 9999) (xs := x.cells.toArray) (ys := y.cells.toArray) (f := f1) (by rw [a1]; decide) (by rw [b1, c1]; exact part_num _ .i64 Tryz.underlying3 _ _ _ p1) (by rw [b1, c1]; exact part_num _ .i64 Tryz.underlying3 _ _ _ q1) (by rw [b1]; exact num _ _ Tryz.underlying3 _ _) G2
    have G0 := eqFields_cons (P := Tryz.prog) (d := 9999) (xs := x.cells.toArray) (ys := y.cells.toArray) (f := f0) (by rw [a0]; decide) (by rw [b0, c0]; exact part_num _ .i64 Tryz.underlying3 _ _ _ p0) (by rw [b0, c0]; exact part_num _ .i64 Tryz.underlying3 _ _ _ q0) (by rw [b0]; exact num _ _ Tryz.underlying3 _ _) G1
    rw [G0 w]
    congr 1
    rw [Bool.eq_iff_iff]
    cases x; cases y
    simp
    omega
end
section
set_option linter.unusedVariables false
set_option linter.unusedSimpArgs false

open Go.RowKit
set_option maxRecDepth 100000 in
theorem between_any (n l m : Int) (w : World) : Calls Tryz.prog 104 #[.int .i64 n, .int .i64 l, .int .i64 m] w fun r w' => r = .returned (.int .i64 (min (max n l) m)) ∧ w' = w := by
  go_enter Tryz.func104, Tryz.ntmps104
  go_wp2
  go_ret
  exact ⟨rfl, rfl⟩
section
variable {w : World} {b : Nat} {e : Ent}
set_option maxRecDepth 100000 in
theorem EAt.set0 (h : EAt w b e) (z : Int) : EAt (w.setCell ⟨b, 0, none⟩ (.int .i64 z)) b { e with k := z } ∧ Turn (fun i => i = b) w (w.setCell ⟨b, 0, none⟩ (.int .i64 z)) := by
  refine ⟨?_, (Turn.refl _ _).setCell _ _ (fun _ => rfl)⟩
  unfold EAt
  rw [heap_setCell_same w b 0 _ _ _ h]; rfl
set_option maxRecDepth 100000 in
theorem EAt.set1 (h : EAt w b e) (z : Int) : EAt (w.setCell ⟨b, 1, none⟩ (.int .i64 z)) b { e with s := z } ∧ Turn (fun i => i = b) w (w.setCell ⟨b, 1, none⟩ (.int .i64 z)) := by
  refine ⟨?_, (Turn.refl _ _).setCell _ _ (fun _ => rfl)⟩
  unfold EAt
  rw [heap_setCell_same w b 1 _ _ _ h]; rfl
theorem set_far (D r : List Value) (v : Value) (i : Nat) (hD : D.length = 32) (u0 u1 : Value) : ([u0, u1] ++ (D ++ r)).toArray.setIfInBounds (34 + i) v = ([u0, u1] ++ (D ++ r.set i v)).toArray := by
  rw [List.setIfInBounds_toArray]
  congr 1
  rw [List.set_append, if_neg (by simp; omega), List.set_append, if_neg (by simp; omega)]
  congr 3
  simp [hD]; omega
set_option maxRecDepth 100000 in
theorem EAt.set34 (h : EAt w b e) (hd : e.d.length = 32) (z : Nat) : EAt (w.setCell ⟨b, 34, none⟩ (.int .u64 (z : Int))) b { e with a := z } ∧ Turn (fun i => i = b) w (w.setCell ⟨b, 34, none⟩ (.int .u64 (z : Int))) := by
  refine ⟨?_, (Turn.refl _ _).setCell _ _ (fun _ => rfl)⟩
  unfold EAt
  rw [heap_setCell_same w b 34 _ _ _ h]
  exact congrArg (fun c => some (Obj.cells c _ _)) (set_far (e.d.map bv) _ _ 0 (by simp [hd]) _ _)
set_option maxRecDepth 100000 in
theorem EAt.set35 (h : EAt w b e) (hd : e.d.length = 32) (z : Int) : EAt (w.setCell ⟨b, 35, none⟩ (.int .i64 z)) b { e with y := z } ∧ Turn (fun i => i = b) w (w.setCell ⟨b, 35, none⟩ (.int .i64 z)) := by
  refine ⟨?_, (Turn.refl _ _).setCell _ _ (fun _ => rfl)⟩
  unfold EAt
  rw [heap_setCell_same w b 35 _ _ _ h]
  exact congrArg (fun c => some (Obj.cells c _ _)) (set_far (e.d.map bv) _ _ 1 (by simp [hd]) _ _)
set_option maxRecDepth 100000 in
theorem EAt.set36 (h : EAt w b e) (hd : e.d.length = 32) (z : Int) : EAt (w.setCell ⟨b, 36, none⟩ (.int .i64 z)) b { e with p := z } ∧ Turn (fun i => i = b) w (w.setCell ⟨b, 36, none⟩ (.int .i64 z)) := by
  refine ⟨?_, (Turn.refl _ _).setCell _ _ (fun _ => rfl)⟩
  unfold EAt
  rw [heap_setCell_same w b 36 _ _ _ h]
  exact congrArg (fun c => some (Obj.cells c _ _)) (set_far (e.d.map bv) _ _ 2 (by simp [hd]) _ _)
end
/-- The entry with all its numbers brought within their bounds. -/
def bnd (e : Ent) : Ent := ⟨min (max e.k 1) 3, min (max e.s 0) 63, e.d, min e.a 4611686018427387904, min (max e.y 0) 63, min (max e.p 0) 1099511627776⟩
def EZ : Ent := ⟨0, 0, zeros 32, 0, 0, 0⟩
abbrev Z37E : Array Value := #[.int .i64 0, .int .i64 0, .int .u8 0, .int .u8 0, .int .u8 0, .int .u8 0, .int .u8 0, .int .u8 0, .int .u8 0, .int .u8 0, .int .u8 0, .int .u8 0, .int .u8 0, .int .u8 0, .int .u8 0, .int .u8 0, .int .u8 0, .int .u8 0, .int .u8 0, .int .u8 0, .int .u8 0, .int .u8 0, .int .u8 0, .int .u8 0, .int .u8 0, .int .u8 0, .int .u8 0, .int .u8 0, .int .u8 0, .int .u8 0, .int .u8 0, .int .u8 0, .int .u8 0, .int .u8 0, .int .u64 0, .int .i64 0, .int .i64 0]
set_option maxRecDepth 100000 in
theorem EZ_eq : EZ.cells.toArray = Z37E := rfl
set_option maxRecDepth 100000 in
theorem en_zero (w : World) : (zeroValue 27).run Tryz.prog w = .ok (.agg Z37E) w := by kernel_rfl
attribute [local go_sem ↓] loadAt_en loadAt_id
attribute [local go_sem] run_enLoad run_idLoad rowOf_drew rowOf_drewN
set_option maxRecDepth 100000 in
set_option maxHeartbeats 4000000 in
theorem bounded_any (e : Ent) (w : World) (hd : e.d.length = 32) : Calls Tryz.prog 86 #[.agg e.cells.toArray] w fun r w' => r = .returned (.agg (bnd e).cells.toArray) ∧ Turn (fun _ => False) w w' := by
  obtain ⟨C, hC⟩ : ∃ C, C = e.cells.toArray := ⟨_, rfl⟩
  rw [← hC]
  obtain ⟨w2, hw2⟩ : ∃ w2, w2 = (w.alloc (.cells C 27)).alloc (.cells Z37E 27) := ⟨_, rfl⟩
  have t2 : Turn (fun _ => False) w w2 := by rw [hw2]; exact ((Turn.refl _ _).alloc _).alloc _
  have e2 : EAt w2 w.heap.size e := by rw [hw2, hC]; exact heap_alloc2_old _ _ _
  have r2 : w2.heap[w.heap.size + 1]? = some (.cells Z37E 27 (0, 0)) := by rw [hw2]; exact heap_alloc2_new _ _ _
  have T := Lib.hid between_any
  have E2 := Lib.hid e2
  have R2 := Lib.hid r2
  have T2 := Lib.hid t2
  have HD := Lib.hid hd
  have hzd := en_zero
  clear t2 r2 hd hC
  go_enter Tryz.func86, Tryz.ntmps86
  go_upto_region 1 with fail
  change Code.wp _ _ _ _ ((w.alloc (.cells C 27)).alloc (.cells Z37E 27))
  rw [← hw2]
  clear hw2
  obtain ⟨c0, c1, c2, c3, c4⟩ := e2.c HD.out
  have z0 := e2.f 0
  clear e2
  go_upto_region 2 with (go_at_call 104; refine (T.out _ _ _ _).mono ?_; rintro r w9 ⟨rfl, hw9⟩; rw [hw9]; clear hw9 w9)
  obtain ⟨e3, t3⟩ := E2.out.set0 (min (max e.k 1) 3)
  obtain ⟨w3, hw3⟩ : ∃ w3, w3 = w2.setCell ⟨w.heap.size, 0, none⟩ (.int .i64 (min (max e.k 1) 3)) := ⟨_, rfl⟩
  rw [← hw3] at e3 t3
  have E3 := Lib.hid e3
  have T3 := Lib.hid (T2.out.trans t3 (fun i hi h => absurd hi (by have h' : i = w.heap.size := h; omega)))
  have R3 := Lib.hid (t3.heap R2.out (by omega))
  change Code.wp _ _ _ _ (w2.setCell ⟨w.heap.size, 0, none⟩ (.int .i64 (min (max e.k 1) 3)))
  rw [← hw3]
  clear hw3 e3 t3 E2 T2 R2 c0 c1 c2 c3 c4 z0
  obtain ⟨c0, c1, c2, c3, c4⟩ := E3.out.c HD.out
  have z0 := E3.out.f 1
  go_upto_region 3 with (go_at_call 104; refine (T.out _ _ _ _).mono ?_; rintro r w9 ⟨rfl, hw9⟩; rw [hw9]; clear hw9 w9)
  obtain ⟨e4, t4⟩ := E3.out.set1 (min (max e.s 0) 63)
  obtain ⟨w4, hw4⟩ : ∃ w4, w4 = w3.setCell ⟨w.heap.size, 1, none⟩ (.int .i64 (min (max e.s 0) 63)) := ⟨_, rfl⟩
  rw [← hw4] at e4 t4
  have E4 := Lib.hid e4
  have T4 := Lib.hid (T3.out.trans t4 (fun i hi h => absurd hi (by have h' : i = w.heap.size := h; omega)))
  have R4 := Lib.hid (t4.heap R3.out (by omega))
  change Code.wp _ _ _ _ (w3.setCell ⟨w.heap.size, 1, none⟩ (.int .i64 (min (max e.s 0) 63)))
  rw [← hw4]
  clear hw4 e4 t4 E3 T3 R3 c0 c1 c2 c3 c4 z0
  obtain ⟨c0, c1, c2, c3, c4⟩ := E4.out.c HD.out
  have z0 := E4.out.f 34
  go_upto_region 4 with (go_at_call 104; refine (T.out _ _ _ _).mono ?_; rintro r w9 ⟨rfl, hw9⟩; rw [hw9]; clear hw9 w9)
  rw [show (min (e.a : Int) 4611686018427387904) = ((min e.a 4611686018427387904 : Nat) : Int) by omega]
  obtain ⟨e5, t5⟩ := E4.out.set34 HD.out (min e.a 4611686018427387904)
  obtain ⟨w5, hw5⟩ : ∃ w5, w5 = w4.setCell ⟨w.heap.size, 34, none⟩ (.int .u64 ((min e.a 4611686018427387904 : Nat) : Int)) := ⟨_, rfl⟩
  rw [← hw5] at e5 t5
  have E5 := Lib.hid e5
  have T5 := Lib.hid (T4.out.trans t5 (fun i hi h => absurd hi (by have h' : i = w.heap.size := h; omega)))
  have R5 := Lib.hid (t5.heap R4.out (by omega))
  change Code.wp _ _ _ _ (w4.setCell ⟨w.heap.size, 34, none⟩ (.int .u64 ((min e.a 4611686018427387904 : Nat) : Int)))
  rw [← hw5]
  clear hw5 e5 t5 E4 T4 R4 c0 c1 c2 c3 c4 z0
  obtain ⟨c0, c1, c2, c3, c4⟩ := E5.out.c HD.out
  have z0 := E5.out.f 35
  go_upto_region 5 with (go_at_call 104; refine (T.out _ _ _ _).mono ?_; rintro r w9 ⟨rfl, hw9⟩; rw [hw9]; clear hw9 w9)
  obtain ⟨e6, t6⟩ := E5.out.set35 HD.out (min (max e.y 0) 63)
  obtain ⟨w6, hw6⟩ : ∃ w6, w6 = w5.setCell ⟨w.heap.size, 35, none⟩ (.int .i64 (min (max e.y 0) 63)) := ⟨_, rfl⟩
  rw [← hw6] at e6 t6
  have E6 := Lib.hid e6
  have T6 := Lib.hid (T5.out.trans t6 (fun i hi h => absurd hi (by have h' : i = w.heap.size := h; omega)))
  have R6 := Lib.hid (t6.heap R5.out (by omega))
  change Code.wp _ _ _ _ (w5.setCell ⟨w.heap.size, 35, none⟩ (.int .i64 (min (max e.y 0) 63)))
  rw [← hw6]
  clear hw6 e6 t6 E5 T5 R5 c0 c1 c2 c3 c4 z0
  obtain ⟨c0, c1, c2, c3, c4⟩ := E6.out.c HD.out
  have z0 := E6.out.f 36
  go_upto_region 6 with (go_at_call 104; refine (T.out _ _ _ _).mono ?_; rintro r w9 ⟨rfl, hw9⟩; rw [hw9]; clear hw9 w9)
  obtain ⟨e7, t7⟩ := E6.out.set36 HD.out (min (max e.p 0) 1099511627776)
  obtain ⟨w7, hw7⟩ : ∃ w7, w7 = w6.setCell ⟨w.heap.size, 36, none⟩ (.int .i64 (min (max e.p 0) 1099511627776)) := ⟨_, rfl⟩
  rw [← hw7] at e7 t7
  have E7 := Lib.hid e7
  have T7 := Lib.hid (T6.out.trans t7 (fun i hi h => absurd hi (by have h' : i = w.heap.size := h; omega)))
  have R7 := Lib.hid (t7.heap R6.out (by omega))
  change Code.wp _ _ _ _ (w6.setCell ⟨w.heap.size, 36, none⟩ (.int .i64 (min (max e.p 0) 1099511627776)))
  rw [← hw7]
  clear hw7 e7 t7 E6 T6 R6 c0 c1 c2 c3 c4 z0
  obtain ⟨c0, c1, c2, c3, c4⟩ := E7.out.c HD.out
  have z0 := E7.out.f 0
  have hrow := E7.out.row HD.out
  change rowOf w7 w.heap.size 0 37 = some (bnd e).cells.toArray at hrow
  obtain ⟨D, hDD⟩ : ∃ D, D = (bnd e).cells.toArray := ⟨_, rfl⟩
  rw [← hDD] at hrow
  have HDD := Lib.hid hDD
  have sD : D.size = 37 := by rw [hDD, List.size_toArray, Ent.len]; exact HD.out
  have K1 := Lib.hid (show (Tryz.prog.info? 27).map (·.size) = some D.size by rw [sD]; exact en_info)
  have K2 := Lib.hid (show Z37E.size = D.size by rw [sD]; rfl)
  have K3 := Lib.hid (show D.all (·.oneCell') = true by rw [hDD]; exact Ent.one _)
  clear hDD sD c0 c1 c2 c3 c4
  go_wp2_with (refine wpList_store_row rfl _ _ _ rfl (w.heap.size + 1) D rfl rfl 27 Z37E R7.out K1.out K2.out K3.out ?_)
  have h3 := setRow_heap w7 (w.heap.size + 1) Z37E D 27 (0, 0) R7.out
  refine bodyPost_ret (v := .agg D) ?_ rfl ⟨by rw [HDD.out], (T7.out.trans ((Turn.refl (fun i => i = w.heap.size + 1) _).setRow _ _ (fun _ => rfl)) (fun i hi h => by have h' : i = w.heap.size + 1 := h; omega))⟩
  exact results_cell_row Tryz.results86 _ _ (w.heap.size + 1) _ D (0, 0) _ rfl h3 Tryz.underlying27 rfl K1.out
def okB (e : Ent) : Prop := 1 ≤ e.k ∧ e.k ≤ 3 ∧ 0 ≤ e.s ∧ e.s ≤ 63 ∧ e.a ≤ 4611686018427387904 ∧ 0 ≤ e.y ∧ e.y ≤ 63 ∧ 0 ≤ e.p ∧ e.p ≤ 1099511627776
instance (e : Ent) : Decidable (okB e) := by unfold okB; infer_instance
theorem okB_bnd (e : Ent) : decide (e = bnd e) = decide (okB e) := by
  rw [decide_eq_decide]
  unfold okB bnd
  cases e
  simp only [Ent.mk.injEq, true_and]
  omega
set_option maxRecDepth 100000 in
set_option maxHeartbeats 4000000 in
theorem eright_any (e : Ent) (w : World) (hd : e.d.length = 32) : Calls Tryz.prog 58 #[.agg e.cells.toArray] w fun r w' => r = .returned (.bool (decide (okB e))) ∧ Turn (fun _ => False) w w' := by
  have T := Lib.hid (fun w => bounded_any e w hd)
  have Q := fun w => eql_in_ent e (bnd e) hd hd w
  rw [okB_bnd] at Q
  obtain ⟨C, hC⟩ : ∃ C, C = e.cells.toArray := ⟨_, rfl⟩
  obtain ⟨D, hD⟩ : ∃ D, D = (bnd e).cells.toArray := ⟨_, rfl⟩
  rw [← hC]
  rw [← hC, ← hD] at Q
  rw [← hC, ← hD] at T
  obtain ⟨ok, hok⟩ : ∃ ok, ok = decide (okB e) := ⟨_, rfl⟩
  rw [← hok] at Q ⊢
  obtain ⟨w2, hw2⟩ : ∃ w2, w2 = w.alloc (.cells C 27) := ⟨_, rfl⟩
  have t2 : Turn (fun _ => False) w w2 := by rw [hw2]; exact (Turn.refl _ _).alloc _
  have e2 : EAt w2 w.heap.size e := by rw [hw2, hC]; exact heap_alloc_new _ _
  have r2 : rowOf w2 w.heap.size 0 37 = some C := by rw [hC]; exact e2.row hd
  have T2 := Lib.hid t2
  clear t2 e2 hD hC hd hok
  go_enter Tryz.func58, Tryz.ntmps58
  go_upto_region 1 with fail
  change Code.wp _ _ _ _ (w.alloc (.cells C 27))
  rw [← hw2]
  clear hw2
  go_region_with (go_at_call 86; refine (T.out _).mono ?_; rintro r w9 ⟨rfl, t9⟩; have r9 := rowOf_turn t9 (show rowOf _ w.heap.size 0 37 = some C from r2) (fun h => h); have T9 := Lib.hid t9; clear t9)
  all_goals
    go_wp2
    go_ret
    exact ⟨rfl, T2.out.trans ((Turn.refl _ _).drew.trans T9.out (fun _ _ h => h)) (fun _ _ h => h)⟩

end
section
set_option linter.unusedVariables false
set_option linter.unusedSimpArgs false

open Go.RowKit
attribute [local go_sem ↓] loadAt_en loadAt_id
attribute [local go_sem] run_enLoad run_idLoad rowOf_drew rowOf_drewN
set_option maxRecDepth 100000 in
set_option maxHeartbeats 4000000 in
theorem rright_any (e : Ent) (w : World) (hd : e.d.length = 32) : Calls Tryz.prog 33 #[.agg e.cells.toArray] w fun r w' => r = .returned (.bool (decide (okB e))) ∧ Turn (fun _ => False) w w' := by
  obtain ⟨C, hC⟩ : ∃ C, C = e.cells.toArray := ⟨_, rfl⟩
  rw [← hC]
  obtain ⟨w2, hw2⟩ : ∃ w2, w2 = w.alloc (.cells C 27) := ⟨_, rfl⟩
  have t2 : Turn (fun _ => False) w w2 := by rw [hw2]; exact (Turn.refl _ _).alloc _
  have e2 : EAt w2 w.heap.size e := by rw [hw2, hC]; exact heap_alloc_new _ _
  obtain ⟨c0, c1, c2, c3, c4⟩ := e2.c hd
  have T2 := Lib.hid t2
  clear t2 e2 hC hd
  go_enter Tryz.func33, Tryz.ntmps33
  go_upto_region 1 with fail
  change Code.wp _ _ _ _ (w.alloc (.cells C 27))
  rw [← hw2]
  clear hw2
  go_wp2
  all_goals
    go_ret
    refine ⟨?_, T2.out⟩
    clear c0 c1 c2 c3 c4
    first
      | (have hb : decide (okB e) = false := decide_eq_false (by unfold okB; omega)
         rw [hb]; rfl)
      | (have hb : decide (okB e) = decide (e.p ≤ 1099511627776) := by
           rw [decide_eq_decide]; unfold okB; omega
         rw [hb]; rfl)

end
section
set_option linter.unusedVariables false
set_option linter.unusedSimpArgs false

open Go.RowKit
/-- A block that no writing of the pen turns. -/
def PenFree (w : World) (p : Nat) (v : Value) (g : Nat) : Prop := g ≠ p ∧ v.ownBlock ≠ some g ∧ g < w.heap.size
set_option maxRecDepth 100000 in
theorem PenFree.step {w w' : World} {p g : Nat} {v v' : Value} (h : PenFree w p v g) (s : PenStep w w' p v v') : PenFree w' p v' g := by
  obtain ⟨h1, h2, h3⟩ := h
  refine ⟨h1, ?_, Nat.lt_of_lt_of_le h3 s.1.size⟩
  rcases s.2 with e | ⟨k, e, hk⟩
  · rw [e]; exact h2
  · rw [e]; intro x; injection x with x; omega
set_option maxRecDepth 100000 in
theorem PenFree.not {w : World} {p g : Nat} {v : Value} (h : PenFree w p v g) : ¬ (g = p ∨ some g = v.ownBlock) := fun x => x.elim h.1 (fun x => h.2.1 x.symm)
set_option maxRecDepth 100000 in
theorem PenStep.heap {w w' : World} {p g : Nat} {v v' : Value} {o : Obj} (s : PenStep w w' p v v') (h : PenFree w p v g) (hg : w.heap[g]? = some o) : w'.heap[g]? = some o := s.1.heap hg h.not
set_option maxRecDepth 100000 in
theorem PenAt.low {w : World} {p B i : Nat} {v : Value} {xs : List B8} (h : PenAt w p B v xs) (hi : i < p) : ¬ (i = p ∨ some i = v.ownBlock) := by
  rintro (e | e)
  · omega
  · have := (h.2.1.lt i e.symm).1
    have := h.2.2.1
    omega
set_option maxRecDepth 100000 in
theorem PenAt.new {w : World} {p B : Nat} {v : Value} {xs : List B8} (h : PenAt w p B v xs) (o : Obj) : PenAt (w.alloc o) p B v xs ∧ PenFree (w.alloc o) p v w.heap.size ∧ PenStep w (w.alloc o) p v v := by
  refine ⟨h.turn ((Turn.refl (fun _ => False) w).alloc o) (fun h => h) (fun _ _ h => h), ⟨?_, ?_, by simp⟩, (Turn.refl _ _).alloc _, .inl rfl⟩
  · have := lt_of_block h.1; omega
  · intro e
    have := (h.2.1.lt _ e).2
    omega
def formE (e : Ent) : List B8 := numB e.k.toNat ++ (numB e.s.toNat ++ (e.d ++ (numB e.a ++ (numB e.y.toNat ++ numB e.p.toNat))))
def fE (k s : Nat) (d : List B8) (a y p : Nat) : List B8 := numB k ++ (numB s ++ (d ++ (numB a ++ (numB y ++ numB p))))
def eN (k s : Nat) (d : List B8) (a y p : Nat) : Ent := ⟨(k : Int), (s : Int), d, a, (y : Int), (p : Int)⟩
theorem eN_of {e : Ent} (h : okB e) : ∃ k s y p : Nat, e = eN k s e.d e.a y p ∧ 1 ≤ k ∧ k ≤ 3 ∧ s ≤ 63 ∧ e.a ≤ 4611686018427387904 ∧ y ≤ 63 ∧ p ≤ 1099511627776 := by
  unfold okB at h
  refine ⟨e.k.toNat, e.s.toNat, e.y.toNat, e.p.toNat, ?_, by omega, by omega, by omega, by omega, by omega, by omega⟩
  cases e
  simp only [eN, Ent.mk.injEq, true_and]
  simp only at h
  omega
attribute [local go_sem ↓] loadAt_en loadAt_id
attribute [local go_sem] run_enLoad run_idLoad rowOf_drew rowOf_drewN
set_option maxRecDepth 100000 in
set_option maxHeartbeats 4000000 in
theorem put_yes (k s : Nat) (d : List B8) (a y p : Nat) (w : World) (hd : d.length = 32) (hk1 : 1 ≤ k) (hk : k ≤ 3) (hs : s ≤ 63) (ha : a ≤ 4611686018427387904) (hy : y ≤ 63) (hp : p ≤ 1099511627776) :
    Calls Tryz.prog 22 #[.agg (eN k s d a y p).cells.toArray] w fun r w' => ∃ u, r = .returned (.tuple #[u, .bool true]) ∧ w'.ownsRow w.heap.size 5 1 u (fE k s d a y p).length ((fE k s d a y p).map bv) ∧ Turn (fun _ => False) w w' := by
  have T := Lib.hid (fun w => eright_any (eN k s d a y p) w hd)
  have hb : decide (okB (eN k s d a y p)) = true := decide_eq_true (by unfold okB eN; simp only; omega)
  rw [hb] at T
  clear hb
  obtain ⟨C, hC⟩ : ∃ C, C = (eN k s d a y p).cells.toArray := ⟨_, rfl⟩
  rw [← hC] at T ⊢
  obtain ⟨b, hbb⟩ : ∃ b, b = w.heap.size := ⟨_, rfl⟩
  obtain ⟨w2, hw2⟩ : ∃ w2, w2 = w.alloc (.cells C 27) := ⟨_, rfl⟩
  have t2 : Turn (fun _ => False) w w2 := by rw [hw2]; exact (Turn.refl _ _).alloc _
  have e2 : EAt w2 w.heap.size (eN k s d a y p) := by rw [hw2, hC]; exact heap_alloc_new _ _
  have r2 : rowOf w2 w.heap.size 0 37 = some C := by rw [hC]; exact e2.row hd
  have hb2 : w.heap.size < w2.heap.size := e2.lt
  have CF := Lib.hid (show ∀ w' : World, EAt w' w.heap.size (eN k s d a y p) → (w'.cell? ⟨w.heap.size, 0, none⟩ = some (.int .i64 (k : Int)) ∧ w'.cell? ⟨w.heap.size, 1, none⟩ = some (.int .i64 (s : Int)) ∧ w'.cell? ⟨w.heap.size, 34, none⟩ = some (.int .u64 (a : Int)) ∧ w'.cell? ⟨w.heap.size, 35, none⟩ = some (.int .i64 (y : Int)) ∧ w'.cell? ⟨w.heap.size, 36, none⟩ = some (.int .i64 (p : Int))) ∧ rowOf w' w.heap.size 2 32 = some (d.map bv).toArray from fun w' g => ⟨g.c hd, g.dig hd⟩)
  have n1 := numB_le (n := k) (by omega)
  have n2 := numB_le (n := s) (by omega)
  have n3 := numB_le (n := a) (by omega)
  have n4 := numB_le (n := y) (by omega)
  have n5 := numB_le (n := p) (by omega)
  have HD := Lib.hid hd
  have HF := Lib.hid (show fE k s d a y p = numB k ++ (numB s ++ (d ++ (numB a ++ (numB y ++ numB p)))) from rfl)
  generalize eN k s d a y p = e at *
  generalize fE k s d a y p = F at *
  obtain ⟨D, hDD⟩ : ∃ D, D = (d.map bv).toArray := ⟨_, rfl⟩
  rw [← hDD] at CF
  have HDD := Lib.hid hDD
  have T2 := Lib.hid t2
  have E2 := Lib.hid e2
  clear t2 e2 hC hd hDD hbb b
  go_enter Tryz.func22, Tryz.ntmps22
  go_upto_region 1 with fail
  change Code.wp _ _ _ _ (w.alloc (.cells C 27))
  rw [← hw2]
  clear hw2
  go_upto_region 4 with (go_at_call 58; refine (T.out _).mono ?_; rintro r w1 ⟨rfl, t1⟩; have HT1 := Lib.hid t1; clear t1 r2)
  obtain ⟨w3, hw3⟩ : ∃ w3, w3 = w1.alloc (.cells #[.slice none 0 0] 65) := ⟨_, rfl⟩
  have hws : w.heap.size < w1.heap.size := by have := HT1.out.size; omega
  have hp3 : PenAt w3 w1.heap.size (w1.heap.size + 1) (.slice none 0 0) [] := by rw [hw3]; exact ⟨heap_alloc_new _ _, World.ownsRow_nil _ _ _ _, by omega, by simp⟩
  have hf3 : PenFree w3 w1.heap.size (.slice none 0 0) w.heap.size := ⟨by omega, by (intro e; cases e), by rw [hw3]; simp; omega⟩
  have ht3 : Turn (fun _ => False) w w3 := by rw [hw3]; exact (T2.out.trans HT1.out (fun _ _ h => h)).alloc _
  have E3 := Lib.hid (show EAt w3 w.heap.size e by rw [hw3]; exact (E2.out.turn HT1.out (fun h => h)).turn ((Turn.refl (fun _ => False) _).alloc _) (fun h => h))
  change Code.wp _ _ _ _ (w1.alloc (.cells #[.slice none 0 0] 65))
  rw [← hw3]
  have hwp : w.heap.size < w1.heap.size := hws
  have HT3 := Lib.hid ht3
  have HF3 := Lib.hid hf3
  have HPS3 := Lib.hid (PenStep.refl w3 w1.heap.size (.slice none 0 0))
  have HP3 := Lib.hid hp3
  generalize w1.heap.size = q at *
  clear hw3 hp3 hf3 ht3 hws E2 T2 HT1 w2 hb2 w1 T
  obtain ⟨⟨c0, c1, c2, c3, c4⟩, cd⟩ := CF.out w3 E3.out
  have TF := Lib.hid (pnum_any q _ _ _ k w3 HP3.out (by omega) (by have := HD.out; simp only [List.length_append, List.length_nil]; omega))
  go_wp2_with fail
  refine TF.out.mono ?_
  rintro r w4 ⟨rfl, v4, hp4, st4⟩
  have E4 := Lib.hid (show EAt w4 w.heap.size e from st4.heap HF3.out E3.out)
  have HF4 := Lib.hid (HF3.out.step st4)
  have HPS4 := Lib.hid (HPS3.out.trans st4)
  have HP4 := Lib.hid hp4
  clear hp4 st4 TF c0 c1 c2 c3 c4 cd E3 HF3 HPS3 HP3
  obtain ⟨⟨c0, c1, c2, c3, c4⟩, cd⟩ := CF.out w4 E4.out
  have TF := Lib.hid (pnum_any q _ _ _ s w4 HP4.out (by omega) (by have := HD.out; simp only [List.length_append, List.length_nil]; omega))
  go_wp2_with fail
  refine TF.out.mono ?_
  rintro r w5 ⟨rfl, v5, hp5, st5⟩
  have E5 := Lib.hid (show EAt w5 w.heap.size e from st5.heap HF4.out E4.out)
  have HF5 := Lib.hid (HF4.out.step st5)
  have HPS5 := Lib.hid (HPS4.out.trans st5)
  have HP5 := Lib.hid hp5
  clear hp5 st5 TF c0 c1 c2 c3 c4 cd E4 HF4 HPS4 HP4
  obtain ⟨⟨c0, c1, c2, c3, c4⟩, cd⟩ := CF.out w5 E5.out
  have TF := Lib.hid (pid_any q _ _ _ d w5 HP5.out HD.out (by simp only [List.length_append, List.length_nil]; omega))
  rw [← HDD.out] at TF
  go_wp2_with fail
  refine TF.out.mono ?_
  rintro r w6 ⟨rfl, v6, hp6, st6⟩
  have E6 := Lib.hid (show EAt w6 w.heap.size e from st6.heap HF5.out E5.out)
  have HF6 := Lib.hid (HF5.out.step st6)
  have HPS6 := Lib.hid (HPS5.out.trans st6)
  have HP6 := Lib.hid hp6
  clear hp6 st6 TF c0 c1 c2 c3 c4 cd E5 HF5 HPS5 HP5
  obtain ⟨⟨c0, c1, c2, c3, c4⟩, cd⟩ := CF.out w6 E6.out
  have TF := Lib.hid (pnum_any q _ _ _ a w6 HP6.out (by omega) (by have := HD.out; simp only [List.length_append, List.length_nil]; omega))
  go_wp2_with fail
  refine TF.out.mono ?_
  rintro r w7 ⟨rfl, v7, hp7, st7⟩
  have E7 := Lib.hid (show EAt w7 w.heap.size e from st7.heap HF6.out E6.out)
  have HF7 := Lib.hid (HF6.out.step st7)
  have HPS7 := Lib.hid (HPS6.out.trans st7)
  have HP7 := Lib.hid hp7
  clear hp7 st7 TF c0 c1 c2 c3 c4 cd E6 HF6 HPS6 HP6
  obtain ⟨⟨c0, c1, c2, c3, c4⟩, cd⟩ := CF.out w7 E7.out
  have TF := Lib.hid (pnum_any q _ _ _ y w7 HP7.out (by omega) (by have := HD.out; simp only [List.length_append, List.length_nil]; omega))
  go_wp2_with fail
  refine TF.out.mono ?_
  rintro r w8 ⟨rfl, v8, hp8, st8⟩
  have E8 := Lib.hid (show EAt w8 w.heap.size e from st8.heap HF7.out E7.out)
  have HF8 := Lib.hid (HF7.out.step st8)
  have HPS8 := Lib.hid (HPS7.out.trans st8)
  have HP8 := Lib.hid hp8
  clear hp8 st8 TF c0 c1 c2 c3 c4 cd E7 HF7 HPS7 HP7
  obtain ⟨⟨c0, c1, c2, c3, c4⟩, cd⟩ := CF.out w8 E8.out
  have TF := Lib.hid (pnum_any q _ _ _ p w8 HP8.out (by omega) (by have := HD.out; simp only [List.length_append, List.length_nil]; omega))
  go_wp2_with fail
  refine TF.out.mono ?_
  rintro r w9 ⟨rfl, v9, hp9, st9⟩
  have E9 := Lib.hid (show EAt w9 w.heap.size e from st9.heap HF8.out E8.out)
  have HF9 := Lib.hid (HF8.out.step st9)
  have HPS9 := Lib.hid (HPS8.out.trans st9)
  have HP9 := Lib.hid hp9
  clear hp9 st9 TF c0 c1 c2 c3 c4 cd E8 HF8 HPS8 HP8
  have TB := Lib.hid (pbytes_any q _ _ _ w9 HP9.out (by simp only [List.length_append, List.length_nil]; have := HD.out; omega))
  go_wp2_with fail
  refine TB.out.mono ?_
  rintro r w10 ⟨u, rfl, own10, t10⟩
  have HO10 := Lib.hid own10
  have HT10 := Lib.hid t10
  clear own10 t10 TB
  go_wp2
  go_ret2
  refine ⟨u, rfl, ?_, ?_⟩
  · rw [HF.out]
    have h := own_more HO10.out (base' := w.heap.size) (by have := HT3.out.size; have := HPS9.out.1.size; omega)
    simp only [List.append_assoc, List.nil_append] at h ⊢
    exact h
  · refine (HT3.out.trans HPS9.out.1 (fun i hi h => ?_)).trans HT10.out (fun _ _ h => h)
    rcases h with h | h
    · omega
    · cases h
set_option maxRecDepth 100000 in
set_option maxHeartbeats 4000000 in
theorem put_no (e : Ent) (w : World) (hd : e.d.length = 32) (ho : ¬ okB e) :
    Calls Tryz.prog 22 #[.agg e.cells.toArray] w fun r w' => r = .returned (.tuple #[.slice none 0 0, .bool false]) ∧ Turn (fun _ => False) w w' := by
  have T := Lib.hid (fun w => eright_any e w hd)
  have hb : decide (okB e) = false := decide_eq_false ho
  rw [hb] at T
  obtain ⟨C, hC⟩ : ∃ C, C = e.cells.toArray := ⟨_, rfl⟩
  rw [← hC] at T ⊢
  obtain ⟨w2, hw2⟩ : ∃ w2, w2 = w.alloc (.cells C 27) := ⟨_, rfl⟩
  have t2 : Turn (fun _ => False) w w2 := by rw [hw2]; exact (Turn.refl _ _).alloc _
  have e2 : EAt w2 w.heap.size e := by rw [hw2, hC]; exact heap_alloc_new _ _
  have r2 : rowOf w2 w.heap.size 0 37 = some C := by rw [hC]; exact e2.row hd
  have T2 := Lib.hid t2
  clear t2 e2 hC hd hb ho
  go_enter Tryz.func22, Tryz.ntmps22
  go_upto_region 1 with fail
  change Code.wp _ _ _ _ (w.alloc (.cells C 27))
  rw [← hw2]
  clear hw2
  go_wp2_with (go_at_call 58; refine (T.out _).mono ?_; rintro r w1 ⟨rfl, t1⟩; have HT1 := Lib.hid t1; clear t1 r2)
  go_ret2
  exact ⟨rfl, T2.out.trans HT1.out (fun _ _ h => h)⟩
/-- What 'Put' answers: the form of a right one. -/
def pE (e : Ent) : List B8 := if okB e then formE e else []
theorem fE_eq (k s : Nat) (d : List B8) (a y p : Nat) : fE k s d a y p = formE (eN k s d a y p) := by
  unfold fE formE eN; simp
set_option maxRecDepth 100000 in
theorem put_any (e : Ent) (w : World) (hd : e.d.length = 32) :
    Calls Tryz.prog 22 #[.agg e.cells.toArray] w fun r w' => ∃ u, r = .returned (.tuple #[u, .bool (decide (okB e))]) ∧ w'.ownsRow w.heap.size 5 1 u (pE e).length ((pE e).map bv) ∧ Turn (fun _ => False) w w' := by
  by_cases h : okB e
  · obtain ⟨k, s, y, p, he, h1, h2, h3, h4, h5, h6⟩ := eN_of h
    have hp : pE e = fE k s e.d e.a y p := by rw [fE_eq, ← he]; unfold pE; rw [if_pos h]
    rw [hp, decide_eq_true h]
    have := put_yes k s e.d e.a y p w hd h1 h2 h3 h4 h5 h6
    rw [← he] at this
    exact this
  · refine (put_no e w hd h).mono ?_
    rintro r w' ⟨rfl, t⟩
    have hp : pE e = [] := by unfold pE; rw [if_neg h]
    rw [hp, decide_eq_false h]
    exact ⟨_, rfl, World.ownsRow_nil _ _ _ _, t⟩

end
section
set_option linter.unusedVariables false
set_option linter.unusedSimpArgs false

open Go.RowKit
set_option maxRecDepth 100000 in
set_option maxHeartbeats 1000000 in
theorem rnum_any (n : Nat) (w : World) (hn : n < 18446744073709551616) :
    Calls Tryz.prog 52 #[.int .u64 (n : Int)] w fun e w' => ∃ v, e = .returned v ∧ w'.ownsRow w.heap.size 5 1 v (numB n).length ((numB n).map bv) ∧ Turn (fun _ => False) w w' := by
  obtain ⟨i0, hi, hz0, hz1, hz2⟩ := info_parts info_u8
  have hk8 := klen_eight hn
  have HK8 := Lib.hid hk8
  go_enter Tryz.func52, Tryz.ntmps52
  go_wp2
  go_loop [3, 4] (fun k v => ∃ j q : Nat, k = .int .i64 j ∧ v = .int .u64 q ∧ j + klen q = klen n ∧ q < 18446744073709551616) (fun _ v => (intOf v).toNat)
  case atStart => exact ⟨0, n, rfl, rfl, by omega, hn⟩
  case round =>
    obtain ⟨j, q, rfl, rfl, hj, hq⟩ := hrel
    by_cases h0 : q = 0
    · subst h0
      rw [klen_zero] at hj
      obtain rfl : j = klen n := by omega
      obtain ⟨k, hkk⟩ : ∃ k, k = klen n := ⟨_, rfl⟩
      rw [← hkk] at hk8 ⊢
      have HN := Lib.hid (show numB n = BitVec.ofNat 8 k :: beN k n by rw [hkk]; rfl)
      clear hkk hj hq HK8
      have ho := own_new w w.heap.size 5 [bv (BitVec.ofNat 8 k)] 1 rfl (Nat.le_refl _) (by unfold maxLen; omega)
      have hkb : bv (BitVec.ofNat 8 k) = Value.int IntKind.u8 (k : Int) := by unfold bv; rw [BitVec.toNat_ofNat, Nat.mod_eq_of_lt (by omega)]
      rw [hkb] at ho
      have HO := Lib.hid ho
      have HT := Lib.hid ((Turn.refl (fun _ => False) w).alloc (.cells #[Value.int IntKind.u8 (k : Int)] 5))
      have HKB := Lib.hid hkb
      clear ho hkb
      go_wp2
      go_loopw [5, 6] (fun u i wr => ∃ (m : Nat) (z : Int) (W : List B8), i = .int .i64 z ∧ z ≤ (m : Int) - 1 ∧ (m : Int) - 1 ≤ z ∧ m ≤ k ∧ W ++ beN m n = numB n ∧ wr.ownsRow w.heap.size 5 1 u W.length (W.map bv) ∧ Turn (fun _ => False) w wr) (fun _ i _ => (intOf i + 1).toNat)
      case atStart => exact ⟨k, _, [BitVec.ofNat 8 k], rfl, by omega, by omega, Nat.le_refl _, by rw [HN.out]; rfl, by simp only [List.map_cons, List.map_nil, HKB.out]; exact HO.out, HT.out⟩
      case round =>
        clear HO HT
        obtain ⟨m, z, W, rfl, hz1', hz2', hmk, hW, hown, ht⟩ := hrel
        have hWl : W.length + m = 1 + k := by
          have := congrArg List.length hW
          rw [HN.out] at this
          simp [beN_len] at this; omega
        have HW := Lib.hid hW
        have HO := Lib.hid hown
        have HT := Lib.hid ht
        clear hW hown ht
        by_cases h0 : m = 0
        · subst h0
          obtain rfl : z = -1 := by omega
          have hW := HW.out
          rw [beN, List.append_nil] at hW
          subst hW
          go_wp2
          go_ret
          exact ⟨_, rfl, HO.out, HT.out⟩
        · obtain ⟨q, rfl⟩ : ∃ q, m = q + 1 := ⟨m - 1, by omega⟩
          obtain rfl : z = (q : Int) := by omega
          have hq8 : (8 * (q : Int)).toNat = 8 * q := by omega
          have hwr : IntKind.i64.wrap (8 * (q : Int)) = 8 * (q : Int) := IntWalk.i64_in _ (by omega)
          obtain ⟨y, hyy⟩ : ∃ y, y = BitVec.ofNat 8 (n / 256 ^ q) := ⟨_, rfl⟩
          have hy : IntKind.u8.wrap ((n : Int) / 2 ^ (8 * q)) = (y.toNat : Int) := by rw [hyy]; exact byte_int n q
          have HY := Lib.hid hyy
          clear hyy
          go_upto_region 10 with fail
          go_step
          iterate 21 go_step
          refine wpList_append_any_at (o := ⟨some 30, _, _, _, _, _⟩) rfl _ _ 22 rfl w.heap.size 5 i0 (.int .u8 0) 1 Tryz.underlying22 hi hz0 hz1 hz2 rfl u5 W.length _ rfl (HO.out.alloc _) (some ⟨wr.heap.size, 0, none⟩) 1 1 (([y] : List B8).map bv) rfl (fun h => by cases h) rfl ?_ (bv_one [y]) ?_ ?_ ?_ ?_
          · intro j u hu
            exact ⟨_, rfl, World.news_of_block (heap_alloc_new wr (.cells #[.int .u8 (y.toNat : Int)] 5)) j u hu⟩
          · unfold maxLen; omega
          · omega
          · have := HT.out.size; simp; omega
          intro v1 w1 own1 gr1 at1
          have HO1 := Lib.hid own1
          have HT1 := Lib.hid ((HT.out.alloc (.cells #[.int .u8 (y.toNat : Int)] 5)).grown gr1 (fun i hi e => by have := (HO.out.lt i e.symm).1; omega))
          clear own1 gr1 at1
          go_wp2
          go_roundw
          case rel => exact ⟨q, _, W ++ [y], rfl, by omega, by omega, by omega, by rw [← HW.out, HY.out, beN_cons]; simp, by rw [List.length_append, List.map_append]; exact HO1.out, HT1.out⟩
          case measure => simp [intOf]
    · have hd : klen q = klen (q / 256) + 1 := klen_pos h0
      have hp : (0 : Int) < (q : Int) := by omega
      have hj8 : j ≤ 8 := by omega
      have HD := Lib.hid (show (j + 1) + klen (q / 256) = klen n by omega)
      clear hd hj
      go_wp2
      go_round
      case rel => exact ⟨j + 1, q / 256, by go_num, by go_num, HD.out, by omega⟩
      case measure => simp [intOf]; omega
theorem cls_load_cell {P : Program} {C : World → Prop} {o : Oper} {a : Act} {K : Act → Prop} (ty : TypeId) (x : Operand) (ho : o.op = .load ty x) (ad : Addr) (hx : a.eval x = .pointer (some ad)) (v : Value) (hr : ∀ w, w.cell? ad = some v → (Instr.loadAt ty (.pointer (some ad))).run P w = .ok v w)
    (hS : ∀ w, C w → w.cell? ad = some v) (hK : K (a.put o.dst v)) : o.quiet P a C K :=
  ⟨_, fun w hw => by
    unfold Oper.quietAt execOp
    simp only [ho, hx, Sem.run_bind, hr w (hS w hw), Result.andThen_ok, Sem.run_pure, Oper.quietUpon, and_self], hK⟩
attribute [local go_sem ↓] loadAt_en loadAt_id
attribute [local go_sem] run_enLoad run_idLoad rowOf_drew rowOf_drewN
theorem turn_stp' {w w' : World} (t : Turn (fun _ => False) w w') : Below w.heap.size w w' := t.below (fun _ _ h => h.elim) (Nat.le_refl _)
set_option maxRecDepth 100000 in
set_option maxHeartbeats 8000000 in
theorem rput_any (k s : Nat) (d : List B8) (a y p : Nat) (w : World) (hd : d.length = 32) (hk : k ≤ 3) (hs : s ≤ 63) (ha : a ≤ 4611686018427387904) (hy : y ≤ 63) (hp : p ≤ 1099511627776) :
    Calls Tryz.prog 37 #[.agg (eN k s d a y p).cells.toArray] w fun r w' => ∃ u, r = .returned u ∧ w'.ownsRow w.heap.size 5 1 u (fE k s d a y p).length ((fE k s d a y p).map bv) ∧ Turn (fun _ => False) w w' := by
  obtain ⟨i0, hi, hz0, hz1, hz2⟩ := info_parts info_u8
  obtain ⟨C, hC⟩ : ∃ C, C = (eN k s d a y p).cells.toArray := ⟨_, rfl⟩
  rw [← hC]
  obtain ⟨w0, hw0⟩ : ∃ w0, w0 = w.alloc (.cells C 27) := ⟨_, rfl⟩
  have t0 : Turn (fun _ => False) w w0 := by rw [hw0]; exact (Turn.refl _ _).alloc _
  have e0 : EAt w0 w.heap.size (eN k s d a y p) := by rw [hw0, hC]; exact heap_alloc_new _ _
  have CF := Lib.hid (show ∀ w' : World, Turn (fun _ => False) w0 w' → (w'.cell? ⟨w.heap.size, 0, none⟩ = some (.int .i64 (k : Int)) ∧ w'.cell? ⟨w.heap.size, 1, none⟩ = some (.int .i64 (s : Int)) ∧ w'.cell? ⟨w.heap.size, 34, none⟩ = some (.int .u64 (a : Int)) ∧ w'.cell? ⟨w.heap.size, 35, none⟩ = some (.int .i64 (y : Int)) ∧ w'.cell? ⟨w.heap.size, 36, none⟩ = some (.int .i64 (p : Int))) ∧ rowOf w' w.heap.size 2 32 = some (d.map bv).toArray from fun w' t => have g := e0.turn t (fun h => h); ⟨g.c hd, g.dig hd⟩)
  have n1 := numB_le (n := k) (by omega)
  have n2 := numB_le (n := s) (by omega)
  have n3 := numB_le (n := a) (by omega)
  have n4 := numB_le (n := y) (by omega)
  have n5 := numB_le (n := p) (by omega)
  have NK := Lib.hid (fun w => rnum_any k w (by omega))
  have NS := Lib.hid (fun w => rnum_any s w (by omega))
  have NA := Lib.hid (fun w => rnum_any a w (by omega))
  have NY := Lib.hid (fun w => rnum_any y w (by omega))
  have NP := Lib.hid (fun w => rnum_any p w (by omega))
  have ND := Lib.hid (fun w => rbytesId_any d w hd)
  have HD := Lib.hid hd
  have HF := Lib.hid (show fE k s d a y p = numB k ++ (numB s ++ (d ++ (numB a ++ (numB y ++ numB p)))) from rfl)
  have hbs : w.heap.size < w0.heap.size := e0.lt
  generalize fE k s d a y p = F at *
  obtain ⟨D, hDD⟩ : ∃ D, D = (d.map bv).toArray := ⟨_, rfl⟩
  rw [← hDD] at CF ND
  have T0 := Lib.hid t0
  have HWS := Lib.hid (fun (w' : World) (k : Stp w0.drew w') => show Turn (fun _ => False) w0 w' from Turn.of_below (stp_start k (Below.refl _ _)))
  clear t0 e0 hC hd hDD
  go_enter Tryz.func37, Tryz.ntmps37
  go_upto_region 1 with fail
  change Code.wp _ _ _ _ (w.alloc (.cells C 27))
  rw [← hw0]
  clear hw0
  refine wp_region_rel_tail 8 35 (by kernel_rfl) (by kernel_rfl) Stp [.one ?_, .one ?_, .one ?_, .rel (fun v w => w.ownsRow w0.heap.size 5 1 v (numB k).length ((numB k).map bv)), .one ?_, .one ?_, .one ?_, .rel (fun v w => w.ownsRow w0.heap.size 5 1 v (numB s).length ((numB s).map bv))] (by kernel_rfl) rfl (by kernel_rfl) Stp.refl Stp.trans ⟨fun v w w' h1 h2 => own_below h1 h2, fun v w w' h1 h2 => own_below h1 h2, trivial⟩ ?main
  case main =>
  simp only [List.take_succ_cons, List.take_zero, List.drop_succ_cons, List.drop_zero]
  iterate 1
    refine wpR_one (A' := ?_) Stp.refl (by rfl) _ rfl 35 (by rfl) (by rfl) ?_ ?_ ?_
    rotate_left 1
    · simp only [Act.put, List.setIfInBounds_toArray, List.set_cons_zero, List.set_cons_succ]; rfl
    · intro w1 hs hf K hK
      go_big_quiet_op
      first
        | go_big_quiet_on
        | (refine ⟨_, fun _ _ => rfl, ?_⟩; go_big_quiet_on)
      rfl
  refine wpR_one (A' := ?_) Stp.refl (by rfl) _ rfl 35 (by rfl) (by rfl) ?_ ?_ ?_
  rotate_left 1
  · simp only [Act.put, List.setIfInBounds_toArray, List.set_cons_zero, List.set_cons_succ]; rfl
  · intro w1 hs hf K hK
    refine cls_load_cell 3 (.tmp 4) rfl ⟨w.heap.size, 0, none⟩ rfl (.int .i64 (k : Int)) (fun w h => by simp [go_sem, h]) (fun w2 h2 => (CF.out w2 (HWS.out w2 (Stp.trans _ _ _ hs h2))).1.1) ?_
    refine hK _ ?_
    simp only [Act.put, List.setIfInBounds_toArray, List.set_cons_zero, List.set_cons_succ]
    rfl
  iterate 1
    refine wpR_one (A' := ?_) Stp.refl (by rfl) _ rfl 35 (by rfl) (by rfl) ?_ ?_ ?_
    rotate_left 1
    · simp only [Act.put, List.setIfInBounds_toArray, List.set_cons_zero, List.set_cons_succ]; rfl
    · intro w1 hs hf K hK
      go_big_quiet_op
      first
        | go_big_quiet_on
        | (refine ⟨_, fun _ _ => rfl, ?_⟩; go_big_quiet_on)
      rfl
  refine wpR_rel (A' := ?_) (by rfl) ?_ ?_ ?_
  · intro w1 hs hf
    have hz : w0.heap.size ≤ w1.heap.size := Below.size (w := w0.drew) hs
    refine does_call (w' := w1) (f := 52) (args := #[.int .u64 (k : Int)]) (by kernel_rfl) ((NK.out w1).mono ?_)
    rintro e w3 ⟨v, rfl, ho, h3⟩
    exact ⟨v, rfl, own_more ho hz, turn_stp' h3⟩
  rotate_left 1
  · intro x
    simp only [Act.put, List.setIfInBounds_toArray, List.set_cons_zero, List.set_cons_succ]; rfl
  intro x7
  iterate 1
    refine wpR_one (A' := ?_) Stp.refl (by rfl) _ rfl 35 (by rfl) (by rfl) ?_ ?_ ?_
    rotate_left 1
    · simp only [Act.put, List.setIfInBounds_toArray, List.set_cons_zero, List.set_cons_succ]; rfl
    · intro w1 hs hf K hK
      go_big_quiet_op
      first
        | go_big_quiet_on
        | (refine ⟨_, fun _ _ => rfl, ?_⟩; go_big_quiet_on)
      rfl
  refine wpR_one (A' := ?_) Stp.refl (by rfl) _ rfl 35 (by rfl) (by rfl) ?_ ?_ ?_
  rotate_left 1
  · simp only [Act.put, List.setIfInBounds_toArray, List.set_cons_zero, List.set_cons_succ]; rfl
  · intro w1 hs hf K hK
    refine cls_load_cell 3 (.tmp 8) rfl ⟨w.heap.size, 1, none⟩ rfl (.int .i64 (s : Int)) (fun w h => by simp [go_sem, h]) (fun w2 h2 => (CF.out w2 (HWS.out w2 (Stp.trans _ _ _ hs h2))).1.2.1) ?_
    refine hK _ ?_
    simp only [Act.put, List.setIfInBounds_toArray, List.set_cons_zero, List.set_cons_succ]
    rfl
  iterate 1
    refine wpR_one (A' := ?_) Stp.refl (by rfl) _ rfl 35 (by rfl) (by rfl) ?_ ?_ ?_
    rotate_left 1
    · simp only [Act.put, List.setIfInBounds_toArray, List.set_cons_zero, List.set_cons_succ]; rfl
    · intro w1 hs hf K hK
      go_big_quiet_op
      first
        | go_big_quiet_on
        | (refine ⟨_, fun _ _ => rfl, ?_⟩; go_big_quiet_on)
      rfl
  refine wpR_rel (A' := ?_) (by rfl) ?_ ?_ ?_
  · intro w1 hs hf
    have hz : w0.heap.size ≤ w1.heap.size := Below.size (w := w0.drew) hs
    refine does_call (w' := w1) (f := 52) (args := #[.int .u64 (s : Int)]) (by kernel_rfl) ((NS.out w1).mono ?_)
    rintro e w3 ⟨v, rfl, ho, h3⟩
    exact ⟨v, rfl, own_more ho hz, turn_stp' h3⟩
  rotate_left 1
  · intro x
    simp only [Act.put, List.setIfInBounds_toArray, List.set_cons_zero, List.set_cons_succ]; rfl
  intro x11
  intro w1 hs1 hf
  obtain ⟨h11, h7, -⟩ := hf
  obtain ⟨A11, c11, rfl, sl11, -, hc11, ha11⟩ := own_sl h11
  have HT1 := Lib.hid (HWS.out w1 hs1)
  have O7 := Lib.hid h7
  have S11 := Lib.hid sl11
  have AN11 := Lib.hid ha11
  clear h7 h11 sl11 hc11 ha11 hs1
  refine wpList_append_any_at (o := ⟨some 12, _, _, _, _, _⟩) rfl _ _ 22 rfl w0.heap.size 5 i0 (.int .u8 0) 1 Tryz.underlying22 hi hz0 hz1 hz2 rfl _ _ _ rfl O7.out A11 _ c11 ((numB s).map bv) rfl AN11.out (by rw [List.length_map]) (fun j u hu => (S11.out j u hu).elim fun ad h => ⟨ad, h.1, h.2.2⟩) (bv_one _) (by unfold maxLen; (try simp only [List.length_append]); have := HD.out; omega) (by (try simp only [List.length_append]); have := HD.out; omega) (HT1.out.size) ?_
  intro v2 w2 g1 g2 g3
  have HO2 := Lib.hid (show w2.ownsRow w0.heap.size 5 1 v2 (numB k ++ numB s).length ((numB k ++ numB s).map bv) by rw [List.length_append, List.map_append]; exact g1)
  have HT2 := Lib.hid (HT1.out.grown g2 (fun i hi e => by have := (O7.out.lt i e.symm).1; omega))
  clear g1 g2 g3
  obtain ⟨⟨c0, c1, c2, c3, c4⟩, cd⟩ := CF.out w2 HT2.out
  go_wp2_with fail
  refine (ND.out _).mono ?_
  rintro r w3 ⟨u3, rfl, om, tm⟩
  have tm := Turn.of_below tm
  obtain ⟨A3, cc3, rfl, sl3, -, hc3, ha3⟩ := own_sl om
  have O3 := Lib.hid (tm.own HO2.out (fun _ _ h => h))
  have S3 := Lib.hid sl3
  have AN3 := Lib.hid ha3
  have HT3 := Lib.hid (HT2.out.trans tm (fun _ _ h => h))
  clear om tm sl3 hc3 ha3 c0 c1 c2 c3 c4 cd HO2 HT2
  go_wp2_with (at_builtin; refine stop ?_)
  unfold Stop
  refine wpList_append_any_at (o := ⟨some 17, _, _, _, _, _⟩) rfl _ _ 22 rfl w0.heap.size 5 i0 (.int .u8 0) 1 Tryz.underlying22 hi hz0 hz1 hz2 rfl _ _ _ rfl O3.out A3 _ cc3 ((d).map bv) rfl AN3.out (by rw [List.length_map, HD.out]) (fun j u hu => (S3.out j u hu).elim fun ad h => ⟨ad, h.1, h.2.2⟩) (bv_one _) (by unfold maxLen; (try simp only [List.length_append]); have := HD.out; omega) (by (try simp only [List.length_append]); have := HD.out; omega) (HT3.out.size) ?_
  intro v4 w4 g1 g2 g3
  have HO4 := Lib.hid (show w4.ownsRow w0.heap.size 5 1 v4 ((numB k ++ numB s) ++ d).length (((numB k ++ numB s) ++ d).map bv) by rw [List.length_append, List.map_append, HD.out]; exact g1)
  have HT4 := Lib.hid (HT3.out.grown g2 (fun i hi e => by have := (O3.out.lt i e.symm).1; omega))
  clear g1 g2 g3
  obtain ⟨⟨c0, c1, c2, c3, c4⟩, cd⟩ := CF.out w4 HT4.out
  go_wp2_with fail
  refine (NA.out _).mono ?_
  rintro r w5 ⟨u5, rfl, om, tm⟩
  obtain ⟨A5, cc5, rfl, sl5, -, hc5, ha5⟩ := own_sl om
  have O5 := Lib.hid (tm.own HO4.out (fun _ _ h => h))
  have S5 := Lib.hid sl5
  have AN5 := Lib.hid ha5
  have HT5 := Lib.hid (HT4.out.trans tm (fun _ _ h => h))
  clear om tm sl5 hc5 ha5 c0 c1 c2 c3 c4 cd HO4 HT4
  go_wp2_with (at_builtin; refine stop ?_)
  unfold Stop
  refine wpList_append_any_at (o := ⟨some 22, _, _, _, _, _⟩) rfl _ _ 22 rfl w0.heap.size 5 i0 (.int .u8 0) 1 Tryz.underlying22 hi hz0 hz1 hz2 rfl _ _ _ rfl O5.out A5 _ cc5 ((numB a).map bv) rfl AN5.out (by rw [List.length_map]) (fun j u hu => (S5.out j u hu).elim fun ad h => ⟨ad, h.1, h.2.2⟩) (bv_one _) (by unfold maxLen; (try simp only [List.length_append]); have := HD.out; omega) (by (try simp only [List.length_append]); have := HD.out; omega) (HT5.out.size) ?_
  intro v6 w6 g1 g2 g3
  have HO6 := Lib.hid (show w6.ownsRow w0.heap.size 5 1 v6 (((numB k ++ numB s) ++ d) ++ numB a).length ((((numB k ++ numB s) ++ d) ++ numB a).map bv) by rw [List.length_append, List.map_append]; exact g1)
  have HT6 := Lib.hid (HT5.out.grown g2 (fun i hi e => by have := (O5.out.lt i e.symm).1; omega))
  clear g1 g2 g3
  obtain ⟨⟨c0, c1, c2, c3, c4⟩, cd⟩ := CF.out w6 HT6.out
  go_wp2_with fail
  refine (NY.out _).mono ?_
  rintro r w7 ⟨u7, rfl, om, tm⟩
  obtain ⟨A7, cc7, rfl, sl7, -, hc7, ha7⟩ := own_sl om
  have O7 := Lib.hid (tm.own HO6.out (fun _ _ h => h))
  have S7 := Lib.hid sl7
  have AN7 := Lib.hid ha7
  have HT7 := Lib.hid (HT6.out.trans tm (fun _ _ h => h))
  clear om tm sl7 hc7 ha7 c0 c1 c2 c3 c4 cd HO6 HT6
  go_wp2_with (at_builtin; refine stop ?_)
  unfold Stop
  refine wpList_append_any_at (o := ⟨some 28, _, _, _, _, _⟩) rfl _ _ 22 rfl w0.heap.size 5 i0 (.int .u8 0) 1 Tryz.underlying22 hi hz0 hz1 hz2 rfl _ _ _ rfl O7.out A7 _ cc7 ((numB y).map bv) rfl AN7.out (by rw [List.length_map]) (fun j u hu => (S7.out j u hu).elim fun ad h => ⟨ad, h.1, h.2.2⟩) (bv_one _) (by unfold maxLen; (try simp only [List.length_append]); have := HD.out; omega) (by (try simp only [List.length_append]); have := HD.out; omega) (HT7.out.size) ?_
  intro v8 w8 g1 g2 g3
  have HO8 := Lib.hid (show w8.ownsRow w0.heap.size 5 1 v8 ((((numB k ++ numB s) ++ d) ++ numB a) ++ numB y).length (((((numB k ++ numB s) ++ d) ++ numB a) ++ numB y).map bv) by rw [List.length_append, List.map_append]; exact g1)
  have HT8 := Lib.hid (HT7.out.grown g2 (fun i hi e => by have := (O7.out.lt i e.symm).1; omega))
  clear g1 g2 g3
  obtain ⟨⟨c0, c1, c2, c3, c4⟩, cd⟩ := CF.out w8 HT8.out
  go_wp2_with fail
  refine (NP.out _).mono ?_
  rintro r w9 ⟨u9, rfl, om, tm⟩
  obtain ⟨A9, cc9, rfl, sl9, -, hc9, ha9⟩ := own_sl om
  have O9 := Lib.hid (tm.own HO8.out (fun _ _ h => h))
  have S9 := Lib.hid sl9
  have AN9 := Lib.hid ha9
  have HT9 := Lib.hid (HT8.out.trans tm (fun _ _ h => h))
  clear om tm sl9 hc9 ha9 c0 c1 c2 c3 c4 cd HO8 HT8
  go_wp2_with (at_builtin; refine stop ?_)
  unfold Stop
  refine wpList_append_any_at (o := ⟨some 34, _, _, _, _, _⟩) rfl _ _ 22 rfl w0.heap.size 5 i0 (.int .u8 0) 1 Tryz.underlying22 hi hz0 hz1 hz2 rfl _ _ _ rfl O9.out A9 _ cc9 ((numB p).map bv) rfl AN9.out (by rw [List.length_map]) (fun j u hu => (S9.out j u hu).elim fun ad h => ⟨ad, h.1, h.2.2⟩) (bv_one _) (by unfold maxLen; (try simp only [List.length_append]); have := HD.out; omega) (by (try simp only [List.length_append]); have := HD.out; omega) (HT9.out.size) ?_
  intro v10 w10 g1 g2 g3
  have HO10 := Lib.hid (show w10.ownsRow w0.heap.size 5 1 v10 (((((numB k ++ numB s) ++ d) ++ numB a) ++ numB y) ++ numB p).length ((((((numB k ++ numB s) ++ d) ++ numB a) ++ numB y) ++ numB p).map bv) by rw [List.length_append, List.map_append]; exact g1)
  have HT10 := Lib.hid (HT9.out.grown g2 (fun i hi e => by have := (O9.out.lt i e.symm).1; omega))
  clear g1 g2 g3
  go_wp2
  go_ret
  refine ⟨_, rfl, ?_, T0.out.trans HT10.out (fun _ _ h => h)⟩
  rw [HF.out]
  have h := own_more HO10.out (base' := w.heap.size) (by omega)
  simp only [List.append_assoc] at h ⊢
  exact h

end
end
end Go.Proofs.YthoaaieiiokcmaaGreatDoor
