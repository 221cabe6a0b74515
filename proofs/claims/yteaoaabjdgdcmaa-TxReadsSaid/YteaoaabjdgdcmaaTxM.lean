/- The contract of 'Size', and of the document's example. -/
import Derived.Test.YteaoaabjdgdcmaaTxL
set_option linter.unusedVariables false
set_option linter.unusedSimpArgs false
namespace Go.Proofs.Yteaoaabjdgdcmaa
open Go.RowKit
set_option maxRecDepth 100000 in
theorem size_any (Ai Ao : Option Addr) (ci co B : Nat) (t : Ptx) (w : World) (h : TxAt w B Ai ci Ao co t) (hBw : B ≤ w.heap.size) :
    Calls Try.prog 9 #[txV Ai ci Ao co t] w fun e w' => e = .returned (.int .i64 ((putF t).length : Int)) ∧ Turn (fun _ => False) w w' := by
  obtain ⟨w0, hw0⟩ : ∃ w0, w0 = w.alloc (.cells #[.slice Ai t.ins.length ci, .slice Ao t.outs.length co, .int .u64 (t.fee : Int), .int .i64 t.exp] 28) := ⟨_, rfl⟩
  have hT0 : Turn (fun _ => False) w w0 := by rw [hw0]; exact (Turn.refl _ _).alloc _
  have hg0 : w0.heap[w.heap.size]? = some (.cells #[.slice Ai t.ins.length ci, .slice Ao t.outs.length co, .int .u64 (t.fee : Int), .int .i64 t.exp] 28 (0, 0)) := by rw [hw0]; exact heap_alloc_new _ _
  have c0 : w0.cell? ⟨w.heap.size, 0, none⟩ = some (.slice Ai t.ins.length ci) := by rw [cell_of_row _ _ _ _ _ _ hg0]; rfl
  have c1 : w0.cell? ⟨w.heap.size, 1, none⟩ = some (.slice Ao t.outs.length co) := by rw [cell_of_row _ _ _ _ _ _ hg0]; rfl
  have c2 : w0.cell? ⟨w.heap.size, 2, none⟩ = some (.int .u64 (t.fee : Int)) := by rw [cell_of_row _ _ _ _ _ _ hg0]; rfl
  have c3 : w0.cell? ⟨w.heap.size, 3, none⟩ = some (.int .i64 t.exp) := by rw [cell_of_row _ _ _ _ _ _ hg0]; rfl
  have HP := Lib.hid (put_any Ai Ao ci co B t w0 (h.turn hT0 (fun _ _ h => h)) (Nat.le_trans hBw hT0.size))
  have HT0 := Lib.hid hT0
  unfold txV at HP ⊢
  clear h hT0 hg0 hBw
  go_enter Try.func9, Try.ntmps9
  go_upto_region 1 with fail
  change Code.wp _ _ _ _ (w.alloc (.cells #[.slice Ai t.ins.length ci, .slice Ao t.outs.length co, .int .u64 (t.fee : Int), .int .i64 t.exp] 28))
  rw [← hw0]
  clear hw0
  go_wp2_with fail
  refine HP.out.mono ?_
  rintro r w1 ⟨u, rfl, own1, t1⟩
  obtain ⟨A1, k1, rfl, -⟩ := own_sl own1
  have HT1 := Lib.hid t1
  generalize chk t = z at *
  clear own1 t1 HP c0 c1 c2 c3
  go_wp2
  go_ret
  exact ⟨rfl, HT0.out.trans HT1.out (fun _ _ h => h)⟩
def exT : Ptx := ⟨[⟨zeros 32, 0, 5, []⟩], [⟨zeros 32, 4⟩], 1, 0⟩
def exZ : Ptx := ⟨[], [], 0, 0⟩
set_option maxRecDepth 100000 in
theorem ex_chk : chk exT = 0 := by decide +kernel
set_option maxRecDepth 100000 in
theorem exZ_chk : chk exZ = 4 := by decide +kernel
set_option maxRecDepth 100000 in
theorem numB_zero : numB 0 = [0] := by simp [numB, klen_zero, beN]
set_option maxRecDepth 100000 in
theorem numB_one : numB 1 = [1, 1] := numB_valB [1] (by rintro x r ⟨⟩; decide) (by decide)
set_option maxRecDepth 100000 in
theorem numB_four : numB 4 = [1, 4] := numB_valB [4] (by rintro x r ⟨⟩; decide) (by decide)
set_option maxRecDepth 100000 in
theorem numB_five : numB 5 = [1, 5] := numB_valB [5] (by rintro x r ⟨⟩; decide) (by decide)
set_option maxRecDepth 100000 in
theorem ex_len : (putF exT).length = 77 := by
  unfold putF
  rw [if_pos ex_chk]
  simp [formB, insF, inF, outsF, outF, exT, numB_zero, numB_one, numB_four, numB_five, zeros]
set_option maxRecDepth 100000 in
theorem wpList_val {P : Program} {ops : Array Oper} {rest : List Oper} {o : Oper} {a : Act} {w : World} {Q : Exit → Act → World → Prop} (hgd : o.guard = none) (v : Value) (w' : World) (hr : (execOp a.eval o).run P w = .ok (.value v) w')
    (h : wpList P ops Q rest (a.put o.dst v) w') : wpList P ops Q (o :: rest) a w := by
  refine wpList_plain hgd fun K hK => ?_
  unfold Oper.wp
  rw [hr]
  exact hK _ _ h
def EIn : Array Value := (Pin.cells ⟨zeros 32, 0, 5, []⟩ none 0).toArray
def EOut : Array Value := (Pout.cells ⟨zeros 32, 4⟩).toArray
set_option maxRecDepth 100000 in
theorem awake_any (w : World) : Calls Try.prog 4 #[] w fun e w' => e = .returned (.bool true) ∧ Turn (fun _ => False) w w' := by
  obtain ⟨w1, hw1⟩ : ∃ w1, w1 = (w.alloc (.cells EIn 41)) := ⟨_, rfl⟩
  obtain ⟨w2, hw2⟩ : ∃ w2, w2 = (w1.alloc (.cells EOut 43)) := ⟨_, rfl⟩
  have s1 : w1.heap.size = w.heap.size + 1 := by rw [hw1]; simp
  have s2 : w2.heap.size = w.heap.size + 2 := by rw [hw2]; simp; omega
  have g1 : w2.heap[w.heap.size]? = some (.cells EIn 41 (0, 0)) := by rw [hw2]; exact ((Turn.refl (fun _ => False) w1).alloc _).heap (by rw [hw1]; exact heap_alloc_new _ _) (fun h => h)
  have g2 : w2.heap[w1.heap.size]? = some (.cells EOut 43 (0, 0)) := by rw [hw2]; exact heap_alloc_new _ _
  have z32 : ∀ x, (zeros x).length = x := fun x => by simp [zeros]
  have hx : TxAt w2 w2.heap.size (some ⟨w.heap.size, 0, none⟩) 1 (some ⟨w1.heap.size, 0, none⟩) 1 exT := by
    refine ⟨?_, (fun h => by cases h), by simp [exT], by simp [exT, maxLen], ?_, (fun h => by cases h), by simp [exT], by simp [exT, maxLen], by simp [exT], by simp [exT], by simp [exT]⟩
    · intro i p hp
      obtain rfl : i = 0 := by have := (List.getElem?_eq_some_iff.1 hp).1; simp [exT] at this; omega
      simp [exT] at hp
      subst hp
      refine ⟨⟨by simp [z32], by simp, by simp, by simp, by simp [maxLen]⟩, w.heap.size, 0, none, 0, rfl, by omega, ⟨Sl.none _ _ _, fun _ => rfl, by simp⟩, fun j v hj => ?_⟩
      rw [cell_of_row _ _ _ _ _ _ g1]
      unfold EIn
      rw [List.getElem?_toArray]; simpa using hj
    · intro i p hp
      obtain rfl : i = 0 := by have := (List.getElem?_eq_some_iff.1 hp).1; simp [exT] at this; omega
      simp [exT] at hp
      subst hp
      refine ⟨⟨by simp [z32], by simp⟩, w1.heap.size, 0, rfl, by omega, fun j v hj => ?_⟩
      rw [cell_of_row _ _ _ _ _ _ g2]
      unfold EOut
      rw [List.getElem?_toArray]; simpa using hj
  have hxz : ∀ w, TxAt w 0 none 0 none 0 exZ := fun w => ⟨fun i p hp => by simp [exZ] at hp, fun _ => rfl, by simp [exZ], by simp [exZ], fun i p hp => by simp [exZ] at hp, fun _ => rfl, by simp [exZ], by simp [exZ], by simp [exZ], by simp [exZ], by simp [exZ]⟩
  have C1 := Lib.hid (fun w' (k : Turn (fun _ => False) w2 w') => check_any _ _ _ _ _ _ w' (hx.turn k (fun _ _ h => h)))
  have C2 := Lib.hid (fun w' => check_any _ _ _ _ _ _ w' (hxz w'))
  have C3 := Lib.hid (fun w' (k : Turn (fun _ => False) w2 w') => size_any _ _ _ _ _ _ w' (hx.turn k (fun _ _ h => h)) k.size)
  rw [ex_chk] at C1
  rw [exZ_chk] at C2
  rw [ex_len] at C3
  have T2 := Lib.hid (show Turn (fun _ => False) w w2 by rw [hw2, hw1]; exact ((Turn.refl _ _).alloc _).alloc _)
  have HW1 := Lib.hid hw1
  have HW2 := Lib.hid hw2
  clear hx hxz g1 g2 s1 s2 z32 hw1 hw2
  go_enter Try.func4, Try.ntmps4
  go_upto_region 1 with fail
  go_step
  refine wpList_val rfl (.agg EIn) w (by kernel_rfl) ?_
  refine wpList_val rfl (.slice (some ⟨w.heap.size, 0, none⟩) 1 1) (w.alloc (.cells EIn 41)) (by kernel_rfl) ?_
  rw [← HW1.out]
  refine wpList_val rfl (.agg EOut) w1 (by kernel_rfl) ?_
  refine wpList_val rfl (.slice (some ⟨w1.heap.size, 0, none⟩) 1 1) (w1.alloc (.cells EOut 43)) (by kernel_rfl) ?_
  rw [← HW2.out]
  refine wpList_val rfl (.agg #[.slice (some ⟨w.heap.size, 0, none⟩) 1 1, .slice (some ⟨w1.heap.size, 0, none⟩) 1 1, .int .u64 1, .int .i64 0]) w2 (by kernel_rfl) ?_
  go_wp2_with fail
  obtain ⟨TC, hTC⟩ : ∃ TC, TC = #[Value.slice (some ⟨w.heap.size, 0, none⟩) 1 1, .slice (some ⟨w1.heap.size, 0, none⟩) 1 1, .int .u64 1, .int .i64 0] := ⟨_, rfl⟩
  have ht3 : Turn (fun _ => False) w2 (w2.alloc (.cells TC 28)) := (Turn.refl _ _).alloc _
  have hg3 := heap_alloc_new w2 (.cells TC 28)
  rw [hTC] at ht3 hg3
  have CF := Lib.hid (fun (w' : World) (g : w'.heap[w2.heap.size]? = some (.cells #[Value.slice (some ⟨w.heap.size, 0, none⟩) 1 1, .slice (some ⟨w1.heap.size, 0, none⟩) 1 1, .int .u64 1, .int .i64 0] 28 (0, 0))) =>
    show w'.cell? ⟨w2.heap.size, 0, none⟩ = some (.slice (some ⟨w.heap.size, 0, none⟩) 1 1) ∧ w'.cell? ⟨w2.heap.size, 1, none⟩ = some (.slice (some ⟨w1.heap.size, 0, none⟩) 1 1) ∧ w'.cell? ⟨w2.heap.size, 2, none⟩ = some (.int .u64 1) ∧ w'.cell? ⟨w2.heap.size, 3, none⟩ = some (.int .i64 0) from by
      refine ⟨?_, ?_, ?_, ?_⟩ <;> rw [cell_of_row _ _ _ _ _ _ g] <;> rfl)
  have HT3 := Lib.hid ht3
  have HG3 := Lib.hid hg3
  clear ht3 hg3 hTC
  refine (C1.out _ HT3.out).mono ?_
  rintro r w4 ⟨rfl, t4⟩
  have hg4 := t4.heap HG3.out (fun h => h)
  obtain ⟨c0, c1, c2, c3⟩ := CF.out _ hg4
  have HG4 := Lib.hid hg4
  have HT4 := Lib.hid (HT3.out.trans t4 (fun _ _ h => h))
  clear hg4 t4
  go_wp2_with fail
  refine (C2.out _).mono ?_
  rintro r w5 ⟨rfl, t5⟩
  have hg5 := t5.heap HG4.out (fun h => h)
  clear c0 c1 c2 c3
  obtain ⟨c0, c1, c2, c3⟩ := CF.out _ hg5
  have HT5 := Lib.hid (HT4.out.trans t5 (fun _ _ h => h))
  clear hg5 t5
  go_wp2_with fail
  refine (C3.out _ HT5.out).mono ?_
  rintro r w6 ⟨rfl, t6⟩
  have HT6 := Lib.hid (HT5.out.trans t6 (fun _ _ h => h))
  clear t6
  go_wp2
  go_ret
  exact ⟨rfl, T2.out.trans HT6.out (fun _ _ h => h)⟩
end Go.Proofs.Yteaoaabjdgdcmaa
