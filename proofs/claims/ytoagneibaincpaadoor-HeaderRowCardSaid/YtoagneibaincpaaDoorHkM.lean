/- What may turn while a row's last block is reckoned; the document's leaves, with where they lie. -/
import Derived.Test.YtoagneibaincpaaDoorHkH
import Derived.Test.YtoagneibaincpaaDoorLnk
set_option linter.unusedVariables false
set_option linter.unusedSimpArgs false
namespace Go.Proofs.YtoagneibaincpaaDoor
open Go.RowKit
/-- Below B nothing turns; a block of zeros may come to hold F. -/
structure Hst (B : Nat) (F : Array Value) (w w' : World) : Prop where
  b : Below B w w'
  n : ∀ (g : Nat) (o : Obj), w.heap[g]? = some o → w'.heap[g]? = some o ∨ (o = Obj.cells Z67H 25 (0, 0) ∧ w'.heap[g]? = some (Obj.cells F 25 (0, 0)))
theorem Hst.refl (B : Nat) (F : Array Value) (w : World) : Hst B F w w := ⟨Below.refl _ _, fun g o h => .inl h⟩
theorem Hst.trans {B : Nat} {F : Array Value} (a b c : World) (h : Hst B F a b) (k : Hst B F b c) : Hst B F a c := ⟨h.b.trans k.b, fun g o hg => by
  rcases h.n g o hg with h1 | ⟨e, h1⟩
  · exact k.n g o h1
  · rcases k.n g _ h1 with k1 | ⟨e', k1⟩
    · exact .inr ⟨e, k1⟩
    · exact .inr ⟨e, k1⟩⟩
theorem Hst.of {B : Nat} {F : Array Value} {w w' : World} (h : Below w.heap.size w w') (hB : B ≤ w.heap.size) : Hst B F w w' := ⟨h.mono hB, fun g o hg => .inl (heap_below h hg)⟩
theorem Hst.step {B : Nat} {F : Array Value} {w0 w1 w4 w3 : World} (hB : B ≤ w0.heap.size) (hs : Hst B F w0 w1) (h2 : Hst B F w1 w4) (h3 : Below w4.heap.size w4 w3) : Hst B F w1 w3 := Hst.trans _ _ _ h2 (Hst.of h3 (Nat.le_trans hB (Nat.le_trans hs.b.size h2.b.size)))
/-- The address of a block of zeros, or of F. -/
def PtrH (B : Nat) (F : Array Value) (v : Value) (w : World) : Prop := ∃ g, B ≤ g ∧ v = .pointer (some ⟨g, 0, none⟩) ∧ (w.heap[g]? = some (.cells Z67H 25 (0, 0)) ∨ w.heap[g]? = some (.cells F 25 (0, 0)))
theorem PtrH.stable {B : Nat} {F : Array Value} (v : Value) (w w' : World) (h : PtrH B F v w) (hs : Hst B F w w') : PtrH B F v w' := by
  obtain ⟨g, hB, e, h | h⟩ := h
  · rcases hs.n g _ h with h1 | ⟨-, h1⟩
    · exact ⟨g, hB, e, .inl h1⟩
    · exact ⟨g, hB, e, .inr h1⟩
  · rcases hs.n g _ h with h1 | ⟨-, h1⟩
    · exact ⟨g, hB, e, .inr h1⟩
    · exact ⟨g, hB, e, .inr h1⟩
/-- The address of a block of F. -/
def LkH (B : Nat) (F : Array Value) (v : Value) (w : World) : Prop := ∃ g, B ≤ g ∧ v = .pointer (some ⟨g, 0, none⟩) ∧ w.heap[g]? = some (.cells F 25 (0, 0))
theorem LkH.stable {B : Nat} {F : Array Value} (v : Value) (w w' : World) (h : LkH B F v w) (hs : Hst B F w w') : LkH B F v w' := by
  obtain ⟨g, hB, e, h⟩ := h
  rcases hs.n g _ h with h1 | ⟨-, h1⟩
  · exact ⟨g, hB, e, h1⟩
  · exact ⟨g, hB, e, h1⟩
theorem does_ptrH {o : Oper} {a : Act} {w : World} {B : Nat} {F : Array Value} (d : Tmp) (hd : o.dst = some d) (hB : B ≤ w.heap.size) (hr : ∀ w, (execOp a.eval o).run Tryd.prog w = .ok (.value (.pointer (some ⟨w.heap.size, 0, none⟩))) (w.alloc (.cells Z67H 25))) :
    doesR Tryd.prog o a w (fun u w' => PtrH B F (retV o u) w' ∧ Hst B F w w') := by
  refine does_run (hr w) ⟨?_, Hst.of ((Below.refl _ _).alloc (Nat.le_refl _) _) hB⟩
  have e : ∀ u, retV o u = u := fun u => by unfold retV; rw [hd]
  rw [e]
  exact ⟨_, hB, rfl, .inl (heap_alloc_new _ _)⟩
set_option maxRecDepth 100000 in
theorem does_storeH {o : Oper} {a : Act} {w : World} {B g : Nat} {F : Array Value} {R : Value → World → Prop} (x y : Operand) (ho : o.op = .store 25 x y) (hx : a.eval x = .pointer (some ⟨g, 0, none⟩)) (hy : a.eval y = .agg F)
    (hF : (Tryd.prog.info? 25).map (·.size) = some F.size ∧ Z67H.size = F.size ∧ F.all (·.oneCell') = true) (hg : w.heap[g]? = some (.cells Z67H 25 (0, 0)) ∨ w.heap[g]? = some (.cells F 25 (0, 0))) (hB : B ≤ g) (hR : ∀ u w', Hst B F w w' → w'.heap[g]? = some (Obj.cells F 25 (0, 0)) → R u w') :
    doesR Tryd.prog o a w R := by
  obtain ⟨old, hold, hs, ho2⟩ : ∃ old, w.heap[g]? = some (.cells old 25 (0, 0)) ∧ old.size = F.size ∧ (old = Z67H ∨ old = F) := by
    rcases hg with h | h
    · exact ⟨_, h, hF.2.1, .inl rfl⟩
    · exact ⟨_, h, rfl, .inr rfl⟩
  have hlt := lt_of_block hold
  have t : Turn (fun i => i = g) w (w.setRow g F) := (Turn.refl _ _).setRow _ _ (fun _ => rfl)
  have hn := setRow_heap w g old F 25 (0, 0) hold
  unfold doesR execOp
  simp only [ho, hx, hy, Instr.storeAt, Instr.sureAddr, Sem.run_bind, Sem.run_pure, Result.andThen_ok, run_storeVar_row w g _ 25 old F hold hF.1 hs hF.2.2]
  refine hR _ _ ⟨t.below (fun i hi h => by have h' : i = g := h; omega) (by omega), fun g' o' hg' => ?_⟩ hn
  by_cases e : g' = g
  · subst e
    rw [hold] at hg'
    injection hg' with hg'
    rcases ho2 with e2 | e2
    · exact .inr ⟨by rw [← hg', e2], hn⟩
    · exact .inl (by rw [hn, ← hg', e2])
  · exact .inl (t.heap hg' e)
/-- Three leaves, and where they lie. -/
def LvH (B : Nat) (A : Option Addr) (n c : Nat) (F3 F4 : List B8) (v : Value) (w : World) : Prop := ∃ g A3 c3 A4 c4, v = .slice (some ⟨g, 0, none⟩) 3 3 ∧ w.heap[g]? = some (.cells #[.slice A n c, .slice A3 F3.length c3, .slice A4 F4.length c4] 26 (0, 0)) ∧ w.ownsRow B 5 1 (.slice A3 F3.length c3) F3.length (F3.map bv) ∧ w.ownsRow B 5 1 (.slice A4 F4.length c4) F4.length (F4.map bv)
theorem own_hst {B B' : Nat} {F : Array Value} {w w' : World} {v : Value} {n : Nat} {xs : List Value} (h : w.ownsRow B' 5 1 v n xs) (hs : Hst B F w w') : w'.ownsRow B' 5 1 v n xs := by
  obtain ⟨h1, h2⟩ := h
  refine ⟨h1, ?_⟩
  rcases h2 with h2 | ⟨g, cap, cur, e, hB, hg, r⟩
  · exact .inl h2
  · refine .inr ⟨g, cap, cur, e, hB, ?_, r⟩
    rcases hs.n g _ hg with h | ⟨h, -⟩
    · exact h
    · injection h with _ h _; exact absurd h (by decide)
theorem LvH.stable {B B' : Nat} {F : Array Value} {A : Option Addr} {n c : Nat} {F3 F4 : List B8} (v : Value) (w w' : World) (h : LvH B' A n c F3 F4 v w) (hs : Hst B F w w') : LvH B' A n c F3 F4 v w' := by
  obtain ⟨g, A3, c3, A4, c4, e, hg, o3, o4⟩ := h
  refine ⟨g, A3, c3, A4, c4, e, ?_, own_hst o3 hs, own_hst o4 hs⟩
  rcases hs.n g _ hg with h | ⟨h, -⟩
  · exact h
  · injection h with _ h _; exact absurd h (by decide)
theorem LvH.more {B B' : Nat} {A : Option Addr} {n c : Nat} {F3 F4 : List B8} {v : Value} {w : World} (h : LvH B' A n c F3 F4 v w) (hB : B ≤ B') : LvH B A n c F3 F4 v w := by
  obtain ⟨g, A3, c3, A4, c4, e, hg, o3, o4⟩ := h
  exact ⟨g, A3, c3, A4, c4, e, hg, own_more o3 hB, own_more o4 hB⟩
theorem LvH.lst {B : Nat} {A : Option Addr} {n c : Nat} {y F3 F4 : List B8} {v : Value} {w : World} (h : LvH B A n c F3 F4 v w) (hn : n = y.length) (hA : Bts w A y) (ha : A = none → c = 0) (hc : n ≤ c) : ∃ g, v = .slice (some ⟨g, 0, none⟩) 3 3 ∧ LstN w (some ⟨g, 0, none⟩) [y, F3, F4] := by
  obtain ⟨g, A3, c3, A4, c4, e, hg, o3, o4⟩ := h
  refine ⟨g, e, ?_⟩
  subst hn
  obtain ⟨A3', c3', e3, s3, -, l3, n3⟩ := own_sl o3
  obtain ⟨A4', c4', e4, s4, -, l4, n4⟩ := own_sl o4
  injection e3 with e3 _ e3'
  injection e4 with e4 _ e4'
  subst e3 e3' e4 e4'
  intro i xs hi
  match i, hi with
  | 0, hi =>
    obtain rfl : y = xs := by simpa using hi
    exact ⟨_, A, c, rfl, by rw [show (⟨g, 0, none⟩ : Addr).add 0 = ⟨g, 0, none⟩ from rfl, cell_of_row _ _ _ _ _ _ hg]; rfl, hc, ha, hA⟩
  | 1, hi =>
    obtain rfl : F3 = xs := by simpa using hi
    exact ⟨_, A3, c3, rfl, by rw [show (⟨g, 0, none⟩ : Addr).add 1 = ⟨g, 1, none⟩ from rfl, cell_of_row _ _ _ _ _ _ hg]; rfl, l3, n3, Bts.of_sl s3⟩
  | 2, hi =>
    obtain rfl : F4 = xs := by simpa using hi
    exact ⟨_, A4, c4, rfl, by rw [show (⟨g, 0, none⟩ : Addr).add 2 = ⟨g, 2, none⟩ from rfl, cell_of_row _ _ _ _ _ _ hg]; rfl, l4, n4, Bts.of_sl s4⟩
  | n + 3, hi => simp at hi
attribute [local go_sem ↓] loadAt_en loadAt_id
attribute [local go_sem] run_enLoad run_idLoad rowOf_drew rowOf_drewN
set_option maxRecDepth 100000 in
set_option maxHeartbeats 4000000 in
theorem rleaves_strong (A : Option Addr) (c : Nat) (b : List B8) (e : Ent) (n : Nat) (w : World) (hB : Bts w A b) (hA : A = none → c = 0) (hc : b.length ≤ c) (hd : e.d.length = 32) (hn : n < 18446744073709551616) (hkk : okL e n) :
    Calls Tryd.prog 19 #[.slice A b.length c, .agg e.cells.toArray, .int .u64 (n : Int)] w fun r w' => Turn (fun _ => False) w w' ∧ ∃ v, r = .returned v ∧ LvH w.heap.size A b.length c (formE e) (numB n) v w' := by

  have TR := Lib.hid (fun w => rright_any e w hd)
  have TP := Lib.hid (fun w h => rput_e e w hd h)
  have TN := Lib.hid (fun w => rnum_any n w hn)
  obtain ⟨C, hC⟩ : ∃ C, C = e.cells.toArray := ⟨_, rfl⟩
  rw [← hC] at TR TP ⊢
  obtain ⟨w1, hw1⟩ : ∃ w1, w1 = w.alloc (.cells C 42) := ⟨_, rfl⟩
  have t1 : Turn (fun _ => False) w w1 := by rw [hw1]; exact (Turn.refl _ _).alloc _
  have e1 : EAt w1 w.heap.size e := by rw [hw1, hC]; exact heap_alloc_new _ _
  have RF := Lib.hid (show ∀ w' : World, Turn (fun _ => False) w1 w' → rowOf w' w.heap.size 0 37 = some C from fun w' t => by rw [hC]; exact (e1.turn t (fun h => h)).row hd)
  have T1 := Lib.hid t1
  have HBT := Lib.hid (show Bts w1 A b from fun j u hu => by
    obtain ⟨ad, h1, h2⟩ := hB j u hu
    exact ⟨ad, h1, t1.cell h2 (fun h => h)⟩)
  have HAC := Lib.hid (And.intro hA hc)
  clear t1 e1 hC hd hB hA hc
  have r1 := RF.out w1 (Turn.refl _ _)
  obtain ⟨bl, hbl⟩ : ∃ bl, bl = b.length := ⟨_, rfl⟩
  rw [← hbl]
  have HBL := Lib.hid hbl
  have hok : okB e := hkk.1
  rw [decide_eq_true hok] at TR
  have TP := Lib.hid (fun w => TP.out w hok)
  have hbig : ¬ 4611686018427387904 < n := by have := hkk.2; omega
  have q1 : decide ((4611686018427387904 : Int) < (n : Int)) = false := by rw [decide_eq_false_iff_not]; omega
  have HI := Lib.hid (show okL e n from ⟨hok, by omega⟩)
  obtain ⟨F, hF⟩ : ∃ F, F = formE e := ⟨_, rfl⟩
  obtain ⟨G, hG⟩ : ∃ G, G = numB n := ⟨_, rfl⟩
  rw [← hF] at TP
  rw [← hG] at TN
  have HF := Lib.hid hF
  have HG := Lib.hid hG
  clear hok hbig hF hG hbl hkk
  go_enter Tryd.func19, Tryd.ntmps19
  go_upto_region 1 with fail
  change Code.wp _ _ _ _ (w.alloc (.cells C 42))
  rw [← hw1]
  clear hw1
  go_wp2_with (go_at_call 38; refine stop ?_)
  unfold Stop
  refine (TR.out w1).mono ?_
  rintro r w2 ⟨rfl, t2⟩
  have T2 := Lib.hid t2
  clear t2 r1
  have r2 := RF.out w2 T2.out
  go_wp2_with (go_at_call 39; refine stop ?_)
  unfold Stop
  refine (TP.out w2).mono ?_
  rintro r w3 ⟨u3, rfl, o3, t3⟩
  obtain ⟨A3, c3, rfl, s3, -, hc3, ha3⟩ := own_sl o3
  have T3 := Lib.hid (T2.out.trans t3 (fun _ _ h => h))
  have O3 := Lib.hid o3
  clear o3 s3 hc3 ha3 t3 r2
  go_wp2_with (go_at_call 33; refine stop ?_)
  unfold Stop
  refine (TN.out w3).mono ?_
  rintro r w4 ⟨u4, rfl, o4, t4⟩
  obtain ⟨A4, c4, rfl, s4, -, hc4, ha4⟩ := own_sl o4
  have T4 := Lib.hid (T3.out.trans t4 (fun _ _ h => h))
  have O4 := Lib.hid o4
  have O34 := Lib.hid (t4.own O3.out (fun _ _ h => h))
  clear o4 s4 hc4 ha4 t4
  go_wp2_with fail
  go_ret
  refine ⟨(T1.out.trans T4.out (fun _ _ h => h)).alloc _, _, rfl, ?_⟩
  have ta : Turn (fun _ => False) w4 (w4.alloc (.cells #[.slice A bl c, .slice A3 F.length c3, .slice A4 G.length c4] 26)) := (Turn.refl _ _).alloc _
  rw [← HF.out, ← HG.out]
  refine ⟨_, A3, c3, A4, c4, rfl, heap_alloc_new _ _, ?_, ?_⟩
  · exact ta.own (own_more O34.out (by have := T1.out.size; have := T2.out.size; omega)) (fun _ _ h => h)
  · exact ta.own (own_more O4.out (by have := T1.out.size; have := T3.out.size; omega)) (fun _ _ h => h)
end Go.Proofs.YtoagneibaincpaaDoor
