/- Blocks that no writing of a pen turns; 'Put', and the form that it answers. -/
import Derived.Test.YtomflniknnenaaaEnC
set_option linter.unusedVariables false
set_option linter.unusedSimpArgs false
namespace Go.Proofs.Ytomflniknnenaaa
open Go.RowKit
/-- A block that no writing of the pen turns. -/
def PenFree (w : World) (p : Nat) (v : Value) (g : Nat) : Prop := g ≠ p ∧ v.ownBlock ≠ some g ∧ g < w.heap.size
set_option maxRecDepth 100000 in
theorem PenFree.step {w w' : World} {p g : Nat} {v v' : Value} (h : PenFree w p v g) (s : PenStep w w' p v v') : PenFree w' p v' g := by
  obtain ⟨h1, h2, h3⟩ := h
  refine ⟨h1, ?_, Nat.lt_of_lt_of_le h3 s.1.size⟩
  rcases s.2 with e | ⟨k, e, hk⟩
  · rw [e]; exact h2
  · rw [e]; intro x; injection x with x; omega
set_option maxRecDepth 100000 in
theorem PenFree.not {w : World} {p g : Nat} {v : Value} (h : PenFree w p v g) : ¬ (g = p ∨ some g = v.ownBlock) := fun x => x.elim h.1 (fun x => h.2.1 x.symm)
set_option maxRecDepth 100000 in
theorem PenStep.heap {w w' : World} {p g : Nat} {v v' : Value} {o : Obj} (s : PenStep w w' p v v') (h : PenFree w p v g) (hg : w.heap[g]? = some o) : w'.heap[g]? = some o := s.1.heap hg h.not
set_option maxRecDepth 100000 in
theorem PenAt.low {w : World} {p B i : Nat} {v : Value} {xs : List B8} (h : PenAt w p B v xs) (hi : i < p) : ¬ (i = p ∨ some i = v.ownBlock) := by
  rintro (e | e)
  · omega
  · have := (h.2.1.lt i e.symm).1
    have := h.2.2.1
    omega
set_option maxRecDepth 100000 in
theorem PenAt.new {w : World} {p B : Nat} {v : Value} {xs : List B8} (h : PenAt w p B v xs) (o : Obj) : PenAt (w.alloc o) p B v xs ∧ PenFree (w.alloc o) p v w.heap.size ∧ PenStep w (w.alloc o) p v v := by
  refine ⟨h.turn ((Turn.refl (fun _ => False) w).alloc o) (fun h => h) (fun _ _ h => h), ⟨?_, ?_, by simp⟩, (Turn.refl _ _).alloc _, .inl rfl⟩
  · have := lt_of_block h.1; omega
  · intro e
    have := (h.2.1.lt _ e).2
    omega
def formE (e : Ent) : List B8 := numB e.k.toNat ++ (numB e.s.toNat ++ (e.d ++ (numB e.a ++ (numB e.y.toNat ++ numB e.p.toNat))))
def fE (k s : Nat) (d : List B8) (a y p : Nat) : List B8 := numB k ++ (numB s ++ (d ++ (numB a ++ (numB y ++ numB p))))
def eN (k s : Nat) (d : List B8) (a y p : Nat) : Ent := ⟨(k : Int), (s : Int), d, a, (y : Int), (p : Int)⟩
theorem eN_of {e : Ent} (h : okB e) : ∃ k s y p : Nat, e = eN k s e.d e.a y p ∧ 1 ≤ k ∧ k ≤ 3 ∧ s ≤ 63 ∧ e.a ≤ 4611686018427387904 ∧ y ≤ 63 ∧ p ≤ 1099511627776 := by
  unfold okB at h
  refine ⟨e.k.toNat, e.s.toNat, e.y.toNat, e.p.toNat, ?_, by omega, by omega, by omega, by omega, by omega, by omega⟩
  cases e
  simp only [eN, Ent.mk.injEq, true_and]
  simp only at h
  omega
attribute [local go_sem ↓] loadAt_en loadAt_id
attribute [local go_sem] run_enLoad run_idLoad rowOf_drew rowOf_drewN
set_option maxRecDepth 100000 in
set_option maxHeartbeats 4000000 in
theorem put_yes (k s : Nat) (d : List B8) (a y p : Nat) (w : World) (hd : d.length = 32) (hk1 : 1 ≤ k) (hk : k ≤ 3) (hs : s ≤ 63) (ha : a ≤ 4611686018427387904) (hy : y ≤ 63) (hp : p ≤ 1099511627776) :
    Calls Try.prog 6 #[.agg (eN k s d a y p).cells.toArray] w fun r w' => ∃ u, r = .returned (.tuple #[u, .bool true]) ∧ w'.ownsRow w.heap.size 5 1 u (fE k s d a y p).length ((fE k s d a y p).map bv) ∧ Turn (fun _ => False) w w' := by
  have T := Lib.hid (fun w => right_any (eN k s d a y p) w hd)
  have hb : decide (okB (eN k s d a y p)) = true := decide_eq_true (by unfold okB eN; simp only; omega)
  rw [hb] at T
  clear hb
  obtain ⟨C, hC⟩ : ∃ C, C = (eN k s d a y p).cells.toArray := ⟨_, rfl⟩
  rw [← hC] at T ⊢
  obtain ⟨b, hbb⟩ : ∃ b, b = w.heap.size := ⟨_, rfl⟩
  obtain ⟨w2, hw2⟩ : ∃ w2, w2 = w.alloc (.cells C 26) := ⟨_, rfl⟩
  have t2 : Turn (fun _ => False) w w2 := by rw [hw2]; exact (Turn.refl _ _).alloc _
  have e2 : EAt w2 w.heap.size (eN k s d a y p) := by rw [hw2, hC]; exact heap_alloc_new _ _
  have r2 : rowOf w2 w.heap.size 0 37 = some C := by rw [hC]; exact e2.row hd
  have hb2 : w.heap.size < w2.heap.size := e2.lt
  have CF := Lib.hid (show ∀ w' : World, EAt w' w.heap.size (eN k s d a y p) → (w'.cell? ⟨w.heap.size, 0, none⟩ = some (.int .i64 (k : Int)) ∧ w'.cell? ⟨w.heap.size, 1, none⟩ = some (.int .i64 (s : Int)) ∧ w'.cell? ⟨w.heap.size, 34, none⟩ = some (.int .u64 (a : Int)) ∧ w'.cell? ⟨w.heap.size, 35, none⟩ = some (.int .i64 (y : Int)) ∧ w'.cell? ⟨w.heap.size, 36, none⟩ = some (.int .i64 (p : Int))) ∧ rowOf w' w.heap.size 2 32 = some (d.map bv).toArray from fun w' g => ⟨g.c hd, g.dig hd⟩)
  have n1 := numB_le (n := k) (by omega)
  have n2 := numB_le (n := s) (by omega)
  have n3 := numB_le (n := a) (by omega)
  have n4 := numB_le (n := y) (by omega)
  have n5 := numB_le (n := p) (by omega)
  have HD := Lib.hid hd
  have HF := Lib.hid (show fE k s d a y p = numB k ++ (numB s ++ (d ++ (numB a ++ (numB y ++ numB p)))) from rfl)
  generalize eN k s d a y p = e at *
  generalize fE k s d a y p = F at *
  obtain ⟨D, hDD⟩ : ∃ D, D = (d.map bv).toArray := ⟨_, rfl⟩
  rw [← hDD] at CF
  have HDD := Lib.hid hDD
  have T2 := Lib.hid t2
  have E2 := Lib.hid e2
  clear t2 e2 hC hd hDD hbb b
  go_enter Try.func6, Try.ntmps6
  go_upto_region 1 with fail
  change Code.wp _ _ _ _ (w.alloc (.cells C 26))
  rw [← hw2]
  clear hw2
  go_upto_region 4 with (go_at_call 8; refine (T.out _).mono ?_; rintro r w1 ⟨rfl, t1⟩; have HT1 := Lib.hid t1; clear t1 r2)
  obtain ⟨w3, hw3⟩ : ∃ w3, w3 = w1.alloc (.cells #[.slice none 0 0] 42) := ⟨_, rfl⟩
  have hws : w.heap.size < w1.heap.size := by have := HT1.out.size; omega
  have hp3 : PenAt w3 w1.heap.size (w1.heap.size + 1) (.slice none 0 0) [] := by rw [hw3]; exact ⟨heap_alloc_new _ _, World.ownsRow_nil _ _ _ _, by omega, by simp⟩
  have hf3 : PenFree w3 w1.heap.size (.slice none 0 0) w.heap.size := ⟨by omega, by (intro e; cases e), by rw [hw3]; simp; omega⟩
  have ht3 : Turn (fun _ => False) w w3 := by rw [hw3]; exact (T2.out.trans HT1.out (fun _ _ h => h)).alloc _
  have E3 := Lib.hid (show EAt w3 w.heap.size e by rw [hw3]; exact (E2.out.turn HT1.out (fun h => h)).turn ((Turn.refl (fun _ => False) _).alloc _) (fun h => h))
  change Code.wp _ _ _ _ (w1.alloc (.cells #[.slice none 0 0] 42))
  rw [← hw3]
  have hwp : w.heap.size < w1.heap.size := hws
  have HT3 := Lib.hid ht3
  have HF3 := Lib.hid hf3
  have HPS3 := Lib.hid (PenStep.refl w3 w1.heap.size (.slice none 0 0))
  have HP3 := Lib.hid hp3
  generalize w1.heap.size = q at *
  clear hw3 hp3 hf3 ht3 hws E2 T2 HT1 w2 hb2 w1 T
  obtain ⟨⟨c0, c1, c2, c3, c4⟩, cd⟩ := CF.out w3 E3.out
  have TF := Lib.hid (pnum_any q _ _ _ k w3 HP3.out (by omega) (by have := HD.out; simp only [List.length_append, List.length_nil]; omega))
  go_wp2_with fail
  refine TF.out.mono ?_
  rintro r w4 ⟨rfl, v4, hp4, st4⟩
  have E4 := Lib.hid (show EAt w4 w.heap.size e from st4.heap HF3.out E3.out)
  have HF4 := Lib.hid (HF3.out.step st4)
  have HPS4 := Lib.hid (HPS3.out.trans st4)
  have HP4 := Lib.hid hp4
  clear hp4 st4 TF c0 c1 c2 c3 c4 cd E3 HF3 HPS3 HP3
  obtain ⟨⟨c0, c1, c2, c3, c4⟩, cd⟩ := CF.out w4 E4.out
  have TF := Lib.hid (pnum_any q _ _ _ s w4 HP4.out (by omega) (by have := HD.out; simp only [List.length_append, List.length_nil]; omega))
  go_wp2_with fail
  refine TF.out.mono ?_
  rintro r w5 ⟨rfl, v5, hp5, st5⟩
  have E5 := Lib.hid (show EAt w5 w.heap.size e from st5.heap HF4.out E4.out)
  have HF5 := Lib.hid (HF4.out.step st5)
  have HPS5 := Lib.hid (HPS4.out.trans st5)
  have HP5 := Lib.hid hp5
  clear hp5 st5 TF c0 c1 c2 c3 c4 cd E4 HF4 HPS4 HP4
  obtain ⟨⟨c0, c1, c2, c3, c4⟩, cd⟩ := CF.out w5 E5.out
  have TF := Lib.hid (pid_any q _ _ _ d w5 HP5.out HD.out (by simp only [List.length_append, List.length_nil]; omega))
  rw [← HDD.out] at TF
  go_wp2_with fail
  refine TF.out.mono ?_
  rintro r w6 ⟨rfl, v6, hp6, st6⟩
  have E6 := Lib.hid (show EAt w6 w.heap.size e from st6.heap HF5.out E5.out)
  have HF6 := Lib.hid (HF5.out.step st6)
  have HPS6 := Lib.hid (HPS5.out.trans st6)
  have HP6 := Lib.hid hp6
  clear hp6 st6 TF c0 c1 c2 c3 c4 cd E5 HF5 HPS5 HP5
  obtain ⟨⟨c0, c1, c2, c3, c4⟩, cd⟩ := CF.out w6 E6.out
  have TF := Lib.hid (pnum_any q _ _ _ a w6 HP6.out (by omega) (by have := HD.out; simp only [List.length_append, List.length_nil]; omega))
  go_wp2_with fail
  refine TF.out.mono ?_
  rintro r w7 ⟨rfl, v7, hp7, st7⟩
  have E7 := Lib.hid (show EAt w7 w.heap.size e from st7.heap HF6.out E6.out)
  have HF7 := Lib.hid (HF6.out.step st7)
  have HPS7 := Lib.hid (HPS6.out.trans st7)
  have HP7 := Lib.hid hp7
  clear hp7 st7 TF c0 c1 c2 c3 c4 cd E6 HF6 HPS6 HP6
  obtain ⟨⟨c0, c1, c2, c3, c4⟩, cd⟩ := CF.out w7 E7.out
  have TF := Lib.hid (pnum_any q _ _ _ y w7 HP7.out (by omega) (by have := HD.out; simp only [List.length_append, List.length_nil]; omega))
  go_wp2_with fail
  refine TF.out.mono ?_
  rintro r w8 ⟨rfl, v8, hp8, st8⟩
  have E8 := Lib.hid (show EAt w8 w.heap.size e from st8.heap HF7.out E7.out)
  have HF8 := Lib.hid (HF7.out.step st8)
  have HPS8 := Lib.hid (HPS7.out.trans st8)
  have HP8 := Lib.hid hp8
  clear hp8 st8 TF c0 c1 c2 c3 c4 cd E7 HF7 HPS7 HP7
  obtain ⟨⟨c0, c1, c2, c3, c4⟩, cd⟩ := CF.out w8 E8.out
  have TF := Lib.hid (pnum_any q _ _ _ p w8 HP8.out (by omega) (by have := HD.out; simp only [List.length_append, List.length_nil]; omega))
  go_wp2_with fail
  refine TF.out.mono ?_
  rintro r w9 ⟨rfl, v9, hp9, st9⟩
  have E9 := Lib.hid (show EAt w9 w.heap.size e from st9.heap HF8.out E8.out)
  have HF9 := Lib.hid (HF8.out.step st9)
  have HPS9 := Lib.hid (HPS8.out.trans st9)
  have HP9 := Lib.hid hp9
  clear hp9 st9 TF c0 c1 c2 c3 c4 cd E8 HF8 HPS8 HP8
  have TB := Lib.hid (pbytes_any q _ _ _ w9 HP9.out (by simp only [List.length_append, List.length_nil]; have := HD.out; omega))
  go_wp2_with fail
  refine TB.out.mono ?_
  rintro r w10 ⟨u, rfl, own10, t10⟩
  have HO10 := Lib.hid own10
  have HT10 := Lib.hid t10
  clear own10 t10 TB
  go_wp2
  go_ret2
  refine ⟨u, rfl, ?_, ?_⟩
  · rw [HF.out]
    have h := own_more HO10.out (base' := w.heap.size) (by have := HT3.out.size; have := HPS9.out.1.size; omega)
    simp only [List.append_assoc, List.nil_append] at h ⊢
    exact h
  · refine (HT3.out.trans HPS9.out.1 (fun i hi h => ?_)).trans HT10.out (fun _ _ h => h)
    rcases h with h | h
    · omega
    · cases h
set_option maxRecDepth 100000 in
set_option maxHeartbeats 4000000 in
theorem put_no (e : Ent) (w : World) (hd : e.d.length = 32) (ho : ¬ okB e) :
    Calls Try.prog 6 #[.agg e.cells.toArray] w fun r w' => r = .returned (.tuple #[.slice none 0 0, .bool false]) ∧ Turn (fun _ => False) w w' := by
  have T := Lib.hid (fun w => right_any e w hd)
  have hb : decide (okB e) = false := decide_eq_false ho
  rw [hb] at T
  obtain ⟨C, hC⟩ : ∃ C, C = e.cells.toArray := ⟨_, rfl⟩
  rw [← hC] at T ⊢
  obtain ⟨w2, hw2⟩ : ∃ w2, w2 = w.alloc (.cells C 26) := ⟨_, rfl⟩
  have t2 : Turn (fun _ => False) w w2 := by rw [hw2]; exact (Turn.refl _ _).alloc _
  have e2 : EAt w2 w.heap.size e := by rw [hw2, hC]; exact heap_alloc_new _ _
  have r2 : rowOf w2 w.heap.size 0 37 = some C := by rw [hC]; exact e2.row hd
  have T2 := Lib.hid t2
  clear t2 e2 hC hd hb ho
  go_enter Try.func6, Try.ntmps6
  go_upto_region 1 with fail
  change Code.wp _ _ _ _ (w.alloc (.cells C 26))
  rw [← hw2]
  clear hw2
  go_wp2_with (go_at_call 8; refine (T.out _).mono ?_; rintro r w1 ⟨rfl, t1⟩; have HT1 := Lib.hid t1; clear t1 r2)
  go_ret2
  exact ⟨rfl, T2.out.trans HT1.out (fun _ _ h => h)⟩
/-- What 'Put' answers: the form of a right one. -/
def pE (e : Ent) : List B8 := if okB e then formE e else []
theorem fE_eq (k s : Nat) (d : List B8) (a y p : Nat) : fE k s d a y p = formE (eN k s d a y p) := by
  unfold fE formE eN; simp
set_option maxRecDepth 100000 in
theorem put_any (e : Ent) (w : World) (hd : e.d.length = 32) :
    Calls Try.prog 6 #[.agg e.cells.toArray] w fun r w' => ∃ u, r = .returned (.tuple #[u, .bool (decide (okB e))]) ∧ w'.ownsRow w.heap.size 5 1 u (pE e).length ((pE e).map bv) ∧ Turn (fun _ => False) w w' := by
  by_cases h : okB e
  · obtain ⟨k, s, y, p, he, h1, h2, h3, h4, h5, h6⟩ := eN_of h
    have hp : pE e = fE k s e.d e.a y p := by rw [fE_eq, ← he]; unfold pE; rw [if_pos h]
    rw [hp, decide_eq_true h]
    have := put_yes k s e.d e.a y p w hd h1 h2 h3 h4 h5 h6
    rw [← he] at this
    exact this
  · refine (put_no e w hd h).mono ?_
    rintro r w' ⟨rfl, t⟩
    have hp : pE e = [] := by unfold pE; rw [if_neg h]
    rw [hp, decide_eq_false h]
    exact ⟨_, rfl, World.ownsRow_nil _ _ _ _, t⟩
end Go.Proofs.Ytomflniknnenaaa
