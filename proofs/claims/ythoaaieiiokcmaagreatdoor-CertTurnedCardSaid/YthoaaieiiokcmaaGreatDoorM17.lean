/- Merged: Merged: 'Right' of headers: its contract. 'Put' of headers, and the form that it answers. 'readFields' of headers: its contract. The contract of 'Read' of headers. 'Id' of headers: its contract. -/
import Derived.Test.YthoaaieiiokcmaaGreatDoorM16
namespace Go.Proofs.YthoaaieiiokcmaaGreatDoor
section

section
set_option linter.unusedVariables false
set_option linter.unusedSimpArgs false

open Go.RowKit
attribute [local go_sem ↓] loadAt_hd loadAt_id
attribute [local go_sem] run_hdLoad run_idLoad rowOf_drew rowOf_drewN
set_option maxRecDepth 100000 in
set_option maxHeartbeats 4000000 in
theorem hright_any (e : Hdr) (w : World) (hd : e.L) : Calls Tryz.prog 44 #[.agg e.cells.toArray] w fun r w' => r = .returned (.bool (decide (okH e))) ∧ Turn (fun _ => False) w w' := by
  obtain ⟨C, hC⟩ : ∃ C, C = e.cells.toArray := ⟨_, rfl⟩
  rw [← hC]
  obtain ⟨w2, hw2⟩ : ∃ w2, w2 = w.alloc (.cells C 33) := ⟨_, rfl⟩
  have t2 : Turn (fun _ => False) w w2 := by rw [hw2]; exact (Turn.refl _ _).alloc _
  have e2 : HAt w2 w.heap.size e := by rw [hw2, hC]; exact heap_alloc_new _ _
  obtain ⟨c0, c1, c2⟩ := e2.c
  have T2 := Lib.hid t2
  clear t2 e2 hC hd
  go_enter Tryz.func44, Tryz.ntmps44
  go_upto_region 1 with fail
  change Code.wp _ _ _ _ (w.alloc (.cells C 33))
  rw [← hw2]
  clear hw2
  go_wp2
  all_goals
    go_ret
    refine ⟨?_, T2.out⟩
    clear c0 c1 c2
    first
      | (have hb : decide (okH e) = false := decide_eq_false (by unfold okH; omega)
         rw [hb]; rfl)
      | (have hb : decide (okH e) = decide (e.p ≤ 1099511627776) := by
           rw [decide_eq_decide]; unfold okH; omega
         rw [hb]; rfl)

end
section
set_option linter.unusedVariables false
set_option linter.unusedSimpArgs false

open Go.RowKit
attribute [local go_sem ↓] loadAt_hd loadAt_id
attribute [local go_sem] run_hdLoad run_idLoad rowOf_drew rowOf_drewN
set_option maxRecDepth 100000 in
set_option maxHeartbeats 4000000 in
theorem hput_yes (s t p : Nat) (d r : List B8) (w : World) (hd : d.length = 32) (hr : r.length = 32) (hs : s ≤ 63) (ht1 : 1 ≤ t) (ht : t ≤ 1099511627776) (hp : p ≤ 1099511627776) :
    Calls Tryz.prog 23 #[.agg (hN s t p d r).cells.toArray] w fun q w' => ∃ u, q = .returned (.tuple #[u, .bool true]) ∧ w'.ownsRow w.heap.size 5 1 u (hE s t p d r).length ((hE s t p d r).map bv) ∧ Turn (fun _ => False) w w' := by
  have T := Lib.hid (fun w => hright_any (hN s t p d r) w ⟨hd, hr⟩)
  have hb : decide (okH (hN s t p d r)) = true := decide_eq_true (by unfold okH hN; simp only; omega)
  rw [hb] at T
  clear hb
  obtain ⟨C, hC⟩ : ∃ C, C = (hN s t p d r).cells.toArray := ⟨_, rfl⟩
  rw [← hC] at T ⊢
  obtain ⟨w2, hw2⟩ : ∃ w2, w2 = w.alloc (.cells C 33) := ⟨_, rfl⟩
  have t2 : Turn (fun _ => False) w w2 := by rw [hw2]; exact (Turn.refl _ _).alloc _
  have e2 : HAt w2 w.heap.size (hN s t p d r) := by rw [hw2, hC]; exact heap_alloc_new _ _
  have r2 : rowOf w2 w.heap.size 0 67 = some C := by rw [hC]; exact e2.row ⟨hd, hr⟩
  have hb2 : w.heap.size < w2.heap.size := e2.lt
  have CF := Lib.hid (show ∀ w' : World, HAt w' w.heap.size (hN s t p d r) → (w'.cell? ⟨w.heap.size, 0, none⟩ = some (.int .i64 (s : Int)) ∧ w'.cell? ⟨w.heap.size, 1, none⟩ = some (.int .i64 (t : Int)) ∧ w'.cell? ⟨w.heap.size, 2, none⟩ = some (.int .i64 (p : Int))) ∧ rowOf w' w.heap.size 3 32 = some (d.map bv).toArray ∧ rowOf w' w.heap.size 35 32 = some (r.map bv).toArray from fun w' g => ⟨g.c, g.dig ⟨hd, hr⟩, g.rot ⟨hd, hr⟩⟩)
  have n1 := numB_le (n := s) (by omega)
  have n2 := numB_le (n := t) (by omega)
  have n3 := numB_le (n := p) (by omega)
  have HD := Lib.hid hd
  have HR := Lib.hid hr
  have HF := Lib.hid (show hE s t p d r = numB s ++ (numB t ++ (numB p ++ (d ++ r))) from rfl)
  generalize hN s t p d r = e at *
  generalize hE s t p d r = F at *
  obtain ⟨D, hDD⟩ : ∃ D, D = (d.map bv).toArray := ⟨_, rfl⟩
  obtain ⟨R, hRR⟩ : ∃ R, R = (r.map bv).toArray := ⟨_, rfl⟩
  rw [← hDD, ← hRR] at CF
  have HDD := Lib.hid hDD
  have HRR := Lib.hid hRR
  have T2 := Lib.hid t2
  have E2 := Lib.hid e2
  clear t2 e2 hC hd hr hDD hRR
  go_enter Tryz.func23, Tryz.ntmps23
  go_upto_region 1 with fail
  change Code.wp _ _ _ _ (w.alloc (.cells C 33))
  rw [← hw2]
  clear hw2
  go_upto_region 4 with (go_at_call 44; refine (T.out _).mono ?_; rintro r w1 ⟨rfl, t1⟩; have HT1 := Lib.hid t1; clear t1 r2)
  obtain ⟨w3, hw3⟩ : ∃ w3, w3 = w1.alloc (.cells #[.slice none 0 0] 65) := ⟨_, rfl⟩
  have hws : w.heap.size < w1.heap.size := by have := HT1.out.size; omega
  have hp3 : PenAt w3 w1.heap.size (w1.heap.size + 1) (.slice none 0 0) [] := by rw [hw3]; exact ⟨heap_alloc_new _ _, World.ownsRow_nil _ _ _ _, by omega, by simp⟩
  have hf3 : PenFree w3 w1.heap.size (.slice none 0 0) w.heap.size := ⟨by omega, by (intro e; cases e), by rw [hw3]; simp; omega⟩
  have ht3 : Turn (fun _ => False) w w3 := by rw [hw3]; exact (T2.out.trans HT1.out (fun _ _ h => h)).alloc _
  have E3 := Lib.hid (show HAt w3 w.heap.size e by rw [hw3]; exact (E2.out.turn HT1.out (fun h => h)).turn ((Turn.refl (fun _ => False) _).alloc _) (fun h => h))
  change Code.wp _ _ _ _ (w1.alloc (.cells #[.slice none 0 0] 65))
  rw [← hw3]
  have hwp : w.heap.size < w1.heap.size := hws
  have HT3 := Lib.hid ht3
  have HF3 := Lib.hid hf3
  have HPS3 := Lib.hid (PenStep.refl w3 w1.heap.size (.slice none 0 0))
  have HP3 := Lib.hid hp3
  generalize w1.heap.size = q at *
  clear hw3 hp3 hf3 ht3 hws E2 T2 HT1 w2 hb2 w1 T
  obtain ⟨⟨c0, c1, c2⟩, cd, ce⟩ := CF.out w3 E3.out
  have TF := Lib.hid (pnum_any q _ _ _ s w3 HP3.out (by omega) (by have := HD.out; have := HR.out; simp only [List.length_append, List.length_nil]; omega))
  go_wp2_with fail
  refine TF.out.mono ?_
  rintro r w4 ⟨rfl, v4, hp4, st4⟩
  have E4 := Lib.hid (show HAt w4 w.heap.size e from st4.heap HF3.out E3.out)
  have HF4 := Lib.hid (HF3.out.step st4)
  have HPS4 := Lib.hid (HPS3.out.trans st4)
  have HP4 := Lib.hid hp4
  clear hp4 st4 TF c0 c1 c2 cd ce E3 HF3 HPS3 HP3
  obtain ⟨⟨c0, c1, c2⟩, cd, ce⟩ := CF.out w4 E4.out
  have TF := Lib.hid (pnum_any q _ _ _ t w4 HP4.out (by omega) (by have := HD.out; have := HR.out; simp only [List.length_append, List.length_nil]; omega))
  go_wp2_with fail
  refine TF.out.mono ?_
  rintro r w5 ⟨rfl, v5, hp5, st5⟩
  have E5 := Lib.hid (show HAt w5 w.heap.size e from st5.heap HF4.out E4.out)
  have HF5 := Lib.hid (HF4.out.step st5)
  have HPS5 := Lib.hid (HPS4.out.trans st5)
  have HP5 := Lib.hid hp5
  clear hp5 st5 TF c0 c1 c2 cd ce E4 HF4 HPS4 HP4
  obtain ⟨⟨c0, c1, c2⟩, cd, ce⟩ := CF.out w5 E5.out
  have TF := Lib.hid (pnum_any q _ _ _ p w5 HP5.out (by omega) (by have := HD.out; have := HR.out; simp only [List.length_append, List.length_nil]; omega))
  go_wp2_with fail
  refine TF.out.mono ?_
  rintro r w6 ⟨rfl, v6, hp6, st6⟩
  have E6 := Lib.hid (show HAt w6 w.heap.size e from st6.heap HF5.out E5.out)
  have HF6 := Lib.hid (HF5.out.step st6)
  have HPS6 := Lib.hid (HPS5.out.trans st6)
  have HP6 := Lib.hid hp6
  clear hp6 st6 TF c0 c1 c2 cd ce E5 HF5 HPS5 HP5
  obtain ⟨⟨c0, c1, c2⟩, cd, ce⟩ := CF.out w6 E6.out
  have TF := Lib.hid (pid_any q _ _ _ d w6 HP6.out HD.out (by have := HD.out; have := HR.out; simp only [List.length_append, List.length_nil]; omega))
  rw [← HDD.out] at TF
  go_wp2_with fail
  refine TF.out.mono ?_
  rintro r w7 ⟨rfl, v7, hp7, st7⟩
  have E7 := Lib.hid (show HAt w7 w.heap.size e from st7.heap HF6.out E6.out)
  have HF7 := Lib.hid (HF6.out.step st7)
  have HPS7 := Lib.hid (HPS6.out.trans st7)
  have HP7 := Lib.hid hp7
  clear hp7 st7 TF c0 c1 c2 cd ce E6 HF6 HPS6 HP6
  obtain ⟨⟨c0, c1, c2⟩, cd, ce⟩ := CF.out w7 E7.out
  have TF := Lib.hid (pid_any q _ _ _ r w7 HP7.out HR.out (by have := HD.out; have := HR.out; simp only [List.length_append, List.length_nil]; omega))
  rw [← HRR.out] at TF
  go_wp2_with fail
  refine TF.out.mono ?_
  rintro r w8 ⟨rfl, v8, hp8, st8⟩
  have E8 := Lib.hid (show HAt w8 w.heap.size e from st8.heap HF7.out E7.out)
  have HF8 := Lib.hid (HF7.out.step st8)
  have HPS8 := Lib.hid (HPS7.out.trans st8)
  have HP8 := Lib.hid hp8
  clear hp8 st8 TF c0 c1 c2 cd ce E7 HF7 HPS7 HP7
  have TB := Lib.hid (pbytes_any q _ _ _ w8 HP8.out (by simp only [List.length_append, List.length_nil]; have := HD.out; have := HR.out; omega))
  go_wp2_with fail
  refine TB.out.mono ?_
  rintro r w10 ⟨u, rfl, own10, t10⟩
  have HO10 := Lib.hid own10
  have HT10 := Lib.hid t10
  clear own10 t10 TB
  go_wp2
  go_ret2
  refine ⟨u, rfl, ?_, ?_⟩
  · rw [HF.out]
    have h := own_more HO10.out (base' := w.heap.size) (by have := HT3.out.size; have := HPS8.out.1.size; omega)
    simp only [List.append_assoc, List.nil_append] at h ⊢
    exact h
  · refine (HT3.out.trans HPS8.out.1 (fun i hi h => ?_)).trans HT10.out (fun _ _ h => h)
    rcases h with h | h
    · omega
    · cases h
set_option maxRecDepth 100000 in
set_option maxHeartbeats 4000000 in
theorem hput_no (e : Hdr) (w : World) (hd : e.L) (ho : ¬ okH e) :
    Calls Tryz.prog 23 #[.agg e.cells.toArray] w fun r w' => r = .returned (.tuple #[.slice none 0 0, .bool false]) ∧ Turn (fun _ => False) w w' := by
  have T := Lib.hid (fun w => hright_any e w hd)
  have hb : decide (okH e) = false := decide_eq_false ho
  rw [hb] at T
  obtain ⟨C, hC⟩ : ∃ C, C = e.cells.toArray := ⟨_, rfl⟩
  rw [← hC] at T ⊢
  obtain ⟨w2, hw2⟩ : ∃ w2, w2 = w.alloc (.cells C 33) := ⟨_, rfl⟩
  have t2 : Turn (fun _ => False) w w2 := by rw [hw2]; exact (Turn.refl _ _).alloc _
  have e2 : HAt w2 w.heap.size e := by rw [hw2, hC]; exact heap_alloc_new _ _
  have r2 : rowOf w2 w.heap.size 0 67 = some C := by rw [hC]; exact e2.row hd
  have T2 := Lib.hid t2
  clear t2 e2 hC hd hb ho
  go_enter Tryz.func23, Tryz.ntmps23
  go_upto_region 1 with fail
  change Code.wp _ _ _ _ (w.alloc (.cells C 33))
  rw [← hw2]
  clear hw2
  go_wp2_with (go_at_call 44; refine (T.out _).mono ?_; rintro r w1 ⟨rfl, t1⟩; have HT1 := Lib.hid t1; clear t1 r2)
  go_ret2
  exact ⟨rfl, T2.out.trans HT1.out (fun _ _ h => h)⟩
/-- What 'Put' answers: the form of a right one. -/
def pH (e : Hdr) : List B8 := if okH e then formH e else []
set_option maxRecDepth 100000 in
theorem hput_any (e : Hdr) (w : World) (hd : e.L) :
    Calls Tryz.prog 23 #[.agg e.cells.toArray] w fun r w' => ∃ u, r = .returned (.tuple #[u, .bool (decide (okH e))]) ∧ w'.ownsRow w.heap.size 5 1 u (pH e).length ((pH e).map bv) ∧ Turn (fun _ => False) w w' := by
  by_cases h : okH e
  · obtain ⟨s, t, p, he, h1, h2, h3, h4⟩ := hN_of h
    have hp : pH e = hE s t p e.d e.r := by rw [hE_eq, ← he]; unfold pH; rw [if_pos h]
    rw [hp, decide_eq_true h]
    have := hput_yes s t p e.d e.r w hd.1 hd.2 h1 h2 h3 h4
    rw [← he] at this
    exact this
  · refine (hput_no e w hd h).mono ?_
    rintro r w' ⟨rfl, t⟩
    have hp : pH e = [] := by unfold pH; rw [if_neg h]
    rw [hp, decide_eq_false h]
    exact ⟨_, rfl, World.ownsRow_nil _ _ _ _, t⟩

end
section
set_option linter.unusedVariables false
set_option linter.unusedSimpArgs false

open Go.RowKit
section
variable {w w' : World}
set_option maxRecDepth 100000 in
theorem there_lay {g : Nat} {C : Array Value} {t : TypeId} (h : w.heap[g]? = some (.cells C t (0, 0))) (n : Nat) (hn : n ≤ C.size) : w.there g 0 n := fun j hj => by
  refine ⟨?_, frozen_of_row w g _ _ _ h⟩
  rw [cell_of_row w g _ _ _ _ h, Nat.zero_add, Array.getElem?_eq_getElem (by omega)]; rfl
set_option maxRecDepth 100000 in
theorem there_sub {g n : Nat} (h : w.there g 0 n) (o m : Nat) (ho : o + m ≤ n) : w.there g o m := fun j hj => by
  have := h (o + j) (by omega)
  rwa [Nat.zero_add] at this
end
/-- What reading the fields comes to. -/
def FPostH (e E : Nat) (N : Nat → Prop) (b : List B8) (w : World) (r : Ending) (w' : World) : Prop :=
  (xH b = 0 ∧ r = .returned (.agg (bodH b).cells.toArray) ∧ Eye0 w' e E N (m5 b) ∧ Turn (fun i => i = e) w w') ∨
  (xH b ≠ 0 ∧ r = pan E ∧ EyeX w' e E (xH b) ∧ Turn (fun i => i = e ∨ i = E) w w')
theorem fh_no {e E : Nat} {N : Nat → Prop} {b : List B8} {w w1 w' : World} {k : Nat} (hk : k ≠ 0) (hx : xH b = k) (he : EyeX w' e E k) (t1 : Turn (fun i => i = e) w w1) (t2 : Turn (fun i => i = e ∨ i = E) w1 w') : FPostH e E N b w (pan E) w' :=
  .inr ⟨by rw [hx]; exact hk, rfl, by rw [hx]; exact he, (t1.mono (fun _ _ h => .inl h)).trans t2 (fun _ _ h => h)⟩
attribute [local go_sem ↓] loadAt_hd loadAt_id
attribute [local go_sem] run_hdLoad run_idLoad rowOf_drew rowOf_drewN
set_option maxRecDepth 100000 in
set_option maxHeartbeats 4000000 in
theorem hreadFields_any (e E : Nat) (N : Nat → Prop) (b : List B8) (w : World) (h : Eye0 w e E N b) (hN_ : ∀ i, w.heap.size ≤ i → N i) :
    Calls Tryz.prog 100 #[.pointer (some ⟨e, 0, none⟩)] w (FPostH e E N b w) := by
  have hlt := h.lt
  have hle : e < w.heap.size := hlt.1
  have hlE : E < w.heap.size := hlt.2.1
  have hzd := hd_zero
  obtain ⟨w2, hw2⟩ : ∃ w2, w2 = (w.alloc (.cells Z67H 33)).alloc (.cells Z67H 33) := ⟨_, rfl⟩
  have t2 : Turn (fun _ => False) w w2 := by rw [hw2]; exact ((Turn.refl _ _).alloc _).alloc _
  have R0 := Lib.hid (show w2.heap[w.heap.size]? = some (.cells Z67H 33 (0, 0)) by rw [hw2]; exact heap_alloc2_old _ _ _)
  have E0 := Lib.hid (show HAt w2 (w.heap.size + 1) HZ by rw [hw2]; exact heap_alloc2_new _ _ _)
  have HE0 := Lib.hid (h.turn t2 (fun h => h) (fun h => h) (fun _ h => h.elim))
  have T0 := Lib.hid (show Turn (fun i => i = e) w w2 from t2.mono (fun _ _ h => h.elim))
  have HNX := Lib.hid (show N (w.heap.size + 1) from hN_ _ (by omega))
  have HNW := Lib.hid (show N w.heap.size from hN_ _ (Nat.le_refl _))
  have HS0 := Lib.hid (show w2.heap.size = w.heap.size + 2 by rw [hw2]; simp)
  clear h hN_ t2 hlt
  go_enter Tryz.func100, Tryz.ntmps100
  go_upto_region 2 with fail
  change Code.wp _ _ _ _ ((w.alloc (.cells Z67H 33)).alloc (.cells Z67H 33))
  rw [← hw2]
  clear hw2
  by_cases hx : eNum 63 b = 0
  · have TF := Lib.hid (num_yes e E N 63 b w2 HE0.out hx)
    have hbd := (eNum_le hx).1
    have hbd6 := (eNum_le hx).2
    obtain ⟨xS, hS⟩ : ∃ V, V = numV b := ⟨_, rfl⟩
    rw [← hS] at TF hbd hbd6
    have HS := Lib.hid hS
    have HX1 := Lib.hid hx
    clear hS hx
    go_upto_region 3 with (go_at_call 96; refine TF.out.mono ?_; rintro r u1 ⟨rfl, he1, ht1⟩; have HEa := Lib.hid he1; have HTa := Lib.hid ht1; clear he1 ht1 TF; have z0 := (E0.out.turn HTa.out (by omega)).f 0; obtain ⟨c0, c1, c2⟩ := (E0.out.turn HTa.out (by omega)).c)
    obtain ⟨e1, t1⟩ := (E0.out.turn HTa.out (by omega)).set0 (xS : Int)
    obtain ⟨v1, hv1⟩ : ∃ v, v = u1.setCell ⟨w.heap.size + 1, 0, none⟩ (.int .i64 (xS : Int)) := ⟨_, rfl⟩
    change Code.wp _ _ _ _ (u1.setCell ⟨w.heap.size + 1, 0, none⟩ (.int .i64 (xS : Int)))
    rw [← hv1] at e1 t1 ⊢
    have E1 := Lib.hid e1
    have HE1 := Lib.hid (HEa.out.turn t1 (by omega) (by omega) (fun i h => by rw [h]; exact HNX.out))
    have R1 := Lib.hid (t1.heap (HTa.out.heap R0.out (by omega)) (by omega))
    have T1 := Lib.hid (show Turn (fun i => i = e) w v1 from (T0.out.trans HTa.out (fun _ _ h => h)).trans t1 (fun i hi h => by omega))
    have HS1 := Lib.hid (show w.heap.size + 2 ≤ v1.heap.size from by have := HS0.out; have := HTa.out.size; have := t1.size; omega)
    clear hv1 e1 t1 HEa HTa c0 c1 c2 z0 E0 HE0 R0 T0 HS0
    have F1 := Lib.hid (show h1 b = 0 by exact HX1.out)
    by_cases hx : eNum 1099511627776 (m1 b) = 0
    · have TF := Lib.hid (num_yes e E N 1099511627776 (m1 b) v1 HE1.out hx)
      have hbd := (eNum_le hx).1
      have hbd6 := (eNum_le hx).2
      obtain ⟨xT, hT⟩ : ∃ V, V = numV (m1 b) := ⟨_, rfl⟩
      rw [← hT] at TF hbd hbd6
      have HT := Lib.hid hT
      have HX2 := Lib.hid hx
      clear hT hx
      go_upto_region 4 with (go_at_call 96; refine TF.out.mono ?_; rintro r u2 ⟨rfl, he2, ht2⟩; have HEa := Lib.hid he2; have HTa := Lib.hid ht2; clear he2 ht2 TF; have z0 := (E1.out.turn HTa.out (by omega)).f 1; obtain ⟨c0, c1, c2⟩ := (E1.out.turn HTa.out (by omega)).c)
      obtain ⟨e2, t2⟩ := (E1.out.turn HTa.out (by omega)).set1 (xT : Int)
      obtain ⟨v2, hv2⟩ : ∃ v, v = u2.setCell ⟨w.heap.size + 1, 1, none⟩ (.int .i64 (xT : Int)) := ⟨_, rfl⟩
      change Code.wp _ _ _ _ (u2.setCell ⟨w.heap.size + 1, 1, none⟩ (.int .i64 (xT : Int)))
      rw [← hv2] at e2 t2 ⊢
      have E2 := Lib.hid e2
      have HE2 := Lib.hid (HEa.out.turn t2 (by omega) (by omega) (fun i h => by rw [h]; exact HNX.out))
      have R2 := Lib.hid (t2.heap (HTa.out.heap R1.out (by omega)) (by omega))
      have T2 := Lib.hid (show Turn (fun i => i = e) w v2 from (T1.out.trans HTa.out (fun _ _ h => h)).trans t2 (fun i hi h => by omega))
      have HS2 := Lib.hid (show w.heap.size + 2 ≤ v2.heap.size from by have := HS1.out; have := HTa.out.size; have := t2.size; omega)
      clear hv2 e2 t2 HEa HTa c0 c1 c2 z0 E1 HE1 R1 T1 HS1
      have F2 := Lib.hid (show h2 b = 0 by unfold h2; rw [if_neg (by rw [F1.out]; omega)]; exact HX2.out)
      by_cases hx : eNum 1099511627776 (m2 b) = 0
      · have TF := Lib.hid (num_yes e E N 1099511627776 (m2 b) v2 HE2.out hx)
        have hbd := (eNum_le hx).1
        have hbd6 := (eNum_le hx).2
        obtain ⟨xP, hP⟩ : ∃ V, V = numV (m2 b) := ⟨_, rfl⟩
        rw [← hP] at TF hbd hbd6
        have HP := Lib.hid hP
        have HX3 := Lib.hid hx
        clear hP hx
        go_upto_region 5 with (go_at_call 96; refine TF.out.mono ?_; rintro r u3 ⟨rfl, he3, ht3⟩; have HEa := Lib.hid he3; have HTa := Lib.hid ht3; clear he3 ht3 TF; have z0 := (E2.out.turn HTa.out (by omega)).f 2; obtain ⟨c0, c1, c2⟩ := (E2.out.turn HTa.out (by omega)).c)
        obtain ⟨e3, t3⟩ := (E2.out.turn HTa.out (by omega)).set2 (xP : Int)
        obtain ⟨v3, hv3⟩ : ∃ v, v = u3.setCell ⟨w.heap.size + 1, 2, none⟩ (.int .i64 (xP : Int)) := ⟨_, rfl⟩
        change Code.wp _ _ _ _ (u3.setCell ⟨w.heap.size + 1, 2, none⟩ (.int .i64 (xP : Int)))
        rw [← hv3] at e3 t3 ⊢
        have E3 := Lib.hid e3
        have HE3 := Lib.hid (HEa.out.turn t3 (by omega) (by omega) (fun i h => by rw [h]; exact HNX.out))
        have R3 := Lib.hid (t3.heap (HTa.out.heap R2.out (by omega)) (by omega))
        have T3 := Lib.hid (show Turn (fun i => i = e) w v3 from (T2.out.trans HTa.out (fun _ _ h => h)).trans t3 (fun i hi h => by omega))
        have HS3 := Lib.hid (show w.heap.size + 2 ≤ v3.heap.size from by have := HS2.out; have := HTa.out.size; have := t3.size; omega)
        clear hv3 e3 t3 HEa HTa c0 c1 c2 z0 E2 HE2 R2 T2 HS2
        have F3 := Lib.hid (show h3 b = 0 by unfold h3; rw [if_neg (by rw [F2.out]; omega)]; exact HX3.out)
        by_cases hx : 32 ≤ (m3 b).length
        · have TF := Lib.hid (id_yes e E N (m3 b) v3 HE3.out hx)
          obtain ⟨xD, hD⟩ : ∃ V, V = (m3 b).take 32 := ⟨_, rfl⟩
          have HLD := Lib.hid (show xD.length = 32 by rw [hD, List.length_take]; omega)
          rw [← hD] at TF
          obtain ⟨DAD, hDA⟩ : ∃ DA, DA = (xD.map bv).toArray := ⟨_, rfl⟩
          rw [← hDA] at TF
          have HDAD := Lib.hid hDA
          have HD := Lib.hid hD
          have HX4 := Lib.hid hx
          have sD : DAD.size = 32 := by rw [hDA]; simpa using HLD.out
          have Q1D := Lib.hid (show (Tryz.prog.info? 24).map (·.size) = some DAD.size by rw [sD]; kernel_rfl)
          have Q2D := Lib.hid (show DAD.all (·.oneCell') = true by rw [hDA]; exact all_oneCell_toArray (bv_one _))
          have Q3D := Lib.hid sD
          clear hD hDA hx sD
          go_wp2_with fail
          refine TF.out.mono ?_
          rintro r u4 ⟨rfl, he4, ht4⟩
          have HEa := Lib.hid he4
          have HTa := Lib.hid ht4
          clear he4 ht4 TF
          have TH := Lib.hid (show u4.there (w.heap.size + 1) 3 DAD.size by rw [Q3D.out]; exact there_sub (there_lay (E3.out.turn HTa.out (by omega)) 67 (by rw [List.size_toArray, Hdr.len _ ⟨rfl, rfl⟩]; omega)) 3 32 (by omega))
          go_upto_region 6 with (refine wpList_store_mid rfl _ _ _ rfl (w.heap.size + 1) 3 DAD rfl rfl TH.out Q1D.out Q2D.out ?_)
          obtain ⟨e4, t4⟩ := (E3.out.turn HTa.out (by omega)).setD ⟨rfl, rfl⟩ xD HLD.out
          rw [show xD.map bv = DAD.toList by rw [HDAD.out]] at e4 t4
          obtain ⟨v4, hv4⟩ : ∃ v, v = u4.setCells (w.heap.size + 1) 3 DAD.toList := ⟨_, rfl⟩
          change Code.wp _ _ _ _ (u4.setCells (w.heap.size + 1) 3 DAD.toList)
          rw [← hv4] at e4 t4 ⊢
          have E4 := Lib.hid e4
          have HE4 := Lib.hid (HEa.out.turn t4 (by omega) (by omega) (fun i h => by rw [h]; exact HNX.out))
          have R4 := Lib.hid (t4.heap (HTa.out.heap R3.out (by omega)) (by omega))
          have T4 := Lib.hid (show Turn (fun i => i = e) w v4 from (T3.out.trans HTa.out (fun _ _ h => h)).trans t4 (fun i hi h => by omega))
          have HS4 := Lib.hid (show w.heap.size + 2 ≤ v4.heap.size from by have := HS3.out; have := HTa.out.size; have := t4.size; omega)
          clear hv4 e4 t4 HEa HTa TH E3 HE3 R3 T3 HS3
          have F4 := Lib.hid (show h4 b = 0 by unfold h4; rw [if_neg (by rw [F3.out]; omega)]; rw [if_neg (by have := HX4.out; omega)])
          by_cases hx : 32 ≤ (m4 b).length
          · have TF := Lib.hid (id_yes e E N (m4 b) v4 HE4.out hx)
            obtain ⟨xR, hR⟩ : ∃ V, V = (m4 b).take 32 := ⟨_, rfl⟩
            have HLR := Lib.hid (show xR.length = 32 by rw [hR, List.length_take]; omega)
            rw [← hR] at TF
            obtain ⟨DAR, hDA⟩ : ∃ DA, DA = (xR.map bv).toArray := ⟨_, rfl⟩
            rw [← hDA] at TF
            have HDAR := Lib.hid hDA
            have HR := Lib.hid hR
            have HX5 := Lib.hid hx
            have sD : DAR.size = 32 := by rw [hDA]; simpa using HLR.out
            have Q1R := Lib.hid (show (Tryz.prog.info? 24).map (·.size) = some DAR.size by rw [sD]; kernel_rfl)
            have Q2R := Lib.hid (show DAR.all (·.oneCell') = true by rw [hDA]; exact all_oneCell_toArray (bv_one _))
            have Q3R := Lib.hid sD
            clear hR hDA hx sD
            go_wp2_with fail
            refine TF.out.mono ?_
            rintro r u5 ⟨rfl, he5, ht5⟩
            have HEa := Lib.hid he5
            have HTa := Lib.hid ht5
            clear he5 ht5 TF
            have TH := Lib.hid (show u5.there (w.heap.size + 1) 35 DAR.size by rw [Q3R.out]; exact there_sub (there_lay (E4.out.turn HTa.out (by omega)) 67 (by rw [List.size_toArray, Hdr.len _ ⟨HLD.out, rfl⟩]; omega)) 35 32 (by omega))
            go_upto_region 7 with (refine wpList_store_mid rfl _ _ _ rfl (w.heap.size + 1) 35 DAR rfl rfl TH.out Q1R.out Q2R.out ?_)
            obtain ⟨e5, t5⟩ := (E4.out.turn HTa.out (by omega)).setR ⟨HLD.out, rfl⟩ xR HLR.out
            rw [show xR.map bv = DAR.toList by rw [HDAR.out]] at e5 t5
            obtain ⟨v5, hv5⟩ : ∃ v, v = u5.setCells (w.heap.size + 1) 35 DAR.toList := ⟨_, rfl⟩
            change Code.wp _ _ _ _ (u5.setCells (w.heap.size + 1) 35 DAR.toList)
            rw [← hv5] at e5 t5 ⊢
            have E5 := Lib.hid e5
            have HE5 := Lib.hid (HEa.out.turn t5 (by omega) (by omega) (fun i h => by rw [h]; exact HNX.out))
            have R5 := Lib.hid (t5.heap (HTa.out.heap R4.out (by omega)) (by omega))
            have T5 := Lib.hid (show Turn (fun i => i = e) w v5 from (T4.out.trans HTa.out (fun _ _ h => h)).trans t5 (fun i hi h => by omega))
            have HS5 := Lib.hid (show w.heap.size + 2 ≤ v5.heap.size from by have := HS4.out; have := HTa.out.size; have := t5.size; omega)
            clear hv5 e5 t5 HEa HTa TH E4 HE4 R4 T4 HS4
            have F5 := Lib.hid (show h5 b = 0 by unfold h5; rw [if_neg (by rw [F4.out]; omega)]; rw [if_neg (by have := HX5.out; omega)])
            have hrow := E5.out.row ⟨HLD.out, HLR.out⟩
            obtain ⟨CB, hCB⟩ : ∃ CB, CB = (Hdr.cells ⟨(xS : Int), (xT : Int), (xP : Int), xD, xR⟩).toArray := ⟨_, rfl⟩
            have hbv : bodH b = ⟨(xS : Int), (xT : Int), (xP : Int), xD, xR⟩ := by unfold bodH hN; rw [HS.out, HT.out, HP.out, HD.out, HR.out]
            have TR := hright_any ⟨(xS : Int), (xT : Int), (xP : Int), xD, xR⟩ v5 ⟨HLD.out, HLR.out⟩
            change rowOf v5 (w.heap.size + 1) 0 67 = some (Hdr.cells ⟨(xS : Int), (xT : Int), (xP : Int), xD, xR⟩).toArray at hrow
            rw [← hCB] at hrow TR
            rw [← hbv] at hCB TR
            have sC : CB.size = 67 := by rw [hCB, List.size_toArray, Hdr.len]; rw [hbv]; exact ⟨HLD.out, HLR.out⟩
            have TR := Lib.hid TR
            have K1 := Lib.hid (show (Tryz.prog.info? 33).map (·.size) = some CB.size by rw [sC]; exact hd_info)
            have K2 := Lib.hid (show Z67H.size = CB.size by rw [sC]; rfl)
            have K3 := Lib.hid (show CB.all (·.oneCell') = true by rw [hCB]; exact Hdr.one _)
            have HCB := Lib.hid hCB
            have HROW := Lib.hid hrow
            clear hCB sC hbv
            by_cases hok : okH (bodH b)
            · rw [decide_eq_true hok] at TR
              have HX := Lib.hid (show xH b = 0 by unfold xH; rw [if_neg (by rw [F5.out]; omega), if_pos hok])
              clear hok
              go_wp2_with (go_at_call 44; refine stop ?_)
              unfold Stop
              refine TR.out.mono ?_
              rintro r v7 ⟨rfl, t7⟩
              have R7 := Lib.hid (t7.heap R5.out (fun h => h))
              have hrow := rowOf_turn t7 HROW.out (fun h => h)
              have HE7 := Lib.hid (HE5.out.turn t7 (fun h => h) (fun h => h) (fun _ h => h.elim))
              have T7 := Lib.hid (T5.out.trans t7 (fun _ _ h => h.elim))
              clear t7 TR HE5
              go_wp2_with (refine wpList_store_row rfl _ _ _ rfl w.heap.size CB rfl rfl 33 Z67H R7.out K1.out K2.out K3.out ?_)
              have h3 := setRow_heap v7 w.heap.size Z67H CB 33 (0, 0) R7.out
              have t8 : Turn (fun i => i = w.heap.size) v7 (v7.setRow w.heap.size CB) := (Turn.refl _ _).setRow _ _ (fun _ => rfl)
              refine bodyPost_ret (v := .agg CB) ?_ rfl (.inl ⟨HX.out, by rw [HCB.out], HE7.out.turn t8 (by omega) (by omega) (fun i h => by rw [h]; exact HNW.out), T7.out.trans t8 (fun i hi h => by omega)⟩)
              exact results_cell_row Tryz.results100 _ _ w.heap.size _ CB (0, 0) _ rfl h3 Tryz.underlying33 rfl K1.out
            · rw [decide_eq_false hok] at TR
              have HX := Lib.hid (show xH b = 3 by unfold xH; rw [if_neg (by rw [F5.out]; omega), if_neg hok])
              clear hok
              go_wp2_with (go_at_call 44; refine stop ?_)
              unfold Stop
              refine TR.out.mono ?_
              rintro r v7 ⟨rfl, t7⟩
              have HE7 := HE5.out.turn t7 (fun h => h) (fun h => h) (fun _ h => h.elim)
              have TF := Lib.hid (fail0 e E N 3 _ v7 HE7 (by decide))
              have T7 := Lib.hid (T5.out.trans t7 (fun _ _ h => h.elim))
              clear t7 TR HE5 HE7 hrow
              go_wp2_with (go_at_call 72; refine TF.out.mono ?_; rintro r u9 ⟨rfl, he9, ht9⟩; dsimp only [pan]; have HE9 := Lib.hid he9; have HT9 := Lib.hid ht9; clear he9 ht9)
              exact ⟨rfl, fh_no (by decide) HX.out HE9.out T7.out (HT9.out.mono (fun _ _ h => .inr h))⟩
          · have TF := Lib.hid (id_no e E N (m4 b) v4 HE4.out (by omega))
            have hk : 2 ≠ 0 := by decide
            have hz : h5 b = 2 := by
              unfold h5; rw [if_neg (by rw [F4.out]; omega)]; rw [if_pos (by omega)]
            have hX : xH b = 2 := by
              unfold xH
              rw [if_pos (by rw [hz]; exact hk), hz]
            have HX0 := Lib.hid hX
            have HK0 := Lib.hid hk
            clear hX hk hz hx
            go_wp2_with (go_at_call 71; refine TF.out.mono ?_; rintro r u9 ⟨rfl, he9, ht9⟩; dsimp only [pan]; have HE9 := Lib.hid he9; have HT9 := Lib.hid ht9; clear he9 ht9)
            exact ⟨rfl, fh_no HK0.out HX0.out HE9.out T4.out HT9.out⟩
        · have TF := Lib.hid (id_no e E N (m3 b) v3 HE3.out (by omega))
          have hk : 2 ≠ 0 := by decide
          have hz : h4 b = 2 := by
            unfold h4; rw [if_neg (by rw [F3.out]; omega)]; rw [if_pos (by omega)]
          have hX : xH b = 2 := by
            unfold xH
            have hz : h5 b = 2 := by unfold h5; rw [if_pos (by rw [hz]; exact hk), hz]
            rw [if_pos (by rw [hz]; exact hk), hz]
          have HX0 := Lib.hid hX
          have HK0 := Lib.hid hk
          clear hX hk hz hx
          go_wp2_with (go_at_call 71; refine TF.out.mono ?_; rintro r u9 ⟨rfl, he9, ht9⟩; dsimp only [pan]; have HE9 := Lib.hid he9; have HT9 := Lib.hid ht9; clear he9 ht9)
          exact ⟨rfl, fh_no HK0.out HX0.out HE9.out T3.out HT9.out⟩
      · have TF := Lib.hid (num_no e E N 1099511627776 (m2 b) v2 HE2.out hx)
        have hk : eNum 1099511627776 (m2 b) ≠ 0 := by omega
        have hz : h3 b = eNum 1099511627776 (m2 b) := by
          unfold h3; rw [if_neg (by rw [F2.out]; omega)]
        have hX : xH b = eNum 1099511627776 (m2 b) := by
          unfold xH
          have hz : h4 b = eNum 1099511627776 (m2 b) := by unfold h4; rw [if_pos (by rw [hz]; exact hk), hz]
          have hz : h5 b = eNum 1099511627776 (m2 b) := by unfold h5; rw [if_pos (by rw [hz]; exact hk), hz]
          rw [if_pos (by rw [hz]; exact hk), hz]
        have HX0 := Lib.hid hX
        have HK0 := Lib.hid hk
        clear hX hk hz hx
        go_wp2_with (go_at_call 96; refine TF.out.mono ?_; rintro r u9 ⟨rfl, he9, ht9⟩; dsimp only [pan]; have HE9 := Lib.hid he9; have HT9 := Lib.hid ht9; clear he9 ht9)
        exact ⟨rfl, fh_no HK0.out HX0.out HE9.out T2.out HT9.out⟩
    · have TF := Lib.hid (num_no e E N 1099511627776 (m1 b) v1 HE1.out hx)
      have hk : eNum 1099511627776 (m1 b) ≠ 0 := by omega
      have hz : h2 b = eNum 1099511627776 (m1 b) := by
        unfold h2; rw [if_neg (by rw [F1.out]; omega)]
      have hX : xH b = eNum 1099511627776 (m1 b) := by
        unfold xH
        have hz : h3 b = eNum 1099511627776 (m1 b) := by unfold h3; rw [if_pos (by rw [hz]; exact hk), hz]
        have hz : h4 b = eNum 1099511627776 (m1 b) := by unfold h4; rw [if_pos (by rw [hz]; exact hk), hz]
        have hz : h5 b = eNum 1099511627776 (m1 b) := by unfold h5; rw [if_pos (by rw [hz]; exact hk), hz]
        rw [if_pos (by rw [hz]; exact hk), hz]
      have HX0 := Lib.hid hX
      have HK0 := Lib.hid hk
      clear hX hk hz hx
      go_wp2_with (go_at_call 96; refine TF.out.mono ?_; rintro r u9 ⟨rfl, he9, ht9⟩; dsimp only [pan]; have HE9 := Lib.hid he9; have HT9 := Lib.hid ht9; clear he9 ht9)
      exact ⟨rfl, fh_no HK0.out HX0.out HE9.out T1.out HT9.out⟩
  · have TF := Lib.hid (num_no e E N 63 b w2 HE0.out hx)
    have hk : eNum 63 b ≠ 0 := by omega
    have hz : h1 b = eNum 63 b := by
      rfl
    have hX : xH b = eNum 63 b := by
      unfold xH
      have hz : h2 b = eNum 63 b := by unfold h2; rw [if_pos (by rw [hz]; exact hk), hz]
      have hz : h3 b = eNum 63 b := by unfold h3; rw [if_pos (by rw [hz]; exact hk), hz]
      have hz : h4 b = eNum 63 b := by unfold h4; rw [if_pos (by rw [hz]; exact hk), hz]
      have hz : h5 b = eNum 63 b := by unfold h5; rw [if_pos (by rw [hz]; exact hk), hz]
      rw [if_pos (by rw [hz]; exact hk), hz]
    have HX0 := Lib.hid hX
    have HK0 := Lib.hid hk
    clear hX hk hz hx
    go_wp2_with (go_at_call 96; refine TF.out.mono ?_; rintro r u9 ⟨rfl, he9, ht9⟩; dsimp only [pan]; have HE9 := Lib.hid he9; have HT9 := Lib.hid ht9; clear he9 ht9)
    exact ⟨rfl, fh_no HK0.out HX0.out HE9.out T0.out HT9.out⟩

end
section
set_option linter.unusedVariables false
set_option linter.unusedSimpArgs false

open Go.RowKit
attribute [local go_sem ↓] loadAt_hd loadAt_id
attribute [local go_sem] run_hdLoad run_idLoad rowOf_drew rowOf_drewN
/-- What the reader of a header comes to. -/
def RPostH (e E x : Nat) (N : Nat → Prop) (b : List B8) (w : World) (r : Ending) (w' : World) : Prop :=
  (xH b = 0 ∧ r = .returned (.tuple #[]) ∧ HAt w' x (bodH b) ∧ Eye0 w' e E N (m5 b) ∧ Turn (fun i => i = e ∨ i = x) w w') ∨
  (xH b ≠ 0 ∧ r = pan E ∧ EyeX w' e E (xH b) ∧ Turn (fun i => i = e ∨ i = E ∨ i = x) w w')
set_option maxRecDepth 100000 in
set_option maxHeartbeats 4000000 in
theorem hread1_any (e E x : Nat) (N : Nat → Prop) (b : List B8) (w : World) (h : Eye0 w e E N b) (hN : ∀ i, w.heap.size ≤ i → N i) (hx : w.heap[x]? = some (.cells Z67H 33 (0, 0))) (hxe : x ≠ e) (hxE : x ≠ E) (hNx : N x) :
    Calls Tryz.prog 99 #[.pointer (some ⟨e, 0, none⟩), .pointer (some ⟨x, 0, none⟩)] w (RPostH e E x N b w) := by
  have T := Lib.hid (hreadFields_any e E N b w h hN)
  have HX := Lib.hid hx
  have HN := Lib.hid hNx
  clear h hN hx hNx
  obtain ⟨C, hC⟩ : ∃ C, C = (bodH b).cells.toArray := ⟨_, rfl⟩
  have K := Lib.hid (fun (h : h5 b = 0) => show (Tryz.prog.info? 33).map (·.size) = some C.size ∧ Z67H.size = C.size from by
    have s : C.size = 67 := by rw [hC, List.size_toArray, Hdr.len _ (bodH_L h)]
    rw [s]; exact ⟨hd_info, rfl⟩)
  have K3 := Lib.hid (show C.all (·.oneCell') = true by rw [hC]; exact Hdr.one _)
  unfold FPostH at T
  rw [← hC] at T
  have HC := Lib.hid hC
  clear hC
  go_enter Tryz.func99, Tryz.ntmps99
  go_wp2_with fail
  refine T.out.mono ?_
  rintro r w1 (⟨hz, rfl, he1, ht1⟩ | ⟨hz, rfl, he1, ht1⟩)
  · have HE1 := Lib.hid he1
    have HT1 := Lib.hid ht1
    have HZ9 := Lib.hid hz
    have X1 := Lib.hid (ht1.heap HX.out hxe)
    have KK := Lib.hid (K.out (xH_zero hz).1)
    clear he1 ht1 hz T
    go_wp2_with (refine wpList_store_row rfl _ _ _ rfl x C rfl rfl 33 Z67H X1.out KK.out.1 KK.out.2 K3.out ?_)
    have h3 := setRow_heap w1 x Z67H C 33 (0, 0) X1.out
    have t4 : Turn (fun i => i = x) w1 (w1.setRow x C) := (Turn.refl _ _).setRow _ _ (fun _ => rfl)
    refine bodyPost_ret (results_none rfl _ _ _) rfl (.inl ⟨HZ9.out, rfl, ?_, HE1.out.turn t4 (fun h => hxe h.symm) (fun h => hxE h.symm) (fun i h => by rw [h]; exact HN.out), (HT1.out.mono (fun _ _ h => .inl h)).trans t4 (fun _ _ h => .inr h)⟩)
    unfold HAt
    rw [h3, HC.out]
  · have HE1 := Lib.hid he1
    have HT1 := Lib.hid ht1
    have HZ9 := Lib.hid hz
    clear he1 ht1 hz T
    dsimp only [pan]
    go_wp2_with fail
    exact ⟨rfl, .inr ⟨HZ9.out, rfl, HE1.out, HT1.out.mono (fun _ _ h => h.elim .inl (fun h => .inr (.inl h)))⟩⟩
set_option maxRecDepth 100000 in
set_option maxHeartbeats 4000000 in
theorem hread_any (A : Option Addr) (c : Nat) (b : List B8) (w : World) (hs : Sl w w.heap.size A (b.map bv)) (hA : A = none → c = 0) (hc : b.length ≤ c) (hlen : b.length ≤ 1099511627776) :
    Calls Tryz.prog 76 #[.slice A b.length c] w fun r w' => r = .returned (.tuple #[.agg (hreadV b).cells.toArray, .int .i64 ((hreadE b : Nat) : Int)]) ∧ Turn (fun _ => False) w w' := by
  have hmf : ∀ (fn : Fn) (first cap : Array Value) (w : World), (Instr.makeFunc fn first cap).run Tryz.prog w = .ok (.func fn first cap) w := fun _ _ _ _ => rfl
  have hzd := hd_zero
  obtain ⟨w2, hw2⟩ : ∃ w2, w2 = (w.alloc (.cells Z67H 33)).alloc (.cells Z67H 33) := ⟨_, rfl⟩
  have s2 : w2.heap.size = w.heap.size + 2 := by rw [hw2]; simp
  have t2 : Turn (fun _ => False) w w2 := by rw [hw2]; exact ((Turn.refl _ _).alloc _).alloc _
  have gr : w2.heap[w.heap.size]? = some (.cells Z67H 33 (0, 0)) := by rw [hw2]; exact heap_alloc2_old _ _ _
  have gx : w2.heap[w.heap.size + 1]? = some (.cells Z67H 33 (0, 0)) := by rw [hw2]; exact heap_alloc2_new _ _ _
  have T := Lib.hid (read_cap 99 (.pointer (some ⟨w.heap.size + 1, 0, none⟩)) A c b w2 (fun i => i = w2.heap.size + 1 ∨ i = w2.heap.size ∨ i = w.heap.size + 1) (fun i => w.heap.size ≤ i)
    (fun l w3 => xH b = 0 ∧ l = m5 b ∧ HAt w3 (w.heap.size + 1) (bodH b) ∧ Turn (fun i => i = w.heap.size + 1) w2 w3)
    (fun k w3 => xH b = k ∧ Turn (fun i => i = w.heap.size + 1) w2 w3) (fun _ _ => by kernel_rfl)
    ((SlN.of hs (N := fun i => w.heap.size ≤ i) (fun i hi => by omega)).turn t2 (fun _ h => h.elim) (fun _ _ h => h)) hA hc hlen (by omega)
    (by
      intro w1 t1 s1 e1
      refine (hread1_any (w2.heap.size + 1) w2.heap.size (w.heap.size + 1) _ b w1 e1 (fun i hi => .inr (by omega)) (t1.heap gx (fun h => h)) (by omega) (by omega) (.inl (by omega))).mono ?_
      rintro r w3 (⟨hz, rfl, hx, he, ht⟩ | ⟨hz, rfl, he, ht⟩)
      · exact ⟨ht.mono (fun i _ h => by omega), .inl ⟨rfl, _, he, hz, rfl, hx, (t1.mono (fun _ _ h => h.elim)).trans ht (fun i hi h => by omega)⟩⟩
      · exact ⟨ht.mono (fun i _ h => by omega), .inr ⟨rfl, _, hz, he, rfl, (t1.mono (fun _ _ h => h.elim)).trans ht (fun i hi h => by omega)⟩⟩))
  have GR := Lib.hid gr
  have T2 := Lib.hid t2
  have HS2 := Lib.hid s2
  clear hs hlen gr gx t2 s2
  go_enter Tryz.func76, Tryz.ntmps76
  go_upto_region 2 with fail
  change Code.wp _ _ _ _ ((w.alloc (.cells Z67H 33)).alloc (.cells Z67H 33))
  rw [← hw2]
  clear hw2
  go_wp2_with fail
  refine T.out.mono ?_
  rintro r w4 ⟨w3, ht4, (⟨l, ⟨hz, rfl, hx, ht3⟩, rfl⟩ | ⟨k, hk, ⟨hz, ht3⟩, rfl⟩)⟩
  · have G4 := Lib.hid (ht4.heap (ht3.heap GR.out (by omega)) (by have := HS2.out; omega))
    have X4 := Lib.hid (hx.turn ht4 (by have := HS2.out; omega))
    have T4 := Lib.hid (show Turn (fun _ => False) w w4 from (T2.out.trans ht3 (fun i hi h => by omega)).trans ht4 (fun i hi h => by have := HS2.out; omega))
    have HD := Lib.hid (bodH_L (xH_zero hz).1)
    have HZ9 := Lib.hid hz
    clear hx ht3 ht4 hz T
    by_cases hl : m5 b = []
    · have HIF := Lib.hid (show (if m5 b = [] then (0 : Int) else 3) = 0 by rw [if_pos hl])
      have HRE := Lib.hid (show hreadE b = 0 by unfold hreadE; rw [if_neg (by rw [HZ9.out]; omega), if_pos hl])
      have HRV := Lib.hid (show hreadV b = bodH b by unfold hreadV; rw [if_neg (by rw [HRE.out]; omega)])
      rw [HIF.out]
      clear HIF hl
      have hrow := X4.out.row HD.out
      obtain ⟨C, hC⟩ : ∃ C, C = (bodH b).cells.toArray := ⟨_, rfl⟩
      rw [← hC] at hrow
      have sC : C.size = 67 := by rw [hC, List.size_toArray, Hdr.len _ HD.out]
      have K1 := Lib.hid (show (Tryz.prog.info? 33).map (·.size) = some C.size by rw [sC]; exact hd_info)
      have K2 := Lib.hid (show Z67H.size = C.size by rw [sC]; rfl)
      have K3 := Lib.hid (show C.all (·.oneCell') = true by rw [hC]; exact Hdr.one _)
      have HC := Lib.hid hC
      have HSC := Lib.hid sC
      clear hC sC
      go_wp2_with (refine wpList_store_row rfl _ _ _ rfl w.heap.size C rfl rfl 33 Z67H G4.out K1.out K2.out K3.out ?_)
      have h3 := setRow_heap w4 w.heap.size Z67H C 33 (0, 0) G4.out
      have t5 : Turn (fun i => i = w.heap.size) w4 (w4.setRow w.heap.size C) := (Turn.refl _ _).setRow _ _ (fun _ => rfl)
      refine bodyPost_ret (v := .tuple #[.agg C, .int .i64 0]) ?_ rfl ⟨by rw [HRE.out, HRV.out, HC.out]; rfl, T4.out.trans t5 (fun i hi h => by omega)⟩
      exact results_hd Tryz.results76 _ _ w.heap.size _ _ rfl rfl h3 HSC.out
    · have HIF := Lib.hid (show (if m5 b = [] then (0 : Int) else 3) = 3 by rw [if_neg hl])
      have HRE := Lib.hid (show hreadE b = 3 by unfold hreadE; rw [if_neg (by rw [HZ9.out]; omega), if_neg hl])
      have HRV := Lib.hid (show hreadV b = HZ by unfold hreadV; rw [if_pos (by rw [HRE.out]; omega)])
      rw [HIF.out]
      clear HIF hl
      obtain ⟨CZ, hCZ⟩ : ∃ CZ, CZ = Z67H := ⟨_, rfl⟩
      have sZ : CZ.size = 67 := by rw [hCZ]; rfl
      have K1 := Lib.hid (show (Tryz.prog.info? 33).map (·.size) = some CZ.size by rw [sZ]; exact hd_info)
      have K2 := Lib.hid (show Z67H.size = CZ.size by rw [sZ]; rfl)
      have K3 := Lib.hid (show CZ.all (·.oneCell') = true by rw [hCZ, ← HZ_eq]; exact Hdr.one _)
      have HCZ := Lib.hid hCZ
      have HSZ := Lib.hid sZ
      clear hCZ sZ
      go_wp2_with (refine wpList_store_row rfl _ _ _ rfl w.heap.size CZ rfl (by rw [HCZ.out]; rfl) 33 Z67H G4.out K1.out K2.out K3.out ?_)
      have h3 := setRow_heap w4 w.heap.size Z67H CZ 33 (0, 0) G4.out
      have t5 : Turn (fun i => i = w.heap.size) w4 (w4.setRow w.heap.size CZ) := (Turn.refl _ _).setRow _ _ (fun _ => rfl)
      refine bodyPost_ret (v := .tuple #[.agg CZ, .int .i64 3]) ?_ rfl ⟨by rw [HRE.out, HRV.out, HCZ.out]; rfl, T4.out.trans t5 (fun i hi h => by omega)⟩
      exact results_hd Tryz.results76 _ _ w.heap.size _ _ rfl rfl h3 HSZ.out
  · have hRE : hreadE b = k := by unfold hreadE; rw [if_pos (by rw [hz]; exact hk), hz]
    have hRV : hreadV b = HZ := by unfold hreadV; rw [if_pos (by rw [hRE]; exact hk)]
    have G4 := Lib.hid (ht4.heap (ht3.heap GR.out (by omega)) (by have := HS2.out; omega))
    have T4 := Lib.hid (show Turn (fun _ => False) w w4 from (T2.out.trans ht3 (fun i hi h => by omega)).trans ht4 (fun i hi h => by have := HS2.out; omega))
    have HRE := Lib.hid hRE
    have HRV := Lib.hid hRV
    have hk1 : ((k : Int) == 0) = false := by simp; omega
    have hk2 : ((k : Int) != 0) = true := by simp; omega
    clear T hz ht3 ht4 hRE hRV hk
    obtain ⟨CZ, hCZ⟩ : ∃ CZ, CZ = Z67H := ⟨_, rfl⟩
    have sZ : CZ.size = 67 := by rw [hCZ]; rfl
    have K1 := Lib.hid (show (Tryz.prog.info? 33).map (·.size) = some CZ.size by rw [sZ]; exact hd_info)
    have K2 := Lib.hid (show Z67H.size = CZ.size by rw [sZ]; rfl)
    have K3 := Lib.hid (show CZ.all (·.oneCell') = true by rw [hCZ, ← HZ_eq]; exact Hdr.one _)
    have HCZ := Lib.hid hCZ
    have HSZ := Lib.hid sZ
    clear hCZ sZ
    go_wp2_with (refine wpList_store_row rfl _ _ _ rfl w.heap.size CZ rfl (by rw [HCZ.out]; rfl) 33 Z67H G4.out K1.out K2.out K3.out ?_)
    have h3 := setRow_heap w4 w.heap.size Z67H CZ 33 (0, 0) G4.out
    have t5 : Turn (fun i => i = w.heap.size) w4 (w4.setRow w.heap.size CZ) := (Turn.refl _ _).setRow _ _ (fun _ => rfl)
    refine bodyPost_ret (v := .tuple #[.agg CZ, .int .i64 (k : Int)]) ?_ rfl ⟨by rw [HRE.out, HRV.out, HCZ.out]; rfl, T4.out.trans t5 (fun i hi h => by omega)⟩
    exact results_hd Tryz.results76 _ _ w.heap.size _ _ rfl rfl h3 HSZ.out

end
section
set_option linter.unusedVariables false
set_option linter.unusedSimpArgs false

open Go.RowKit
attribute [local go_sem ↓] loadAt_hd loadAt_id
attribute [local go_sem] run_hdLoad run_idLoad rowOf_drew rowOf_drewN
theorem glob_turn {w w' : World} (h : Glob w) (t : Turn (fun _ => False) w w') : Glob w' :=
  ⟨Nat.le_trans h.1 t.size, fun i hi => t.cell (h.2.1 i hi) (fun h => h), fun i hi => t.cell (h.2.2 i hi) (fun h => h)⟩
theorem under_one (m : B8) (b : List B8) : underB m [b] = m :: longP b := by simp [underB, longB, longP]
theorem pH_le (e : Hdr) (hd : e.L) : (pH e).length ≤ 91 := by
  unfold pH
  split
  · rename_i h; exact formH_le e hd h
  · simp
set_option maxRecDepth 100000 in
set_option maxHeartbeats 4000000 in
theorem hcid_any (e : Hdr) (w : World) (hd : e.L) (hG : Glob w) :
    Calls Tryz.prog 81 #[.agg e.cells.toArray] w fun r w' => r = .returned (.agg ((hid e).map bv).toArray) ∧ Turn (fun _ => False) w w' := by
  have TP := Lib.hid (fun w => hput_any e w hd)
  have FL := Lib.hid (pH_le e hd)
  have HI := Lib.hid (show hid e = if okH e then dig (11 :: longP (formH e)) else zeros 32 from rfl)
  have HIL := Lib.hid (hid_len e)
  obtain ⟨C, hC⟩ : ∃ C, C = e.cells.toArray := ⟨_, rfl⟩
  rw [← hC] at TP ⊢
  obtain ⟨w1, hw1⟩ : ∃ w1, w1 = (w.alloc (.cells C 33)).alloc (.cells ZIdT 24) := ⟨_, rfl⟩
  have t1 : Turn (fun _ => False) w w1 := by rw [hw1]; exact ((Turn.refl _ _).alloc _).alloc _
  have e1 : HAt w1 w.heap.size e := by rw [hw1, hC]; exact heap_alloc2_old _ _ _
  have z1 : w1.heap[w.heap.size + 1]? = some (.cells ZIdT 24 (0, 0)) := by rw [hw1]; exact heap_alloc2_new _ _ _
  have r1 : rowOf w1 w.heap.size 0 67 = some C := by rw [hC]; exact e1.row hd
  obtain ⟨D, hD⟩ : ∃ D, D = ((hid e).map bv).toArray := ⟨_, rfl⟩
  have sD : D.size = 32 := by rw [hD]; simp [hid_len]
  have K1 := Lib.hid (show (Tryz.prog.info? 24).map (·.size) = some D.size by rw [sD]; kernel_rfl)
  have K2 := Lib.hid (show ZIdT.size = D.size by rw [sD]; rfl)
  have K3 := Lib.hid (show D.all (·.oneCell') = true by rw [hD]; exact all_oneCell_toArray (bv_one _))
  have HD := Lib.hid hD
  rw [← hD]
  have T1 := Lib.hid t1
  have Z1 := Lib.hid z1
  have GG := Lib.hid (fun (w' : World) (t : Turn (fun _ => False) w1 w') => show Glob w' from glob_turn (glob_turn hG t1) t)
  clear t1 e1 z1 hC sD hd hD hG
  by_cases hok : okH e
  · rw [decide_eq_true hok] at TP
    obtain ⟨F, hF⟩ : ∃ F, F = pH e := ⟨_, rfl⟩
    have hx := HI.out
    rw [if_pos hok, show formH e = pH e by unfold pH; rw [if_pos hok], ← hF] at hx
    have fl := FL.out
    rw [← hF] at TP fl
    have hdg : D = ((dig (underB 11 [F])).map bv).toArray := by rw [HD.out, hx, under_one]
    have U := Lib.hid (fun (g : Nat) (w : World) (hL : Lst w (some ⟨g, 0, none⟩) [F]) (hG : Glob w) => under_any 11 (some ⟨g, 0, none⟩) 1 [F] w hL hG (by rw [under_one]; simp [longP, wb_len]; omega) (by simp))
    rw [← hdg] at U
    clear hok hF hx hdg FL HI
    go_enter Tryz.func81, Tryz.ntmps81
    go_upto_region 1 with fail
    change Code.wp _ _ _ _ ((w.alloc (.cells C 33)).alloc (.cells ZIdT 24))
    rw [← hw1]
    clear hw1
    go_wp2_with (go_at_call 23; refine stop ?_)
    unfold Stop
    refine (TP.out w1).mono ?_
    rintro r w2 ⟨u2, rfl, o2, t2⟩
    obtain ⟨A2, c2, rfl, s2, -, hc2, ha2⟩ := own_sl o2
    have T2 := Lib.hid t2
    have L2 := Lib.hid (lst_one A2 F c2 (Bts.of_sl s2) hc2 22)
    have G2 := Lib.hid (glob_turn (GG.out w2 t2) ((Turn.refl (fun _ => False) w2).alloc (.cells #[.slice A2 F.length c2] 22)))
    have T3 := Lib.hid (t2.alloc (.cells #[.slice A2 F.length c2] 22))
    clear o2 s2 hc2 ha2 t2 r1
    go_wp2_with (go_at_call 77; refine stop ?_)
    unfold Stop
    refine (U.out w2.heap.size _ L2.out G2.out).mono ?_
    rintro r w7 ⟨rfl, b7⟩
    have T7 := Lib.hid (T3.out.trans (of_turn b7) (fun _ _ h => h))
    have Z7 := Lib.hid (T7.out.heap Z1.out (fun h => h))
    clear b7
    go_wp2_with (refine wpList_store_row rfl _ _ _ rfl (w.heap.size + 1) D rfl rfl _ ZIdT Z7.out K1.out K2.out K3.out ?_)
    have h3 := setRow_heap w7 (w.heap.size + 1) ZIdT D 24 (0, 0) Z7.out
    refine bodyPost_ret (v := .agg D) ?_ rfl ⟨rfl, (T1.out.trans T7.out (fun _ _ h => h)).trans ((Turn.refl (fun i => i = w.heap.size + 1) _).setRow _ _ (fun _ => rfl)) (fun i hi h => by have h' : i = w.heap.size + 1 := h; omega)⟩
    exact results_cell_row Tryz.results81 _ _ (w.heap.size + 1) _ D (0, 0) _ rfl h3 Tryz.underlying24 rfl K1.out
  · rw [decide_eq_false hok] at TP
    have hx := HI.out
    rw [if_neg hok] at hx
    have HDZ := Lib.hid (show D = ZIdT by rw [HD.out, hx]; rfl)
    clear hok hx FL HI
    go_enter Tryz.func81, Tryz.ntmps81
    go_upto_region 1 with fail
    change Code.wp _ _ _ _ ((w.alloc (.cells C 33)).alloc (.cells ZIdT 24))
    rw [← hw1]
    clear hw1
    go_wp2_with (go_at_call 23; refine stop ?_)
    unfold Stop
    refine (TP.out w1).mono ?_
    rintro r w7 ⟨u7, rfl, o7, t7⟩
    have T7 := Lib.hid t7
    have Z7 := Lib.hid (t7.heap Z1.out (fun h => h))
    clear t7 r1 o7
    go_wp2_with (refine wpList_store_row rfl _ _ _ rfl (w.heap.size + 1) D rfl (by rw [HDZ.out]; rfl) _ ZIdT Z7.out K1.out K2.out K3.out ?_)
    have h3 := setRow_heap w7 (w.heap.size + 1) ZIdT D 24 (0, 0) Z7.out
    refine bodyPost_ret (v := .agg D) ?_ rfl ⟨rfl, (T1.out.trans T7.out (fun _ _ h => h)).trans ((Turn.refl (fun i => i = w.heap.size + 1) _).setRow _ _ (fun _ => rfl)) (fun i hi h => by have h' : i = w.heap.size + 1 := h; omega)⟩
    exact results_cell_row Tryz.results81 _ _ (w.heap.size + 1) _ D (0, 0) _ rfl h3 Tryz.underlying24 rfl K1.out

end
end
end Go.Proofs.YthoaaieiiokcmaaGreatDoor
