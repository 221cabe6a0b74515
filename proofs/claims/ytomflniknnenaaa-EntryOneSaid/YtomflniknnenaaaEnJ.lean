/- 'EntryForms': its walk. -/
import Derived.Test.YtomflniknnenaaaEnI
set_option linter.unusedVariables false
set_option linter.unusedSimpArgs false
namespace Go.Proofs.Ytomflniknnenaaa
open Go.RowKit
attribute [local go_sem ↓] loadAt_en loadAt_id
attribute [local go_sem] run_enLoad run_idLoad rowOf_drew rowOf_drewN
theorem pE_yes {e : Ent} (h : okB e) : pE e = formE e := if_pos h
theorem pE_no {e : Ent} (h : ¬ okB e) : pE e = [] := if_neg h
set_option maxRecDepth 100000 in
theorem rput_e (e : Ent) (w : World) (hd : e.d.length = 32) (h : okB e) :
    Calls Try.prog 13 #[.agg e.cells.toArray] w fun r w' => ∃ u, r = .returned u ∧ w'.ownsRow w.heap.size 5 1 u (formE e).length ((formE e).map bv) ∧ Turn (fun _ => False) w w' := by
  obtain ⟨k, s, y, p, he, h1, h2, h3, h4, h5, h6⟩ := eN_of h
  have := rput_any k s e.d e.a y p w hd h2 h3 h4 h5 h6
  rw [fE_eq, ← he] at this
  exact this
set_option maxRecDepth 100000 in
set_option maxHeartbeats 8000000 in
theorem entryForms_any (e : Ent) (w : World) (hd : e.d.length = 32) :
    Calls Try.prog 3 #[.agg e.cells.toArray] w fun r w' => r = .returned (.bool true) ∧ Turn (fun _ => False) w w' := by
  have AW := Lib.hid awake_any
  have TP := Lib.hid (fun w => put_any e w hd)
  have TQ := Lib.hid (fun w => rright_any e w hd)
  have TR := Lib.hid (fun w => right_any e w hd)
  have TD := Lib.hid (fun w => decides_any e w hd)
  have TU := Lib.hid (fun w h => rput_e e w hd h)
  have hQ := fun w => eql_in_ent e e hd hd w
  rw [show decide (e = e) = true from decide_eq_true rfl] at hQ
  have FR := Lib.hid (fun h => form_read e hd h)
  have FL := Lib.hid (fun h => formE_le e hd h)
  obtain ⟨C, hC⟩ : ∃ C, C = e.cells.toArray := ⟨_, rfl⟩
  have FC := Lib.hid hC
  rw [← hC] at TP TQ TR TD TU hQ ⊢
  obtain ⟨w0, hw0⟩ : ∃ w0, w0 = w.alloc (.cells C 26) := ⟨_, rfl⟩
  have t0 : Turn (fun _ => False) w w0 := by rw [hw0]; exact (Turn.refl _ _).alloc _
  have e0 : EAt w0 w.heap.size e := by rw [hw0, hC]; exact heap_alloc_new _ _
  have RF := Lib.hid (show ∀ w' : World, Turn (fun _ => False) w0 w' → rowOf w' w.heap.size 0 37 = some C ∧ w'.cell? ⟨w.heap.size, 0, none⟩ = some (.int .i64 e.k) from fun w' t => by
    have g := e0.turn t (fun h => h)
    rw [hC]; exact ⟨g.row hd, (g.c hd).1⟩)
  have sC : C.size = 37 := by rw [hC, List.size_toArray, Ent.len _ hd]
  have K1 := Lib.hid (show (Try.prog.info? 26).map (·.size) = some C.size by rw [sC]; exact en_info)
  have K2 := Lib.hid (show Z37E.size = C.size by rw [sC]; rfl)
  have K3 := Lib.hid (show C.all (·.oneCell') = true by rw [hC]; exact Ent.one _)
  have HSC := Lib.hid sC
  have hzd := en_zero
  have HT0 := Lib.hid (Turn.refl (fun _ => False) w0)
  have T0 := Lib.hid t0
  clear t0 e0 hC sC hd
  by_cases hok : okB e
  · rw [decide_eq_true hok, pE_yes hok] at TP
    rw [decide_eq_true hok] at TQ TR
    rw [show decide (okB e ∧ e.k < 3) = decide (e.k < 3) by rw [decide_eq_decide]; exact ⟨fun h => h.2, fun h => ⟨hok, h⟩⟩] at TD
    obtain ⟨F, hF⟩ : ∃ F, F = formE e := ⟨_, rfl⟩
    have hfl := FL.out hok
    have TU := Lib.hid (fun w => TU.out w hok)
    obtain ⟨r1, r2⟩ := FR.out hok
    rw [← hF] at TP hfl TU r1 r2
    have RD := Lib.hid (fun (A : Option Addr) (c : Nat) (w' : World) (hs : Sl w' w'.heap.size A (F.map bv)) (hA : A = none → c = 0) (hc : F.length ≤ c) => read_any' A c F w' hs hA hc (by omega))
    rw [r1, r2, ← FC.out] at RD
    have HBY := Lib.hid (fun (X Y : Option Addr) (m n : Nat) (w' : World) (hx : Sl w' w'.heap.size X (F.map bv)) (hy : Sl w' w'.heap.size Y (F.map bv)) => show Calls Try.prog 12 #[.slice X F.length m, .slice Y F.length n] w' (fun e w'' => e = Ending.returned (.bool true) ∧ Turn (fun _ => False) w' w'') from (rbytes_any X Y m n _ _ F F w' hx hy (by unfold maxLen; omega) (by unfold maxLen; omega)).mono (fun e w'' ⟨h1, n, h2⟩ => ⟨by rw [h1]; simp, by rw [h2]; exact ⟨rfl, rfl, rfl, Nat.le_refl _, fun _ _ _ => rfl⟩⟩))
    clear r1 r2 hF hok FR FL FC
    obtain ⟨q, hq⟩ : ∃ q, decide (e.k < 3) = q := ⟨_, rfl⟩
    rw [hq] at TD
    cases q
    ·
      go_enter Try.func3, Try.ntmps3
      go_upto_region 1 with fail
      change Code.wp _ _ _ _ (w.alloc (.cells C 26))
      rw [← hw0]
      clear hw0
      obtain ⟨hr, hk⟩ := RF.out w0 HT0.out
      go_wp2_with (go_at_call 6; refine stop ?_)
      unfold Stop
      refine (TP.out w0).mono ?_
      rintro r w1 ⟨u, rfl, ho, t⟩
      have HT1 := Lib.hid (HT0.out.trans t (fun _ _ h => h))
      obtain ⟨A1, c1, rfl, s1, -, hc1, ha1⟩ := own_sl ho
      have S1 := Lib.hid s1
      have HA1 := Lib.hid ha1
      clear ho s1 ha1
      clear t hr hk
      obtain ⟨hr, hk⟩ := RF.out w1 HT1.out
      go_wp2_with (go_at_call 7; refine stop ?_)
      unfold Stop
      refine (TQ.out w1).mono ?_
      rintro r w2 ⟨rfl, t⟩
      have HT2 := Lib.hid (HT1.out.trans t (fun _ _ h => h))
      have S2 := Lib.hid ((t.sl S1.out (fun _ _ h => h)).more t.size)
      clear t hr hk
      obtain ⟨hr, hk⟩ := RF.out w2 HT2.out
      go_wp2_with (go_at_call 8; refine stop ?_)
      unfold Stop
      refine (TR.out w2).mono ?_
      rintro r w3 ⟨rfl, t⟩
      have HT3 := Lib.hid (HT2.out.trans t (fun _ _ h => h))
      have S3 := Lib.hid ((t.sl S2.out (fun _ _ h => h)).more t.size)
      clear t hr hk
      obtain ⟨hr, hk⟩ := RF.out w3 HT3.out
      go_wp2_with (go_at_call 9; refine stop ?_)
      unfold Stop
      refine (TD.out w3).mono ?_
      rintro r w4 ⟨rfl, t⟩
      have HT4 := Lib.hid (HT3.out.trans t (fun _ _ h => h))
      have S4 := Lib.hid ((t.sl S3.out (fun _ _ h => h)).more t.size)
      clear t hr hk
      obtain ⟨hr, hk⟩ := RF.out w4 HT4.out
      go_wp2_with (go_at_call 11; refine stop ?_)
      unfold Stop
      refine (RD.out A1 c1 w4 S4.out HA1.out hc1).mono ?_
      rintro r w5 ⟨rfl, t⟩
      have HT5 := Lib.hid (HT4.out.trans t (fun _ _ h => h))
      have S5 := Lib.hid ((t.sl S4.out (fun _ _ h => h)).more t.size)
      clear t hr hk
      have HA := Lib.hid (show (w5.alloc (.cells Z37E 26)).heap[w5.heap.size]? = some (.cells Z37E 26 (0, 0)) from heap_alloc_new _ _)
      go_upto_region 7 with (refine wpList_store_row rfl _ _ _ rfl w5.heap.size C rfl rfl 26 Z37E HA.out K1.out K2.out K3.out ?_)
      have t6 : Turn (fun _ => False) w5 ((w5.alloc (.cells Z37E 26)).setRow w5.heap.size C) := ((Turn.refl (fun _ => False) w5).alloc _).setRow _ _ (fun h => by omega)
      have r6 := setRow_heap (w5.alloc (.cells Z37E 26)) w5.heap.size Z37E C 26 (0, 0) HA.out
      obtain ⟨w6, hw6⟩ : ∃ w6, w6 = (w5.alloc (.cells Z37E 26)).setRow w5.heap.size C := ⟨_, rfl⟩
      change Code.wp _ _ _ _ ((w5.alloc (.cells Z37E 26)).setRow w5.heap.size C)
      rw [← hw6] at t6 r6 ⊢
      clear hw6
      have HT6 := Lib.hid (HT5.out.trans t6 (fun _ _ h => h))
      have S6 := Lib.hid ((t6.sl S5.out (fun _ _ h => h)).more t6.size)
      have R6 := Lib.hid (show ∀ w' : World, Turn (fun _ => False) w6 w' → rowOf w' w5.heap.size 0 37 = some C from fun w' t => by
        have g := t.heap r6 (fun h => h)
        rw [show C = C.toList.toArray by simp] at g ⊢
        have h := rowOf_block g 0 37 (by simp [HSC.out])
        rw [List.drop_zero, List.take_of_length_le (by simp [HSC.out])] at h
        exact h)
      have HT66 := Lib.hid (Turn.refl (fun _ => False) w6)
      clear t6 r6
      obtain ⟨hr, hk⟩ := RF.out w6 HT6.out
      go_wp2_with (go_at_call 13; refine stop ?_)
      unfold Stop
      refine (TU.out w6).mono ?_
      rintro r w7 ⟨u7, rfl, ho, t⟩
      have HT7 := Lib.hid (HT6.out.trans t (fun _ _ h => h))
      obtain ⟨A7, c7, rfl, s7, -, -, -⟩ := own_sl ho
      have S7 := Lib.hid s7
      have S71 := Lib.hid ((t.sl S6.out (fun _ _ h => h)).more t.size)
      have HT67 := Lib.hid t
      clear ho s7
      clear t hr hk
      obtain ⟨hr, hk⟩ := RF.out w7 HT7.out
      go_wp2_with (go_at_call 12; refine stop ?_)
      unfold Stop
      refine (HBY.out A1 A7 c1 c7 w7 S71.out S7.out).mono ?_
      rintro r w8 ⟨rfl, t⟩
      have HT8 := Lib.hid (HT7.out.trans t (fun _ _ h => h))
      have HT68 := Lib.hid (HT67.out.trans t (fun _ _ h => h))
      clear t hr hk
      obtain ⟨hr, hk⟩ := RF.out w8 HT8.out
      have hr2 := R6.out w8 HT68.out
      go_wp2_with (go_at_call 10; refine stop ?_)
      unfold Stop
      refine (AW.out w8).mono ?_
      rintro r w9 ⟨rfl, t⟩
      have HT9 := Lib.hid (HT8.out.trans t (fun _ _ h => h))
      clear t hr hr2 hk
      go_wp2
      go_ret
      exact ⟨rfl, T0.out.trans HT9.out (fun _ _ h => h)⟩
    ·
      go_enter Try.func3, Try.ntmps3
      go_upto_region 1 with fail
      change Code.wp _ _ _ _ (w.alloc (.cells C 26))
      rw [← hw0]
      clear hw0
      obtain ⟨hr, hk⟩ := RF.out w0 HT0.out
      go_wp2_with (go_at_call 6; refine stop ?_)
      unfold Stop
      refine (TP.out w0).mono ?_
      rintro r w1 ⟨u, rfl, ho, t⟩
      have HT1 := Lib.hid (HT0.out.trans t (fun _ _ h => h))
      obtain ⟨A1, c1, rfl, s1, -, hc1, ha1⟩ := own_sl ho
      have S1 := Lib.hid s1
      have HA1 := Lib.hid ha1
      clear ho s1 ha1
      clear t hr hk
      obtain ⟨hr, hk⟩ := RF.out w1 HT1.out
      go_wp2_with (go_at_call 7; refine stop ?_)
      unfold Stop
      refine (TQ.out w1).mono ?_
      rintro r w2 ⟨rfl, t⟩
      have HT2 := Lib.hid (HT1.out.trans t (fun _ _ h => h))
      have S2 := Lib.hid ((t.sl S1.out (fun _ _ h => h)).more t.size)
      clear t hr hk
      obtain ⟨hr, hk⟩ := RF.out w2 HT2.out
      go_wp2_with (go_at_call 8; refine stop ?_)
      unfold Stop
      refine (TR.out w2).mono ?_
      rintro r w3 ⟨rfl, t⟩
      have HT3 := Lib.hid (HT2.out.trans t (fun _ _ h => h))
      have S3 := Lib.hid ((t.sl S2.out (fun _ _ h => h)).more t.size)
      clear t hr hk
      obtain ⟨hr, hk⟩ := RF.out w3 HT3.out
      go_wp2_with (go_at_call 9; refine stop ?_)
      unfold Stop
      refine (TD.out w3).mono ?_
      rintro r w4 ⟨rfl, t⟩
      have HT4 := Lib.hid (HT3.out.trans t (fun _ _ h => h))
      have S4 := Lib.hid ((t.sl S3.out (fun _ _ h => h)).more t.size)
      clear t hr hk
      obtain ⟨hr, hk⟩ := RF.out w4 HT4.out
      go_wp2_with (go_at_call 11; refine stop ?_)
      unfold Stop
      refine (RD.out A1 c1 w4 S4.out HA1.out hc1).mono ?_
      rintro r w5 ⟨rfl, t⟩
      have HT5 := Lib.hid (HT4.out.trans t (fun _ _ h => h))
      have S5 := Lib.hid ((t.sl S4.out (fun _ _ h => h)).more t.size)
      clear t hr hk
      have HA := Lib.hid (show (w5.alloc (.cells Z37E 26)).heap[w5.heap.size]? = some (.cells Z37E 26 (0, 0)) from heap_alloc_new _ _)
      go_upto_region 7 with (refine wpList_store_row rfl _ _ _ rfl w5.heap.size C rfl rfl 26 Z37E HA.out K1.out K2.out K3.out ?_)
      have t6 : Turn (fun _ => False) w5 ((w5.alloc (.cells Z37E 26)).setRow w5.heap.size C) := ((Turn.refl (fun _ => False) w5).alloc _).setRow _ _ (fun h => by omega)
      have r6 := setRow_heap (w5.alloc (.cells Z37E 26)) w5.heap.size Z37E C 26 (0, 0) HA.out
      obtain ⟨w6, hw6⟩ : ∃ w6, w6 = (w5.alloc (.cells Z37E 26)).setRow w5.heap.size C := ⟨_, rfl⟩
      change Code.wp _ _ _ _ ((w5.alloc (.cells Z37E 26)).setRow w5.heap.size C)
      rw [← hw6] at t6 r6 ⊢
      clear hw6
      have HT6 := Lib.hid (HT5.out.trans t6 (fun _ _ h => h))
      have S6 := Lib.hid ((t6.sl S5.out (fun _ _ h => h)).more t6.size)
      have R6 := Lib.hid (show ∀ w' : World, Turn (fun _ => False) w6 w' → rowOf w' w5.heap.size 0 37 = some C from fun w' t => by
        have g := t.heap r6 (fun h => h)
        rw [show C = C.toList.toArray by simp] at g ⊢
        have h := rowOf_block g 0 37 (by simp [HSC.out])
        rw [List.drop_zero, List.take_of_length_le (by simp [HSC.out])] at h
        exact h)
      have HT66 := Lib.hid (Turn.refl (fun _ => False) w6)
      clear t6 r6
      obtain ⟨hr, hk⟩ := RF.out w6 HT6.out
      go_wp2_with (go_at_call 13; refine stop ?_)
      unfold Stop
      refine (TU.out w6).mono ?_
      rintro r w7 ⟨u7, rfl, ho, t⟩
      have HT7 := Lib.hid (HT6.out.trans t (fun _ _ h => h))
      obtain ⟨A7, c7, rfl, s7, -, -, -⟩ := own_sl ho
      have S7 := Lib.hid s7
      have S71 := Lib.hid ((t.sl S6.out (fun _ _ h => h)).more t.size)
      have HT67 := Lib.hid t
      clear ho s7
      clear t hr hk
      obtain ⟨hr, hk⟩ := RF.out w7 HT7.out
      go_wp2_with (go_at_call 12; refine stop ?_)
      unfold Stop
      refine (HBY.out A1 A7 c1 c7 w7 S71.out S7.out).mono ?_
      rintro r w8 ⟨rfl, t⟩
      have HT8 := Lib.hid (HT7.out.trans t (fun _ _ h => h))
      have HT68 := Lib.hid (HT67.out.trans t (fun _ _ h => h))
      clear t hr hk
      obtain ⟨hr, hk⟩ := RF.out w8 HT8.out
      have hr2 := R6.out w8 HT68.out
      go_wp2_with (go_at_call 10; refine stop ?_)
      unfold Stop
      refine (AW.out w8).mono ?_
      rintro r w9 ⟨rfl, t⟩
      have HT9 := Lib.hid (HT8.out.trans t (fun _ _ h => h))
      clear t hr hr2 hk
      go_wp2
      go_ret
      exact ⟨rfl, T0.out.trans HT9.out (fun _ _ h => h)⟩
  · rw [decide_eq_false hok, pE_no hok] at TP
    rw [decide_eq_false hok] at TQ TR
    rw [show decide (okB e ∧ e.k < 3) = false from decide_eq_false (fun h => hok h.1)] at TD
    clear hok FR FL FC TU
    go_enter Try.func3, Try.ntmps3
    go_upto_region 1 with fail
    change Code.wp _ _ _ _ (w.alloc (.cells C 26))
    rw [← hw0]
    clear hw0
    obtain ⟨hr, hk⟩ := RF.out w0 HT0.out
    go_wp2_with (go_at_call 6; refine stop ?_)
    unfold Stop
    refine (TP.out w0).mono ?_
    rintro r w1 ⟨u, rfl, ho, t⟩
    have HT1 := Lib.hid (HT0.out.trans t (fun _ _ h => h))
    obtain ⟨A1, c1, rfl, -, -, -, -⟩ := own_sl ho
    clear ho
    clear t hr hk
    obtain ⟨hr, hk⟩ := RF.out w1 HT1.out
    go_wp2_with (go_at_call 7; refine stop ?_)
    unfold Stop
    refine (TQ.out w1).mono ?_
    rintro r w2 ⟨rfl, t⟩
    have HT2 := Lib.hid (HT1.out.trans t (fun _ _ h => h))
    clear t hr hk
    obtain ⟨hr, hk⟩ := RF.out w2 HT2.out
    go_wp2_with (go_at_call 8; refine stop ?_)
    unfold Stop
    refine (TR.out w2).mono ?_
    rintro r w3 ⟨rfl, t⟩
    have HT3 := Lib.hid (HT2.out.trans t (fun _ _ h => h))
    clear t hr hk
    obtain ⟨hr, hk⟩ := RF.out w3 HT3.out
    go_wp2_with (go_at_call 9; refine stop ?_)
    unfold Stop
    refine (TD.out w3).mono ?_
    rintro r w4 ⟨rfl, t⟩
    have HT4 := Lib.hid (HT3.out.trans t (fun _ _ h => h))
    clear t hr hk
    obtain ⟨hr, hk⟩ := RF.out w4 HT4.out
    go_wp2_with (go_at_call 10; refine stop ?_)
    unfold Stop
    refine (AW.out w4).mono ?_
    rintro r w5 ⟨rfl, t⟩
    have HT5 := Lib.hid (HT4.out.trans t (fun _ _ h => h))
    clear t hr hk
    go_wp2
    go_ret
    exact ⟨rfl, T0.out.trans HT5.out (fun _ _ h => h)⟩
end Go.Proofs.Ytomflniknnenaaa
