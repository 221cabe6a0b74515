/- The document's Put of letters. -/
import Derived.Test.YtaicpclkdpbacaaLtP
set_option linter.unusedVariables false
set_option linter.unusedSimpArgs false
namespace Go.Proofs.Ytaicpclkdpbacaa
open Go.RowKit
set_option maxRecDepth 100000 in
set_option maxHeartbeats 16000000 in
theorem rlput_any (A S : Option Addr) (cA cS : Nat) (N : Nat → Prop) (l : Ltr) (w : World) (h : LtN w N A cA S cS l) (hok : okL l = true) :
    Calls Try.prog 14 #[ltV A cA S cS l] w fun e w' => ∃ v, e = .returned v ∧ w'.ownsRow w.heap.size 5 1 v (formL l).length ((formL l).map bv) ∧ Turn (fun _ => False) w w' := by
  obtain ⟨i0, hi, hz0, hz1, hz2⟩ := info_parts info_u8
  obtain ⟨⟨k1, k5, pt, px, py, pz, n16, nb⟩, hits, us⟩ := okL_parts hok
  unfold inP at pt px py pz
  obtain ⟨k, hk⟩ : ∃ k : Nat, l.k = (k : Int) := ⟨l.k.toNat, by omega⟩
  obtain ⟨t, ht⟩ : ∃ t : Nat, l.t = (t : Int) := ⟨l.t.toNat, by omega⟩
  obtain ⟨x, hx⟩ : ∃ x : Nat, l.x = (x : Int) := ⟨l.x.toNat, by omega⟩
  obtain ⟨y, hy⟩ : ∃ y : Nat, l.y = (y : Int) := ⟨l.y.toNat, by omega⟩
  obtain ⟨z, hz⟩ : ∃ z : Nat, l.z = (z : Int) := ⟨l.z.toNat, by omega⟩
  obtain ⟨w0, hw0⟩ : ∃ w0, w0 = w.alloc (.cells (ltC A cA S cS l) 25) := ⟨_, rfl⟩
  have hT0 : Turn (fun _ => False) w w0 := by rw [hw0]; exact (Turn.refl _ _).alloc _
  have hg0 : LBx w0 w.heap.size A cA S cS l := by rw [hw0]; exact LBx.new _ _ _ _ _ _
  have hgs : w.heap.size < w0.heap.size := lt_of_block hg0
  have hk9 : (numB k).length ≤ 9 := numB_le (by omega)
  have ht9 : (numB t).length ≤ 9 := numB_le (by omega)
  have hx9 : (numB x).length ≤ 9 := numB_le (by omega)
  have hy9 : (numB y).length ≤ 9 := numB_le (by omega)
  have hz9 : (numB z).length ≤ 9 := numB_le (by omega)
  have hs9 : (numB (yesN l.s)).length ≤ 9 := numB_le (by unfold yesN; split <;> omega)
  have hi9 : (numB l.its.length).length ≤ 9 := numB_le (by omega)
  have hb9 : (numB l.b.length).length ≤ 9 := numB_le (by omega)
  have NK := Lib.hid (fun w => lnum_any k w (by omega))
  have NT := Lib.hid (fun w => lnum_any t w (by omega))
  have NX := Lib.hid (fun w => lnum_any x w (by omega))
  have NY := Lib.hid (fun w => lnum_any y w (by omega))
  have NZ := Lib.hid (fun w => lnum_any z w (by omega))
  have NS := Lib.hid (fun w => lyes_any l.s w)
  have NI := Lib.hid (fun w => lnum_any l.its.length w (by omega))
  have NB := Lib.hid (fun w => lnum_any l.b.length w (by omega))
  have NN := Lib.hid (fun (n : Nat) (hn : n ≤ 1099511627776) w => lnum_any n w hn)
  have HT0 := Lib.hid hT0
  have H0 := Lib.hid (h.quiet hT0)
  have HITS := Lib.hid hits
  have HF := Lib.hid (show formL l = (numB k ++ numB t) ++ (if k = 1 then numB x ++ numB y else if k = 2 then numB (yesN l.s) else if k = 3 then numB x ++ (numB y ++ (numB z ++ (numB l.its.length ++ itsF l.its))) else if k = 4 then numB (yesN l.s) ++ (numB x ++ numB z) else numB x ++ (numB y ++ (numB l.b.length ++ l.b))) by
    unfold formL headF
    rw [hk, ht, hx, hy, hz]
    have e1 : ((k : Int) = 1) = (k = 1) := by apply propext; omega
    have e2 : ((k : Int) = 2) = (k = 2) := by apply propext; omega
    have e3 : ((k : Int) = 3) = (k = 3) := by apply propext; omega
    have e4 : ((k : Int) = 4) = (k = 4) := by apply propext; omega
    simp only [e1, e2, e3, e4, Int.toNat_natCast])
  obtain ⟨l0, hl0⟩ : ∃ l0 : Ltr, l0 = ⟨(k : Int), (t : Int), (x : Int), (y : Int), (z : Int), l.s, l.its, l.b⟩ := ⟨_, rfl⟩
  have hcc : ltC A cA S cS l = #[.int .i64 (k : Int), .int .i64 (t : Int), .int .i64 (x : Int), .int .i64 (y : Int), .int .i64 (z : Int), .bool l.s, .slice A l.its.length cA, .slice S l.b.length cS] := by unfold ltC; rw [hk, ht, hx, hy, hz]
  have CF := Lib.hid (show ∀ w' : World, Turn (fun _ => False) w0 w' → w'.cell? ⟨w.heap.size, 0, none⟩ = some (.int .i64 (k : Int)) ∧ w'.cell? ⟨w.heap.size, 1, none⟩ = some (.int .i64 (t : Int)) ∧ w'.cell? ⟨w.heap.size, 2, none⟩ = some (.int .i64 (x : Int)) ∧ w'.cell? ⟨w.heap.size, 3, none⟩ = some (.int .i64 (y : Int)) ∧ w'.cell? ⟨w.heap.size, 4, none⟩ = some (.int .i64 (z : Int)) ∧ w'.cell? ⟨w.heap.size, 5, none⟩ = some (.bool l.s) ∧ w'.cell? ⟨w.heap.size, 6, none⟩ = some (.slice A l.its.length cA) ∧ w'.cell? ⟨w.heap.size, 7, none⟩ = some (.slice S l.b.length cS) from fun w' tq => by
    have g := (hg0.turn tq (fun h => h)).cells
    rw [hk, ht, hx, hy, hz] at g
    exact g)
  have HWS := Lib.hid (fun (w' : World) (k : Stp w0.drew w') => show Turn (fun _ => False) w0 w' from Turn.of_below (stp_start k (Below.refl _ _)))
  unfold ltV
  rw [hcc]
  rw [hcc] at hw0
  have HK := Lib.hid (show 1 ≤ k ∧ k ≤ 5 by omega)
  clear h hT0 hg0 hits us hl0 l0 hcc hk ht hx hy hz k1 k5 pt px py pz hok
  go_enter Try.func14, Try.ntmps14
  go_upto_region 1 with fail
  change Code.wp _ _ _ _ (w.alloc (.cells #[.int .i64 (k : Int), .int .i64 (t : Int), .int .i64 (x : Int), .int .i64 (y : Int), .int .i64 (z : Int), .bool l.s, .slice A l.its.length cA, .slice S l.b.length cS] 25))
  rw [← hw0]
  clear hw0
  refine wp_region_rel_tail 6 114 (by kernel_rfl) (by kernel_rfl) Stp [.one ?_, .one ?_, .rel (fun v w => w.ownsRow w0.heap.size 5 1 v (numB k).length ((numB k).map bv)), .one ?_, .one ?_, .rel (fun v w => w.ownsRow w0.heap.size 5 1 v (numB t).length ((numB t).map bv))] (by kernel_rfl) rfl (by kernel_rfl) Stp.refl Stp.trans ⟨fun v w w' h1 h2 => own_below h1 h2, fun v w w' h1 h2 => own_below h1 h2, trivial⟩ ?main
  case main =>
  simp only [List.take_succ_cons, List.take_zero, List.drop_succ_cons, List.drop_zero]
  iterate 1
    refine wpR_one (A' := ?_) Stp.refl (by rfl) _ rfl 114 (by rfl) (by rfl) ?_ ?_ ?_
    rotate_left 1
    · simp only [Act.put, List.setIfInBounds_toArray, List.set_cons_zero, List.set_cons_succ]; rfl
    · intro w1 hs hf K hK
      go_big_quiet_op
      first
        | go_big_quiet_on
        | (refine ⟨_, fun _ _ => rfl, ?_⟩; go_big_quiet_on)
      rfl
  refine wpR_one (A' := ?_) Stp.refl (by rfl) _ rfl 114 (by rfl) (by rfl) ?_ ?_ ?_
  rotate_left 1
  · simp only [Act.put, List.setIfInBounds_toArray, List.set_cons_zero, List.set_cons_succ]; rfl
  · intro w1 hs hf K hK
    refine cls_load_cell 3 (.tmp 5) rfl ⟨w.heap.size, 0, none⟩ rfl (.int .i64 (k : Int)) (fun w h => by simp [go_sem, h]) (fun w2 h2 => (CF.out w2 (HWS.out w2 (Stp.trans _ _ _ hs h2))).1) ?_
    refine hK _ ?_
    simp only [Act.put, List.setIfInBounds_toArray, List.set_cons_zero, List.set_cons_succ]
    rfl
  refine wpR_rel (A' := ?_) (by rfl) ?_ ?_ ?_
  · intro w1 hs hf
    have hz : w0.heap.size ≤ w1.heap.size := Below.size (w := w0.drew) hs
    refine does_call (w' := w1) (f := 30) (args := #[.int .i64 (k : Int)]) (by kernel_rfl) ((NK.out w1).mono ?_)
    rintro e w3 ⟨v, rfl, ho, h3⟩
    exact ⟨v, rfl, own_more ho hz, turn_stp' h3⟩
  rotate_left 1
  · intro x
    simp only [Act.put, List.setIfInBounds_toArray, List.set_cons_zero, List.set_cons_succ]; rfl
  intro x7
  iterate 1
    refine wpR_one (A' := ?_) Stp.refl (by rfl) _ rfl 114 (by rfl) (by rfl) ?_ ?_ ?_
    rotate_left 1
    · simp only [Act.put, List.setIfInBounds_toArray, List.set_cons_zero, List.set_cons_succ]; rfl
    · intro w1 hs hf K hK
      go_big_quiet_op
      first
        | go_big_quiet_on
        | (refine ⟨_, fun _ _ => rfl, ?_⟩; go_big_quiet_on)
      rfl
  refine wpR_one (A' := ?_) Stp.refl (by rfl) _ rfl 114 (by rfl) (by rfl) ?_ ?_ ?_
  rotate_left 1
  · simp only [Act.put, List.setIfInBounds_toArray, List.set_cons_zero, List.set_cons_succ]; rfl
  · intro w1 hs hf K hK
    refine cls_load_cell 3 (.tmp 8) rfl ⟨w.heap.size, 1, none⟩ rfl (.int .i64 (t : Int)) (fun w h => by simp [go_sem, h]) (fun w2 h2 => (CF.out w2 (HWS.out w2 (Stp.trans _ _ _ hs h2))).2.1) ?_
    refine hK _ ?_
    simp only [Act.put, List.setIfInBounds_toArray, List.set_cons_zero, List.set_cons_succ]
    rfl
  refine wpR_rel (A' := ?_) (by rfl) ?_ ?_ ?_
  · intro w1 hs hf
    have hz : w0.heap.size ≤ w1.heap.size := Below.size (w := w0.drew) hs
    refine does_call (w' := w1) (f := 30) (args := #[.int .i64 (t : Int)]) (by kernel_rfl) ((NT.out w1).mono ?_)
    rintro e w3 ⟨v, rfl, ho, h3⟩
    exact ⟨v, rfl, own_more ho hz, turn_stp' h3⟩
  rotate_left 1
  · intro x
    simp only [Act.put, List.setIfInBounds_toArray, List.set_cons_zero, List.set_cons_succ]; rfl
  intro x10
  intro w1 hs1 hf
  obtain ⟨h10, h7, -⟩ := hf
  obtain ⟨A1, cc1, rfl, sl1, -, hc1, ha1⟩ := own_sl h10
  have HM1 := Lib.hid (HWS.out w1 hs1)
  have O1 := Lib.hid h7
  have S1 := Lib.hid sl1
  have AN1 := Lib.hid ha1
  clear h7 h10 sl1 hc1 ha1 hs1
  refine wpList_append_any_at (o := ⟨some 11, _, _, _, _, _⟩) rfl _ _ 23 rfl w0.heap.size 5 i0 (.int .u8 0) 1 Try.underlying23 hi hz0 hz1 hz2 rfl _ (numB k).length _ rfl O1.out A1 _ cc1 ((numB t).map bv) rfl AN1.out (by rw [List.length_map]) (fun j u hu => (S1.out j u hu).elim fun ad h => ⟨ad, h.1, h.2.2⟩) (bv_one _) (by unfold maxLen; omega) (by omega) (HM1.out.size) ?_
  intro vH wH g1 g2 g3
  obtain ⟨XH, hXH⟩ : ∃ X, X = (numB k) ++ (numB t) := ⟨_, rfl⟩
  have hxH : XH.length ≤ 18 := by rw [hXH, List.length_append]; omega
  have HXH := Lib.hid hXH
  have HOH := Lib.hid (show wH.ownsRow w0.heap.size 5 1 vH XH.length (XH.map bv) by rw [hXH, List.length_append, List.map_append]; exact g1)
  have HTH := Lib.hid (HM1.out.grown g2 (fun i hi e => by have := (O1.out.lt i e.symm).1; omega))
  clear g1 g2 g3 hXH
  obtain ⟨c0, c1, c2, c3, c4, c5, c6, c7⟩ := CF.out wH HTH.out
  have hks : k = 1 ∨ k = 2 ∨ k = 3 ∨ k = 4 ∨ k = 5 := by have := HK.out; omega
  rcases hks with rfl | rfl | rfl | rfl | rfl
  · go_wp2_with fail
    refine (NX.out _).mono ?_
    rintro r m2 ⟨u2, rfl, om, tm⟩
    obtain ⟨A2, cc2, rfl, sl, -, hc, ha⟩ := own_sl om
    have O2 := Lib.hid (tm.own HOH.out (fun _ _ h => h))
    have S2 := Lib.hid sl
    have AN2 := Lib.hid ha
    have HM2 := Lib.hid (HTH.out.trans tm (fun _ _ h => h))
    clear om tm sl hc ha c0 c1 c2 c3 c4 c5 c6 c7 HOH HTH
    go_wp2_with (at_builtin; refine stop ?_)
    unfold Stop
    refine wpList_append_any_at (o := ⟨some 32, _, _, _, _, _⟩) rfl _ _ 23 rfl w0.heap.size 5 i0 (.int .u8 0) 1 Try.underlying23 hi hz0 hz1 hz2 rfl _ XH.length _ rfl O2.out A2 _ cc2 ((numB x).map bv) rfl AN2.out (by rw [List.length_map]) (fun j u hu => (S2.out j u hu).elim fun ad h => ⟨ad, h.1, h.2.2⟩) (bv_one _) (by unfold maxLen; omega) (by omega) (HM2.out.size) ?_
    intro v2 w2 g1 g2 g3
    obtain ⟨X2, hX2⟩ : ∃ X, X = XH ++ (numB x) := ⟨_, rfl⟩
    have hx2 : X2.length ≤ 27 := by rw [hX2, List.length_append]; omega
    have HX2 := Lib.hid hX2
    have HO2 := Lib.hid (show w2.ownsRow w0.heap.size 5 1 v2 X2.length (X2.map bv) by rw [hX2, List.length_append, List.map_append]; exact g1)
    have HT2 := Lib.hid (HM2.out.grown g2 (fun i hi e => by have := (O2.out.lt i e.symm).1; omega))
    clear g1 g2 g3 hX2
    obtain ⟨c0, c1, c2, c3, c4, c5, c6, c7⟩ := CF.out w2 HT2.out
    go_wp2_with fail
    refine (NY.out _).mono ?_
    rintro r m3 ⟨u3, rfl, om, tm⟩
    obtain ⟨A3, cc3, rfl, sl, -, hc, ha⟩ := own_sl om
    have O3 := Lib.hid (tm.own HO2.out (fun _ _ h => h))
    have S3 := Lib.hid sl
    have AN3 := Lib.hid ha
    have HM3 := Lib.hid (HT2.out.trans tm (fun _ _ h => h))
    clear om tm sl hc ha c0 c1 c2 c3 c4 c5 c6 c7 HO2 HT2
    go_wp2_with (at_builtin; refine stop ?_)
    unfold Stop
    refine wpList_append_any_at (o := ⟨some 45, _, _, _, _, _⟩) rfl _ _ 23 rfl w0.heap.size 5 i0 (.int .u8 0) 1 Try.underlying23 hi hz0 hz1 hz2 rfl _ X2.length _ rfl O3.out A3 _ cc3 ((numB y).map bv) rfl AN3.out (by rw [List.length_map]) (fun j u hu => (S3.out j u hu).elim fun ad h => ⟨ad, h.1, h.2.2⟩) (bv_one _) (by unfold maxLen; omega) (by omega) (HM3.out.size) ?_
    intro v3 w3 g1 g2 g3
    obtain ⟨X3, hX3⟩ : ∃ X, X = X2 ++ (numB y) := ⟨_, rfl⟩
    have hx3 : X3.length ≤ 36 := by rw [hX3, List.length_append]; omega
    have HX3 := Lib.hid hX3
    have HO3 := Lib.hid (show w3.ownsRow w0.heap.size 5 1 v3 X3.length (X3.map bv) by rw [hX3, List.length_append, List.map_append]; exact g1)
    have HT3 := Lib.hid (HM3.out.grown g2 (fun i hi e => by have := (O3.out.lt i e.symm).1; omega))
    clear g1 g2 g3 hX3
    obtain ⟨c0, c1, c2, c3, c4, c5, c6, c7⟩ := CF.out w3 HT3.out
    go_wp2
    go_ret
    refine ⟨_, rfl, ?_, HT0.out.trans HT3.out (fun _ _ h => h)⟩
    have h := own_more HO3.out (base' := w.heap.size) HT0.out.size
    rw [show formL l = X3 by rw [HF.out]; simp [HX3.out, HX2.out, HXH.out]]
    exact h
  · go_wp2_with fail
    refine (NS.out _).mono ?_
    rintro r m2 ⟨u2, rfl, om, tm⟩
    obtain ⟨A2, cc2, rfl, sl, -, hc, ha⟩ := own_sl om
    have O2 := Lib.hid (tm.own HOH.out (fun _ _ h => h))
    have S2 := Lib.hid sl
    have AN2 := Lib.hid ha
    have HM2 := Lib.hid (HTH.out.trans tm (fun _ _ h => h))
    clear om tm sl hc ha c0 c1 c2 c3 c4 c5 c6 c7 HOH HTH
    go_wp2_with (at_builtin; refine stop ?_)
    unfold Stop
    refine wpList_append_any_at (o := ⟨some 24, _, _, _, _, _⟩) rfl _ _ 23 rfl w0.heap.size 5 i0 (.int .u8 0) 1 Try.underlying23 hi hz0 hz1 hz2 rfl _ XH.length _ rfl O2.out A2 _ cc2 ((numB (yesN l.s)).map bv) rfl AN2.out (by rw [List.length_map]) (fun j u hu => (S2.out j u hu).elim fun ad h => ⟨ad, h.1, h.2.2⟩) (bv_one _) (by unfold maxLen; omega) (by omega) (HM2.out.size) ?_
    intro v2 w2 g1 g2 g3
    obtain ⟨X2, hX2⟩ : ∃ X, X = XH ++ (numB (yesN l.s)) := ⟨_, rfl⟩
    have hx2 : X2.length ≤ 27 := by rw [hX2, List.length_append]; omega
    have HX2 := Lib.hid hX2
    have HO2 := Lib.hid (show w2.ownsRow w0.heap.size 5 1 v2 X2.length (X2.map bv) by rw [hX2, List.length_append, List.map_append]; exact g1)
    have HT2 := Lib.hid (HM2.out.grown g2 (fun i hi e => by have := (O2.out.lt i e.symm).1; omega))
    clear g1 g2 g3 hX2
    obtain ⟨c0, c1, c2, c3, c4, c5, c6, c7⟩ := CF.out w2 HT2.out
    go_wp2
    go_ret
    refine ⟨_, rfl, ?_, HT0.out.trans HT2.out (fun _ _ h => h)⟩
    have h := own_more HO2.out (base' := w.heap.size) HT0.out.size
    rw [show formL l = X2 by rw [HF.out]; simp [HX2.out, HXH.out]]
    exact h
  · go_wp2_with fail
    refine (NX.out _).mono ?_
    rintro r m2 ⟨u2, rfl, om, tm⟩
    obtain ⟨A2, cc2, rfl, sl, -, hc, ha⟩ := own_sl om
    have O2 := Lib.hid (tm.own HOH.out (fun _ _ h => h))
    have S2 := Lib.hid sl
    have AN2 := Lib.hid ha
    have HM2 := Lib.hid (HTH.out.trans tm (fun _ _ h => h))
    clear om tm sl hc ha c0 c1 c2 c3 c4 c5 c6 c7 HOH HTH
    go_wp2_with (at_builtin; refine stop ?_)
    unfold Stop
    refine wpList_append_any_at (o := ⟨some 32, _, _, _, _, _⟩) rfl _ _ 23 rfl w0.heap.size 5 i0 (.int .u8 0) 1 Try.underlying23 hi hz0 hz1 hz2 rfl _ XH.length _ rfl O2.out A2 _ cc2 ((numB x).map bv) rfl AN2.out (by rw [List.length_map]) (fun j u hu => (S2.out j u hu).elim fun ad h => ⟨ad, h.1, h.2.2⟩) (bv_one _) (by unfold maxLen; omega) (by omega) (HM2.out.size) ?_
    intro v2 w2 g1 g2 g3
    obtain ⟨X2, hX2⟩ : ∃ X, X = XH ++ (numB x) := ⟨_, rfl⟩
    have hx2 : X2.length ≤ 27 := by rw [hX2, List.length_append]; omega
    have HX2 := Lib.hid hX2
    have HO2 := Lib.hid (show w2.ownsRow w0.heap.size 5 1 v2 X2.length (X2.map bv) by rw [hX2, List.length_append, List.map_append]; exact g1)
    have HT2 := Lib.hid (HM2.out.grown g2 (fun i hi e => by have := (O2.out.lt i e.symm).1; omega))
    clear g1 g2 g3 hX2
    obtain ⟨c0, c1, c2, c3, c4, c5, c6, c7⟩ := CF.out w2 HT2.out
    go_wp2_with fail
    refine (NY.out _).mono ?_
    rintro r m3 ⟨u3, rfl, om, tm⟩
    obtain ⟨A3, cc3, rfl, sl, -, hc, ha⟩ := own_sl om
    have O3 := Lib.hid (tm.own HO2.out (fun _ _ h => h))
    have S3 := Lib.hid sl
    have AN3 := Lib.hid ha
    have HM3 := Lib.hid (HT2.out.trans tm (fun _ _ h => h))
    clear om tm sl hc ha c0 c1 c2 c3 c4 c5 c6 c7 HO2 HT2
    go_wp2_with (at_builtin; refine stop ?_)
    unfold Stop
    refine wpList_append_any_at (o := ⟨some 45, _, _, _, _, _⟩) rfl _ _ 23 rfl w0.heap.size 5 i0 (.int .u8 0) 1 Try.underlying23 hi hz0 hz1 hz2 rfl _ X2.length _ rfl O3.out A3 _ cc3 ((numB y).map bv) rfl AN3.out (by rw [List.length_map]) (fun j u hu => (S3.out j u hu).elim fun ad h => ⟨ad, h.1, h.2.2⟩) (bv_one _) (by unfold maxLen; omega) (by omega) (HM3.out.size) ?_
    intro v3 w3 g1 g2 g3
    obtain ⟨X3, hX3⟩ : ∃ X, X = X2 ++ (numB y) := ⟨_, rfl⟩
    have hx3 : X3.length ≤ 36 := by rw [hX3, List.length_append]; omega
    have HX3 := Lib.hid hX3
    have HO3 := Lib.hid (show w3.ownsRow w0.heap.size 5 1 v3 X3.length (X3.map bv) by rw [hX3, List.length_append, List.map_append]; exact g1)
    have HT3 := Lib.hid (HM3.out.grown g2 (fun i hi e => by have := (O3.out.lt i e.symm).1; omega))
    clear g1 g2 g3 hX3
    obtain ⟨c0, c1, c2, c3, c4, c5, c6, c7⟩ := CF.out w3 HT3.out
    go_wp2_with fail
    refine (NZ.out _).mono ?_
    rintro r m4 ⟨u4, rfl, om, tm⟩
    obtain ⟨A4, cc4, rfl, sl, -, hc, ha⟩ := own_sl om
    have O4 := Lib.hid (tm.own HO3.out (fun _ _ h => h))
    have S4 := Lib.hid sl
    have AN4 := Lib.hid ha
    have HM4 := Lib.hid (HT3.out.trans tm (fun _ _ h => h))
    clear om tm sl hc ha c0 c1 c2 c3 c4 c5 c6 c7 HO3 HT3
    go_wp2_with (at_builtin; refine stop ?_)
    unfold Stop
    refine wpList_append_any_at (o := ⟨some 58, _, _, _, _, _⟩) rfl _ _ 23 rfl w0.heap.size 5 i0 (.int .u8 0) 1 Try.underlying23 hi hz0 hz1 hz2 rfl _ X3.length _ rfl O4.out A4 _ cc4 ((numB z).map bv) rfl AN4.out (by rw [List.length_map]) (fun j u hu => (S4.out j u hu).elim fun ad h => ⟨ad, h.1, h.2.2⟩) (bv_one _) (by unfold maxLen; omega) (by omega) (HM4.out.size) ?_
    intro v4 w4 g1 g2 g3
    obtain ⟨X4, hX4⟩ : ∃ X, X = X3 ++ (numB z) := ⟨_, rfl⟩
    have hx4 : X4.length ≤ 45 := by rw [hX4, List.length_append]; omega
    have HX4 := Lib.hid hX4
    have HO4 := Lib.hid (show w4.ownsRow w0.heap.size 5 1 v4 X4.length (X4.map bv) by rw [hX4, List.length_append, List.map_append]; exact g1)
    have HT4 := Lib.hid (HM4.out.grown g2 (fun i hi e => by have := (O4.out.lt i e.symm).1; omega))
    clear g1 g2 g3 hX4
    obtain ⟨c0, c1, c2, c3, c4, c5, c6, c7⟩ := CF.out w4 HT4.out
    go_wp2_with fail
    refine (NI.out _).mono ?_
    rintro r m5 ⟨u5, rfl, om, tm⟩
    obtain ⟨A5, cc5, rfl, sl, -, hc, ha⟩ := own_sl om
    have O5 := Lib.hid (tm.own HO4.out (fun _ _ h => h))
    have S5 := Lib.hid sl
    have AN5 := Lib.hid ha
    have HM5 := Lib.hid (HT4.out.trans tm (fun _ _ h => h))
    clear om tm sl hc ha c0 c1 c2 c3 c4 c5 c6 c7 HO4 HT4
    go_wp2_with (at_builtin; refine stop ?_)
    unfold Stop
    refine wpList_append_any_at (o := ⟨some 67, _, _, _, _, _⟩) rfl _ _ 23 rfl w0.heap.size 5 i0 (.int .u8 0) 1 Try.underlying23 hi hz0 hz1 hz2 rfl _ X4.length _ rfl O5.out A5 _ cc5 ((numB l.its.length).map bv) rfl AN5.out (by rw [List.length_map]) (fun j u hu => (S5.out j u hu).elim fun ad h => ⟨ad, h.1, h.2.2⟩) (bv_one _) (by unfold maxLen; omega) (by omega) (HM5.out.size) ?_
    intro v5 w5 g1 g2 g3
    obtain ⟨X5, hX5⟩ : ∃ X, X = X4 ++ (numB l.its.length) := ⟨_, rfl⟩
    have hx5 : X5.length ≤ 54 := by rw [hX5, List.length_append]; omega
    have HX5 := Lib.hid hX5
    have HO5 := Lib.hid (show w5.ownsRow w0.heap.size 5 1 v5 X5.length (X5.map bv) by rw [hX5, List.length_append, List.map_append]; exact g1)
    have HT5 := Lib.hid (HM5.out.grown g2 (fun i hi e => by have := (O5.out.lt i e.symm).1; omega))
    clear g1 g2 g3 hX5
    obtain ⟨c0, c1, c2, c3, c4, c5, c6, c7⟩ := CF.out w5 HT5.out
    have QP5 : 0 < X5.length := by rw [HX5.out, List.length_append, numB_len]; omega
    clear c0 c1 c2 c3 c4 c5 c6 c7
    go_wp2
    go_loopw [3, 4] (fun v i wr => ∃ k : Nat, k ≤ l.its.length ∧ i = .int .i64 k ∧ wr.ownsRow w0.heap.size 5 1 v (X5 ++ itsF (l.its.take k)).length ((X5 ++ itsF (l.its.take k)).map bv) ∧ Turn (fun _ => False) w0 wr) (fun _ i _ => l.its.length - (intOf i).toNat)
    case atStart => exact ⟨0, Nat.zero_le _, rfl, by simpa [itsF] using HO5.out, HT5.out⟩
    case round =>
      clear HO5 HT5
      obtain ⟨j, hj, rfl, hown, ht⟩ := hrel
      obtain ⟨c0, c1, c2, c3, c4, c5, c6, c7⟩ := CF.out wr ht
      obtain ⟨XA, hXA⟩ : ∃ XA, XA = X5 ++ itsF (l.its.take j) := ⟨_, rfl⟩
      rw [← hXA] at hown
      have hxA : XA.length ≤ 140000 := by
        have := itsF_le (l := l.its.take j) (fun p hp => HITS.out p (List.mem_of_mem_take hp))
        rw [List.length_take] at this
        rw [hXA, List.length_append]; omega
      have HXA := Lib.hid hXA
      have QPA : 0 < XA.length := by rw [hXA, List.length_append]; omega
      have HOwr := Lib.hid hown
      have HTwr := Lib.hid ht
      clear hown hXA ht
      by_cases hlt : j < l.its.length
      · obtain ⟨hok, b, o, S', cp, hA, -, hsp, p0, p1⟩ := H0.out.its j l.its[j] (List.getElem?_eq_getElem hlt)
        subst hA
        have HPT := HITS.out l.its[j] (List.getElem_mem hlt)
        have HSUC := Lib.hid (itsF_succ hlt)
        obtain ⟨q, hq⟩ : ∃ q, q = l.its[j] := ⟨_, rfl⟩
        rw [← hq] at hok hsp p0 p1 HPT HSUC
        unfold inP at HPT
        obtain ⟨tt, htt⟩ : ∃ n : Nat, q.t = (n : Int) := ⟨q.t.toNat, by omega⟩
        have ht40 : tt ≤ 1099511627776 := by omega
        have hb81 := HPT.2
        have HIF := Lib.hid (show itF q = numB tt ++ (numB q.b.length ++ q.b) by unfold itF; rw [htt]; rfl)
        rw [htt] at p0
        have PC := Lib.hid (show ∀ w' : World, Turn (fun _ => False) w0 w' → w'.cell? ⟨b, o + j * 2, none⟩ = some (.int .i64 (tt : Int)) ∧ w'.cell? ⟨b, o + j * 2 + 1, none⟩ = some (.slice S' q.b.length cp) from fun w' k => ⟨k.cell p0 (fun h => h), k.cell p1 (fun h => h)⟩)
        have HSP := Lib.hid hsp
        have tt9 : (numB tt).length ≤ 9 := numB_le (by omega)
        have tb9 : (numB q.b.length).length ≤ 9 := numB_le (by omega)
        have hji : (j : Int) < (l.its.length : Int) := by omega
        clear hok hsp p0 p1 HPT hq htt c0 c1 c2 c3 c4 c5 c7
        go_upto_region 15 with fail
        have QP := Lib.hid (show 0 < XA.length from QPA)
        have HB0 := Lib.hid (show w0.heap.size ≤ wr.heap.size from HTwr.out.size)
        have PFX := Lib.hid (show ∀ w', Gp u3.ownBlock XA.length (XA.map bv ++ (numB tt).map bv) wr.drew w' → w'.ownsRow w0.heap.size 5 1 u3 XA.length (XA.map bv) from fun w' k => own_front (by rw [List.length_map]) HOwr.out k)
        have ROW := Lib.hid (show ∀ k, u3.ownBlock = some k → w0.heap.size ≤ k ∧ k < wr.heap.size from fun k e => HOwr.out.lt k e)
        have TQ := Lib.hid (show ∀ w', Gp u3.ownBlock XA.length (XA.map bv ++ (numB tt).map bv) wr.drew w' → Turn (fun _ => False) w0 w' from fun w' k => (HTwr.out.drew).trans k.t (fun i hi e => by have := (ROW.out i e).1; omega))
        clear c6
        refine wp_region_rel_tail 17 114 (by kernel_rfl) (by kernel_rfl) (Gp u3.ownBlock XA.length (XA.map bv ++ (numB tt).map bv)) ((.one ?_) :: (.one ?_) :: (.one ?_) :: (.one ?_) :: (.one ?_) :: (.one ?_) :: (.one ?_) :: (.rel (fun v w => w.ownsRow wr.heap.size 5 1 v (numB tt).length ((numB tt).map bv))) :: (.rel (OA w0.heap.size u3.ownBlock XA.length (XA.map bv) ((numB tt).map bv))) :: (.one ?_) :: (.one ?_) :: (.one ?_) :: (.one ?_) :: (.one ?_) :: (.one ?_) :: (.one ?_) :: (.rel (fun v w => w.ownsRow wr.heap.size 5 1 v (numB q.b.length).length ((numB q.b.length).map bv))) :: []) (by kernel_rfl) rfl (by kernel_rfl) Gp.refl Gp.trans ⟨own_gp (fun k e => (ROW.out k e).2), OA.stable (by rw [List.length_map]), own_gp (fun k e => (ROW.out k e).2), trivial⟩ ?main
        case main =>
        simp only [List.take_succ_cons, List.take_zero, List.drop_succ_cons, List.drop_zero]
        iterate 2
          refine wpR_one (A' := ?_) Gp.refl (by rfl) _ rfl 114 (by rfl) (by rfl) ?_ ?_ ?_
          rotate_left 1
          · simp only [Act.put, List.setIfInBounds_toArray, List.set_cons_zero, List.set_cons_succ]; rfl
          · intro w1 hs hf K hK
            go_big_quiet_op
            first
              | go_big_quiet_on
              | (refine ⟨_, fun _ _ => rfl, ?_⟩; go_big_quiet_on)
            rfl
        refine wpR_one (A' := ?_) Gp.refl (by rfl) _ rfl 114 (by rfl) (by rfl) ?_ ?_ ?_
        rotate_left 1
        · simp only [Act.put, List.setIfInBounds_toArray, List.set_cons_zero, List.set_cons_succ]; rfl
        · intro w1 hs hf K hK
          refine cls_load_cell 22 (.tmp 76) rfl ⟨w.heap.size, 6, none⟩ rfl (.slice (some ⟨b, o, none⟩) l.its.length cA) (fun w h => by simp [go_sem, h]) (fun w2 h2 => (CF.out w2 (TQ.out w2 (Gp.trans _ _ _ hs h2))).2.2.2.2.2.2.1) ?_
          refine hK _ ?_
          simp only [Act.put, List.setIfInBounds_toArray, List.set_cons_zero, List.set_cons_succ]
          rfl
        iterate 3
          refine wpR_one (A' := ?_) Gp.refl (by rfl) _ rfl 114 (by rfl) (by rfl) ?_ ?_ ?_
          rotate_left 1
          · simp only [Act.put, List.setIfInBounds_toArray, List.set_cons_zero, List.set_cons_succ]; rfl
          · intro w1 hs hf K hK
            go_big_quiet_op
            first
              | go_big_quiet_on
              | (refine ⟨_, fun _ _ => rfl, ?_⟩; go_big_quiet_on)
            rfl
        refine wpR_one (A' := ?_) Gp.refl (by rfl) _ rfl 114 (by rfl) (by rfl) ?_ ?_ ?_
        rotate_left 1
        · simp only [Act.put, List.setIfInBounds_toArray, List.set_cons_zero, List.set_cons_succ]; rfl
        · intro w1 hs hf K hK
          refine cls_load_cell 3 (.tmp 80) rfl ⟨b, o + j * 2, none⟩ rfl (.int .i64 (tt : Int)) (fun w h => by simp [go_sem, h]) (fun w2 h2 => (PC.out w2 (TQ.out w2 (Gp.trans _ _ _ hs h2))).1) ?_
          refine hK _ ?_
          simp only [Act.put, List.setIfInBounds_toArray, List.set_cons_zero, List.set_cons_succ]
          rfl
        refine wpR_rel (A' := ?_) (by rfl) ?_ ?_ ?_
        · intro w1 hs hf
          have hz : wr.heap.size ≤ w1.heap.size := Gp.size (w := wr.drew) hs
          refine does_call (w' := w1) (f := 30) (args := #[.int .i64 (tt : Int)]) (by kernel_rfl) ((NN.out tt ht40 w1).mono ?_)
          rintro e w3 ⟨v, rfl, ho, h3⟩
          exact ⟨v, rfl, own_more ho hz, Gp.of h3⟩
        rotate_left 1
        · intro x
          simp only [Act.put, List.setIfInBounds_toArray, List.set_cons_zero, List.set_cons_succ]; rfl
        intro x82
        refine wpR_rel (A' := ?_) (by rfl) ?_ ?_ ?_
        · intro w1 hs hf
          have hz : wr.heap.size ≤ w1.heap.size := Gp.size (w := wr.drew) hs
          have h0 := AllF_at hf 0 rfl (by kernel_rfl)
          obtain ⟨A9, c9, e9, sl9, -, hc9, ha9⟩ := own_sl h0
          have e9 : x82 = _ := e9
          subst e9
          obtain ⟨v', w', hr, h3, h4⟩ := bytesPush 23 w0.heap.size XA.length (XA.map bv) ((numB tt).map bv) w1 u3 (PFX.out w1 hs) (by have := QP.out; omega) A9 c9 _ ha9 (by rw [List.length_map]) (fun j u hu => (sl9 j u hu).elim fun ad h => ⟨ad, h.1, h.2.2⟩) hc9 (bv_one _) (by omega) (by have := HB0.out; omega)
          exact does_append _ _ _ _ _ v' rfl rfl rfl hr ⟨h3, h4⟩
        rotate_left 1
        · intro x
          simp only [Act.put, List.setIfInBounds_toArray, List.set_cons_zero, List.set_cons_succ]; rfl
        intro x83
        iterate 1
          refine wpR_one (A' := ?_) Gp.refl (by rfl) _ rfl 114 (by rfl) (by rfl) ?_ ?_ ?_
          rotate_left 1
          · simp only [Act.put, List.setIfInBounds_toArray, List.set_cons_zero, List.set_cons_succ]; rfl
          · intro w1 hs hf K hK
            go_big_quiet_op
            first
              | go_big_quiet_on
              | (refine ⟨_, fun _ _ => rfl, ?_⟩; go_big_quiet_on)
            rfl
        refine wpR_one (A' := ?_) Gp.refl (by rfl) _ rfl 114 (by rfl) (by rfl) ?_ ?_ ?_
        rotate_left 1
        · simp only [Act.put, List.setIfInBounds_toArray, List.set_cons_zero, List.set_cons_succ]; rfl
        · intro w1 hs hf K hK
          refine cls_load_cell 22 (.tmp 84) rfl ⟨w.heap.size, 6, none⟩ rfl (.slice (some ⟨b, o, none⟩) l.its.length cA) (fun w h => by simp [go_sem, h]) (fun w2 h2 => (CF.out w2 (TQ.out w2 (Gp.trans _ _ _ hs h2))).2.2.2.2.2.2.1) ?_
          refine hK _ ?_
          simp only [Act.put, List.setIfInBounds_toArray, List.set_cons_zero, List.set_cons_succ]
          rfl
        iterate 3
          refine wpR_one (A' := ?_) Gp.refl (by rfl) _ rfl 114 (by rfl) (by rfl) ?_ ?_ ?_
          rotate_left 1
          · simp only [Act.put, List.setIfInBounds_toArray, List.set_cons_zero, List.set_cons_succ]; rfl
          · intro w1 hs hf K hK
            go_big_quiet_op
            first
              | go_big_quiet_on
              | (refine ⟨_, fun _ _ => rfl, ?_⟩; go_big_quiet_on)
            rfl
        refine wpR_one (A' := ?_) Gp.refl (by rfl) _ rfl 114 (by rfl) (by rfl) ?_ ?_ ?_
        rotate_left 1
        · simp only [Act.put, List.setIfInBounds_toArray, List.set_cons_zero, List.set_cons_succ]; rfl
        · intro w1 hs hf K hK
          refine cls_load_cell 23 (.tmp 88) rfl ⟨b, o + j * 2 + 1, none⟩ rfl (.slice S' q.b.length cp) (fun w h => by simp [go_sem, h]) (fun w2 h2 => (PC.out w2 (TQ.out w2 (Gp.trans _ _ _ hs h2))).2) ?_
          refine hK _ ?_
          simp only [Act.put, List.setIfInBounds_toArray, List.set_cons_zero, List.set_cons_succ]
          rfl
        iterate 1
          refine wpR_one (A' := ?_) Gp.refl (by rfl) _ rfl 114 (by rfl) (by rfl) ?_ ?_ ?_
          rotate_left 1
          · simp only [Act.put, List.setIfInBounds_toArray, List.set_cons_zero, List.set_cons_succ]; rfl
          · intro w1 hs hf K hK
            go_big_quiet_op
            first
              | go_big_quiet_on
              | (refine ⟨_, fun _ _ => rfl, ?_⟩; go_big_quiet_on)
            rfl
        refine wpR_rel (A' := ?_) (by rfl) ?_ ?_ ?_
        · intro w1 hs hf
          have hz : wr.heap.size ≤ w1.heap.size := Gp.size (w := wr.drew) hs
          refine does_call (w' := w1) (f := 30) (args := #[.int .i64 (q.b.length : Int)]) (by kernel_rfl) ((NN.out q.b.length (by omega) w1).mono ?_)
          rintro e w3 ⟨v, rfl, ho, h3⟩
          exact ⟨v, rfl, own_more ho hz, Gp.of h3⟩
        rotate_left 1
        · intro x
          simp only [Act.put, List.setIfInBounds_toArray, List.set_cons_zero, List.set_cons_succ]; rfl
        intro x91
        intro w6 hs6 hf
        obtain ⟨h91, h83, -⟩ := hf
        have T6 := Lib.hid (TQ.out w6 hs6)
        obtain ⟨A6, cc6, rfl, sl6, -, hc6, ha6⟩ := own_sl h91
        have S6 := Lib.hid sl6
        have AN6 := Lib.hid ha6
        obtain ⟨XB, hXB⟩ : ∃ X, X = XA ++ numB tt := ⟨_, rfl⟩
        have hxB : XB.length ≤ 140010 := by rw [hXB, List.length_append]; omega
        have O6 := Lib.hid (show w6.ownsRow w0.heap.size 5 1 x83 XB.length (XB.map bv) by rw [hXB, List.length_append, List.map_append]; have h := h83.1; rw [List.length_map] at h; exact h)
        have HXB := Lib.hid hXB
        clear h83 h91 sl6 hc6 ha6 hs6 hXB HOwr HTwr
        refine wpList_append_any_at (o := ⟨some 92, _, _, _, _, _⟩) rfl _ _ 23 rfl w0.heap.size 5 i0 (.int .u8 0) 1 Try.underlying23 hi hz0 hz1 hz2 rfl _ XB.length _ rfl O6.out A6 _ cc6 ((numB q.b.length).map bv) rfl AN6.out (by rw [List.length_map]) (fun j u hu => (S6.out j u hu).elim fun ad h => ⟨ad, h.1, h.2.2⟩) (bv_one _) (by unfold maxLen; omega) (by omega) (T6.out.size) ?_
        intro v7 w7 g1 g2 g3
        obtain ⟨X7, hX7⟩ : ∃ X, X = XB ++ (numB q.b.length) := ⟨_, rfl⟩
        have hx7 : X7.length ≤ 140020 := by rw [hX7, List.length_append]; omega
        have HX7 := Lib.hid hX7
        have HO7 := Lib.hid (show w7.ownsRow w0.heap.size 5 1 v7 X7.length (X7.map bv) by rw [hX7, List.length_append, List.map_append]; exact g1)
        have HT7 := Lib.hid (T6.out.grown g2 (fun i hi e => by have := (O6.out.lt i e.symm).1; omega))
        clear g1 g2 g3 hX7
        obtain ⟨c0, c1, c2, c3, c4, c5, c6, c7⟩ := CF.out w7 HT7.out
        obtain ⟨q0, q1⟩ := PC.out w7 HT7.out
        have BT := HSP.out.quiet HT7.out
        have AN8 := Lib.hid BT.a
        have S8 := Lib.hid BT.sl
        clear BT
        go_wp2_with (at_builtin; refine stop ?_)
        unfold Stop
        refine wpList_append_any_at (o := ⟨some 100, _, _, _, _, _⟩) rfl _ _ 23 rfl w0.heap.size 5 i0 (.int .u8 0) 1 Try.underlying23 hi hz0 hz1 hz2 rfl _ X7.length _ rfl HO7.out S' _ cp ((q.b).map bv) rfl AN8.out (by rw [List.length_map]) (fun j u hu => (S8.out j u hu).elim fun ad h => ⟨ad, h.1, h.2.2⟩) (bv_one _) (by unfold maxLen; omega) (by omega) (HT7.out.size) ?_
        intro v8 w8 g1 g2 g3
        obtain ⟨X8, hX8⟩ : ∃ X, X = X7 ++ (q.b) := ⟨_, rfl⟩
        have hx8 : X8.length ≤ 150000 := by rw [hX8, List.length_append]; omega
        have HX8 := Lib.hid hX8
        have HO8 := Lib.hid (show w8.ownsRow w0.heap.size 5 1 v8 X8.length (X8.map bv) by rw [hX8, List.length_append, List.map_append]; exact g1)
        have HT8 := Lib.hid (HT7.out.grown g2 (fun i hi e => by have := (HO7.out.lt i e.symm).1; omega))
        clear g1 g2 g3 hX8
        obtain ⟨c0, c1, c2, c3, c4, c5, c6, c7⟩ := CF.out w8 HT8.out
        go_wp2
        go_roundw
        case rel => exact ⟨j + 1, by omega, by go_num, by rw [HSUC.out, HIF.out, ← List.append_assoc, ← HXA.out, ← List.append_assoc, ← HXB.out, ← List.append_assoc, ← HX7.out, ← HX8.out]; exact HO8.out, HT8.out⟩
        case measure => simp [intOf]; omega
      · obtain rfl : j = l.its.length := by omega
        rw [List.take_length] at HXA
        go_wp2
        go_ret
        refine ⟨_, rfl, ?_, HT0.out.trans HTwr.out (fun _ _ h => h)⟩
        have h := own_more HOwr.out (base' := w.heap.size) HT0.out.size
        rw [show formL l = XA by rw [HF.out]; simp [HXA.out, HX5.out, HX4.out, HX3.out, HX2.out, HXH.out]]
        exact h
  · go_wp2_with fail
    refine (NS.out _).mono ?_
    rintro r m2 ⟨u2, rfl, om, tm⟩
    obtain ⟨A2, cc2, rfl, sl, -, hc, ha⟩ := own_sl om
    have O2 := Lib.hid (tm.own HOH.out (fun _ _ h => h))
    have S2 := Lib.hid sl
    have AN2 := Lib.hid ha
    have HM2 := Lib.hid (HTH.out.trans tm (fun _ _ h => h))
    clear om tm sl hc ha c0 c1 c2 c3 c4 c5 c6 c7 HOH HTH
    go_wp2_with (at_builtin; refine stop ?_)
    unfold Stop
    refine wpList_append_any_at (o := ⟨some 24, _, _, _, _, _⟩) rfl _ _ 23 rfl w0.heap.size 5 i0 (.int .u8 0) 1 Try.underlying23 hi hz0 hz1 hz2 rfl _ XH.length _ rfl O2.out A2 _ cc2 ((numB (yesN l.s)).map bv) rfl AN2.out (by rw [List.length_map]) (fun j u hu => (S2.out j u hu).elim fun ad h => ⟨ad, h.1, h.2.2⟩) (bv_one _) (by unfold maxLen; omega) (by omega) (HM2.out.size) ?_
    intro v2 w2 g1 g2 g3
    obtain ⟨X2, hX2⟩ : ∃ X, X = XH ++ (numB (yesN l.s)) := ⟨_, rfl⟩
    have hx2 : X2.length ≤ 27 := by rw [hX2, List.length_append]; omega
    have HX2 := Lib.hid hX2
    have HO2 := Lib.hid (show w2.ownsRow w0.heap.size 5 1 v2 X2.length (X2.map bv) by rw [hX2, List.length_append, List.map_append]; exact g1)
    have HT2 := Lib.hid (HM2.out.grown g2 (fun i hi e => by have := (O2.out.lt i e.symm).1; omega))
    clear g1 g2 g3 hX2
    obtain ⟨c0, c1, c2, c3, c4, c5, c6, c7⟩ := CF.out w2 HT2.out
    go_wp2_with fail
    refine (NX.out _).mono ?_
    rintro r m3 ⟨u3, rfl, om, tm⟩
    obtain ⟨A3, cc3, rfl, sl, -, hc, ha⟩ := own_sl om
    have O3 := Lib.hid (tm.own HO2.out (fun _ _ h => h))
    have S3 := Lib.hid sl
    have AN3 := Lib.hid ha
    have HM3 := Lib.hid (HT2.out.trans tm (fun _ _ h => h))
    clear om tm sl hc ha c0 c1 c2 c3 c4 c5 c6 c7 HO2 HT2
    go_wp2_with (at_builtin; refine stop ?_)
    unfold Stop
    refine wpList_append_any_at (o := ⟨some 32, _, _, _, _, _⟩) rfl _ _ 23 rfl w0.heap.size 5 i0 (.int .u8 0) 1 Try.underlying23 hi hz0 hz1 hz2 rfl _ X2.length _ rfl O3.out A3 _ cc3 ((numB x).map bv) rfl AN3.out (by rw [List.length_map]) (fun j u hu => (S3.out j u hu).elim fun ad h => ⟨ad, h.1, h.2.2⟩) (bv_one _) (by unfold maxLen; omega) (by omega) (HM3.out.size) ?_
    intro v3 w3 g1 g2 g3
    obtain ⟨X3, hX3⟩ : ∃ X, X = X2 ++ (numB x) := ⟨_, rfl⟩
    have hx3 : X3.length ≤ 36 := by rw [hX3, List.length_append]; omega
    have HX3 := Lib.hid hX3
    have HO3 := Lib.hid (show w3.ownsRow w0.heap.size 5 1 v3 X3.length (X3.map bv) by rw [hX3, List.length_append, List.map_append]; exact g1)
    have HT3 := Lib.hid (HM3.out.grown g2 (fun i hi e => by have := (O3.out.lt i e.symm).1; omega))
    clear g1 g2 g3 hX3
    obtain ⟨c0, c1, c2, c3, c4, c5, c6, c7⟩ := CF.out w3 HT3.out
    go_wp2_with fail
    refine (NZ.out _).mono ?_
    rintro r m4 ⟨u4, rfl, om, tm⟩
    obtain ⟨A4, cc4, rfl, sl, -, hc, ha⟩ := own_sl om
    have O4 := Lib.hid (tm.own HO3.out (fun _ _ h => h))
    have S4 := Lib.hid sl
    have AN4 := Lib.hid ha
    have HM4 := Lib.hid (HT3.out.trans tm (fun _ _ h => h))
    clear om tm sl hc ha c0 c1 c2 c3 c4 c5 c6 c7 HO3 HT3
    go_wp2_with (at_builtin; refine stop ?_)
    unfold Stop
    refine wpList_append_any_at (o := ⟨some 58, _, _, _, _, _⟩) rfl _ _ 23 rfl w0.heap.size 5 i0 (.int .u8 0) 1 Try.underlying23 hi hz0 hz1 hz2 rfl _ X3.length _ rfl O4.out A4 _ cc4 ((numB z).map bv) rfl AN4.out (by rw [List.length_map]) (fun j u hu => (S4.out j u hu).elim fun ad h => ⟨ad, h.1, h.2.2⟩) (bv_one _) (by unfold maxLen; omega) (by omega) (HM4.out.size) ?_
    intro v4 w4 g1 g2 g3
    obtain ⟨X4, hX4⟩ : ∃ X, X = X3 ++ (numB z) := ⟨_, rfl⟩
    have hx4 : X4.length ≤ 45 := by rw [hX4, List.length_append]; omega
    have HX4 := Lib.hid hX4
    have HO4 := Lib.hid (show w4.ownsRow w0.heap.size 5 1 v4 X4.length (X4.map bv) by rw [hX4, List.length_append, List.map_append]; exact g1)
    have HT4 := Lib.hid (HM4.out.grown g2 (fun i hi e => by have := (O4.out.lt i e.symm).1; omega))
    clear g1 g2 g3 hX4
    obtain ⟨c0, c1, c2, c3, c4, c5, c6, c7⟩ := CF.out w4 HT4.out
    go_wp2
    go_ret
    refine ⟨_, rfl, ?_, HT0.out.trans HT4.out (fun _ _ h => h)⟩
    have h := own_more HO4.out (base' := w.heap.size) HT0.out.size
    rw [show formL l = X4 by rw [HF.out]; simp [HX4.out, HX3.out, HX2.out, HXH.out]]
    exact h
  · go_wp2_with fail
    refine (NX.out _).mono ?_
    rintro r m2 ⟨u2, rfl, om, tm⟩
    obtain ⟨A2, cc2, rfl, sl, -, hc, ha⟩ := own_sl om
    have O2 := Lib.hid (tm.own HOH.out (fun _ _ h => h))
    have S2 := Lib.hid sl
    have AN2 := Lib.hid ha
    have HM2 := Lib.hid (HTH.out.trans tm (fun _ _ h => h))
    clear om tm sl hc ha c0 c1 c2 c3 c4 c5 c6 c7 HOH HTH
    go_wp2_with (at_builtin; refine stop ?_)
    unfold Stop
    refine wpList_append_any_at (o := ⟨some 32, _, _, _, _, _⟩) rfl _ _ 23 rfl w0.heap.size 5 i0 (.int .u8 0) 1 Try.underlying23 hi hz0 hz1 hz2 rfl _ XH.length _ rfl O2.out A2 _ cc2 ((numB x).map bv) rfl AN2.out (by rw [List.length_map]) (fun j u hu => (S2.out j u hu).elim fun ad h => ⟨ad, h.1, h.2.2⟩) (bv_one _) (by unfold maxLen; omega) (by omega) (HM2.out.size) ?_
    intro v2 w2 g1 g2 g3
    obtain ⟨X2, hX2⟩ : ∃ X, X = XH ++ (numB x) := ⟨_, rfl⟩
    have hx2 : X2.length ≤ 27 := by rw [hX2, List.length_append]; omega
    have HX2 := Lib.hid hX2
    have HO2 := Lib.hid (show w2.ownsRow w0.heap.size 5 1 v2 X2.length (X2.map bv) by rw [hX2, List.length_append, List.map_append]; exact g1)
    have HT2 := Lib.hid (HM2.out.grown g2 (fun i hi e => by have := (O2.out.lt i e.symm).1; omega))
    clear g1 g2 g3 hX2
    obtain ⟨c0, c1, c2, c3, c4, c5, c6, c7⟩ := CF.out w2 HT2.out
    go_wp2_with fail
    refine (NY.out _).mono ?_
    rintro r m3 ⟨u3, rfl, om, tm⟩
    obtain ⟨A3, cc3, rfl, sl, -, hc, ha⟩ := own_sl om
    have O3 := Lib.hid (tm.own HO2.out (fun _ _ h => h))
    have S3 := Lib.hid sl
    have AN3 := Lib.hid ha
    have HM3 := Lib.hid (HT2.out.trans tm (fun _ _ h => h))
    clear om tm sl hc ha c0 c1 c2 c3 c4 c5 c6 c7 HO2 HT2
    go_wp2_with (at_builtin; refine stop ?_)
    unfold Stop
    refine wpList_append_any_at (o := ⟨some 45, _, _, _, _, _⟩) rfl _ _ 23 rfl w0.heap.size 5 i0 (.int .u8 0) 1 Try.underlying23 hi hz0 hz1 hz2 rfl _ X2.length _ rfl O3.out A3 _ cc3 ((numB y).map bv) rfl AN3.out (by rw [List.length_map]) (fun j u hu => (S3.out j u hu).elim fun ad h => ⟨ad, h.1, h.2.2⟩) (bv_one _) (by unfold maxLen; omega) (by omega) (HM3.out.size) ?_
    intro v3 w3 g1 g2 g3
    obtain ⟨X3, hX3⟩ : ∃ X, X = X2 ++ (numB y) := ⟨_, rfl⟩
    have hx3 : X3.length ≤ 36 := by rw [hX3, List.length_append]; omega
    have HX3 := Lib.hid hX3
    have HO3 := Lib.hid (show w3.ownsRow w0.heap.size 5 1 v3 X3.length (X3.map bv) by rw [hX3, List.length_append, List.map_append]; exact g1)
    have HT3 := Lib.hid (HM3.out.grown g2 (fun i hi e => by have := (O3.out.lt i e.symm).1; omega))
    clear g1 g2 g3 hX3
    obtain ⟨c0, c1, c2, c3, c4, c5, c6, c7⟩ := CF.out w3 HT3.out
    have QP3 : 0 < X3.length := by rw [HX3.out, List.length_append, numB_len]; omega
    go_upto_region 18 with fail
    have QP := Lib.hid (show 0 < X3.length from QP3)
    have HB0 := Lib.hid (show w0.heap.size ≤ w3.heap.size from HT3.out.size)
    have PFX := Lib.hid (show ∀ w', Gp v3.ownBlock X3.length (X3.map bv ++ (numB l.b.length).map bv) w3.drew w' → w'.ownsRow w0.heap.size 5 1 v3 X3.length (X3.map bv) from fun w' k => own_front (by rw [List.length_map]) HO3.out k)
    have ROW := Lib.hid (show ∀ k, v3.ownBlock = some k → w0.heap.size ≤ k ∧ k < w3.heap.size from fun k e => HO3.out.lt k e)
    have TQ := Lib.hid (show ∀ w', Gp v3.ownBlock X3.length (X3.map bv ++ (numB l.b.length).map bv) w3.drew w' → Turn (fun _ => False) w0 w' from fun w' k => (HT3.out.drew).trans k.t (fun i hi e => by have := (ROW.out i e).1; omega))
    clear c0 c1 c2 c3 c4 c5 c6 c7
    refine wp_region_rel_tail 8 114 (by kernel_rfl) (by kernel_rfl) (Gp v3.ownBlock X3.length (X3.map bv ++ (numB l.b.length).map bv)) ((.one ?_) :: (.one ?_) :: (.one ?_) :: (.one ?_) :: (.rel (fun v w => w.ownsRow w3.heap.size 5 1 v (numB l.b.length).length ((numB l.b.length).map bv))) :: (.rel (OA w0.heap.size v3.ownBlock X3.length (X3.map bv) ((numB l.b.length).map bv))) :: (.one ?_) :: (.one ?_) :: []) (by kernel_rfl) rfl (by kernel_rfl) Gp.refl Gp.trans ⟨own_gp (fun k e => (ROW.out k e).2), OA.stable (by rw [List.length_map]), trivial⟩ ?main
    case main =>
    simp only [List.take_succ_cons, List.take_zero, List.drop_succ_cons, List.drop_zero]
    iterate 2
      refine wpR_one (A' := ?_) Gp.refl (by rfl) _ rfl 114 (by rfl) (by rfl) ?_ ?_ ?_
      rotate_left 1
      · simp only [Act.put, List.setIfInBounds_toArray, List.set_cons_zero, List.set_cons_succ]; rfl
      · intro w1 hs hf K hK
        go_big_quiet_op
        first
          | go_big_quiet_on
          | (refine ⟨_, fun _ _ => rfl, ?_⟩; go_big_quiet_on)
        rfl
    refine wpR_one (A' := ?_) Gp.refl (by rfl) _ rfl 114 (by rfl) (by rfl) ?_ ?_ ?_
    rotate_left 1
    · simp only [Act.put, List.setIfInBounds_toArray, List.set_cons_zero, List.set_cons_succ]; rfl
    · intro w1 hs hf K hK
      refine cls_load_cell 23 (.tmp 105) rfl ⟨w.heap.size, 7, none⟩ rfl (.slice S l.b.length cS) (fun w h => by simp [go_sem, h]) (fun w2 h2 => (CF.out w2 (TQ.out w2 (Gp.trans _ _ _ hs h2))).2.2.2.2.2.2.2) ?_
      refine hK _ ?_
      simp only [Act.put, List.setIfInBounds_toArray, List.set_cons_zero, List.set_cons_succ]
      rfl
    iterate 1
      refine wpR_one (A' := ?_) Gp.refl (by rfl) _ rfl 114 (by rfl) (by rfl) ?_ ?_ ?_
      rotate_left 1
      · simp only [Act.put, List.setIfInBounds_toArray, List.set_cons_zero, List.set_cons_succ]; rfl
      · intro w1 hs hf K hK
        go_big_quiet_op
        first
          | go_big_quiet_on
          | (refine ⟨_, fun _ _ => rfl, ?_⟩; go_big_quiet_on)
        rfl
    refine wpR_rel (A' := ?_) (by rfl) ?_ ?_ ?_
    · intro w1 hs hf
      have hz : w3.heap.size ≤ w1.heap.size := Gp.size (w := w3.drew) hs
      refine does_call (w' := w1) (f := 30) (args := #[.int .i64 (l.b.length : Int)]) (by kernel_rfl) ((NB.out w1).mono ?_)
      rintro e w3 ⟨v, rfl, ho, h3⟩
      exact ⟨v, rfl, own_more ho hz, Gp.of h3⟩
    rotate_left 1
    · intro x
      simp only [Act.put, List.setIfInBounds_toArray, List.set_cons_zero, List.set_cons_succ]; rfl
    intro x108
    refine wpR_rel (A' := ?_) (by rfl) ?_ ?_ ?_
    · intro w1 hs hf
      have hz : w3.heap.size ≤ w1.heap.size := Gp.size (w := w3.drew) hs
      have h0 := AllF_at hf 0 rfl (by kernel_rfl)
      obtain ⟨A9, c9, e9, sl9, -, hc9, ha9⟩ := own_sl h0
      have e9 : x108 = _ := e9
      subst e9
      obtain ⟨v', w', hr, h3, h4⟩ := bytesPush 23 w0.heap.size X3.length (X3.map bv) ((numB l.b.length).map bv) w1 v3 (PFX.out w1 hs) (by have := QP.out; omega) A9 c9 _ ha9 (by rw [List.length_map]) (fun j u hu => (sl9 j u hu).elim fun ad h => ⟨ad, h.1, h.2.2⟩) hc9 (bv_one _) (by omega) (by have := HB0.out; omega)
      exact does_append _ _ _ _ _ v' rfl rfl rfl hr ⟨h3, h4⟩
    rotate_left 1
    · intro x
      simp only [Act.put, List.setIfInBounds_toArray, List.set_cons_zero, List.set_cons_succ]; rfl
    intro x109
    iterate 1
      refine wpR_one (A' := ?_) Gp.refl (by rfl) _ rfl 114 (by rfl) (by rfl) ?_ ?_ ?_
      rotate_left 1
      · simp only [Act.put, List.setIfInBounds_toArray, List.set_cons_zero, List.set_cons_succ]; rfl
      · intro w1 hs hf K hK
        go_big_quiet_op
        first
          | go_big_quiet_on
          | (refine ⟨_, fun _ _ => rfl, ?_⟩; go_big_quiet_on)
        rfl
    refine wpR_one (A' := ?_) Gp.refl (by rfl) _ rfl 114 (by rfl) (by rfl) ?_ ?_ ?_
    rotate_left 1
    · simp only [Act.put, List.setIfInBounds_toArray, List.set_cons_zero, List.set_cons_succ]; rfl
    · intro w1 hs hf K hK
      refine cls_load_cell 23 (.tmp 110) rfl ⟨w.heap.size, 7, none⟩ rfl (.slice S l.b.length cS) (fun w h => by simp [go_sem, h]) (fun w2 h2 => (CF.out w2 (TQ.out w2 (Gp.trans _ _ _ hs h2))).2.2.2.2.2.2.2) ?_
      refine hK _ ?_
      simp only [Act.put, List.setIfInBounds_toArray, List.set_cons_zero, List.set_cons_succ]
      rfl
    intro w4 hs4 hf
    obtain ⟨h109, h108, -⟩ := hf
    have T4 := Lib.hid (TQ.out w4 hs4)
    have O5 := Lib.hid h109.1
    have BT := (H0.out.b.quiet T4.out)
    have AN5 := Lib.hid BT.a
    have S5 := Lib.hid BT.sl
    clear h108 h109 hs4 BT
    obtain ⟨X4, hX4⟩ : ∃ X, X = X3 ++ numB l.b.length := ⟨_, rfl⟩
    have hx4 : X4.length ≤ 45 := by rw [hX4, List.length_append]; omega
    have O5' := Lib.hid (show w4.ownsRow w0.heap.size 5 1 x109 X4.length (X4.map bv) by rw [hX4, List.length_append, List.map_append]; have h := O5.out; rw [List.length_map] at h; exact h)
    have HX4 := Lib.hid hX4
    clear O5 hX4
    refine wpList_append_any_at (o := ⟨some 112, _, _, _, _, _⟩) rfl _ _ 23 rfl w0.heap.size 5 i0 (.int .u8 0) 1 Try.underlying23 hi hz0 hz1 hz2 rfl _ X4.length _ rfl O5'.out S _ cS ((l.b).map bv) rfl AN5.out (by rw [List.length_map]) (fun j u hu => (S5.out j u hu).elim fun ad h => ⟨ad, h.1, h.2.2⟩) (bv_one _) (by unfold maxLen; omega) (by omega) (T4.out.size) ?_
    intro v5 w5 g1 g2 g3
    obtain ⟨X5, hX5⟩ : ∃ X, X = X4 ++ (l.b) := ⟨_, rfl⟩
    have hx5 : X5.length ≤ 66000 := by rw [hX5, List.length_append]; omega
    have HX5 := Lib.hid hX5
    have HO5 := Lib.hid (show w5.ownsRow w0.heap.size 5 1 v5 X5.length (X5.map bv) by rw [hX5, List.length_append, List.map_append]; exact g1)
    have HT5 := Lib.hid (T4.out.grown g2 (fun i hi e => by have := (O5'.out.lt i e.symm).1; omega))
    clear g1 g2 g3 hX5
    obtain ⟨c0, c1, c2, c3, c4, c5, c6, c7⟩ := CF.out w5 HT5.out
    go_wp2
    go_ret
    refine ⟨_, rfl, ?_, HT0.out.trans HT5.out (fun _ _ h => h)⟩
    have h := own_more HO5.out (base' := w.heap.size) HT0.out.size
    rw [show formL l = X5 by rw [HF.out]; simp [HX5.out, HX4.out, HX3.out, HX2.out, HXH.out]]
    exact h
end Go.Proofs.Ytaicpclkdpbacaa
