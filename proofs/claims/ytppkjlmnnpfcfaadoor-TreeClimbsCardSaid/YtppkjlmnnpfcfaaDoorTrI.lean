/- The document's Path. -/
import Derived.Test.YtppkjlmnnpfcfaaDoorTrH
set_option linter.unusedVariables false
namespace Go.Proofs.YtppkjlmnnpfcfaaDoor
open Go.RowKit
set_option maxRecDepth 100000 in
set_option maxHeartbeats 4000000 in
theorem rpath_any : ∀ (N : Nat) (ls : List (List B8)), ls.length ≤ N → ls.length ≤ 1000000 → (∀ xs ∈ ls, xs.length ≤ 1000000) → ∀ (A : Option Addr) (c : Nat) (z : Int) (w : World), LstN w A ls → ls.length ≤ c → (A = none → c = 0) →
    Calls Tryd.prog 14 #[.slice A ls.length c, .int .i64 z] w fun e w' => ∃ v, e = .returned v ∧ w'.ownsRow w.heap.size 26 32 v (pathZ ls z).length (idsV (pathZ ls z)) ∧ Below w.heap.size w w' := by
  have base : ∀ (ls : List (List B8)), ls.length ≤ 1000000 → ∀ (A : Option Addr) (c : Nat) (z : Int) (w : World), ¬ (2 ≤ ls.length ∧ 0 ≤ z ∧ z < ls.length) →
      Calls Tryd.prog 14 #[.slice A ls.length c, .int .i64 z] w fun e w' => ∃ v, e = .returned v ∧ w'.ownsRow w.heap.size 26 32 v (pathZ ls z).length (idsV (pathZ ls z)) ∧ Below w.heap.size w w' := by
    intro ls hm A c z w hbad
    have e0 : pathZ ls z = [] := by
      unfold pathZ
      split
      · rfl
      · exact pathD_none (by omega)
    rw [e0]
    clear e0
    by_cases hz : z < 0
    · go_enter Tryd.func14, Tryd.ntmps14
      go_wp2_with fail
      go_ret
      exact ⟨_, rfl, World.ownsRow_nil _ _ _ _, Below.refl _ _⟩
    · have t0 : decide (z < 0) = false := by rw [decide_eq_false_iff_not]; exact hz
      by_cases hzl : (ls.length : Int) ≤ z
      · have t1 : decide ((ls.length : Int) ≤ z) = true := by rw [decide_eq_true_eq]; exact hzl
        go_enter Tryd.func14, Tryd.ntmps14
        go_wp2_with fail
        go_ret
        exact ⟨_, rfl, World.ownsRow_nil _ _ _ _, Below.refl _ _⟩
      · have t1 : decide ((ls.length : Int) ≤ z) = false := by rw [decide_eq_false_iff_not]; exact hzl
        have h2 : ls.length < 2 := by omega
        have t2 : decide ((ls.length : Int) < 2) = true := by rw [decide_eq_true_eq]; omega
        go_enter Tryd.func14, Tryd.ntmps14
        go_wp2_with fail
        go_ret
        exact ⟨_, rfl, World.ownsRow_nil _ _ _ _, Below.refl _ _⟩
  intro N
  induction N with
  | zero =>
    intro ls hN hm h60 A c z w hL hc hA
    exact base ls hm A c z w (by omega)
  | succ N ih =>
    intro ls hN hm h60 A c z w hL hc hA
    obtain ⟨i0, hi, hz0, hz1, hz2⟩ := info_parts info_id
    by_cases hbad : 2 ≤ ls.length ∧ 0 ≤ z ∧ z < ls.length
    · obtain ⟨h2, hz, hzl⟩ := hbad
      obtain ⟨k, rfl⟩ : ∃ k : Nat, z = (k : Int) := ⟨z.toNat, by omega⟩
      rw [pathZ_nat]
      have hk : k < ls.length := by omega
      have t0 : decide ((k : Int) < 0) = false := by rw [decide_eq_false_iff_not]; omega
      have t1 : decide ((ls.length : Int) ≤ (k : Int)) = false := by rw [decide_eq_false_iff_not]; omega
      have t2 : decide ((ls.length : Int) < 2) = false := by rw [decide_eq_false_iff_not]; omega
      have t3 : ¬ ls.length ≤ k := by omega
      have hh := hp_lt h2
      have hh1 := hp_pos ls.length
      have F := Lib.hid (fun w => half_any ls.length w h2 (by omega))
      have sh := slicel_hi A ls.length c (hp ls.length) (by omega) hc
      have sl := slicel_lo A ls.length c (hp ls.length) (by omega)
      have lk : (ls.take (hp ls.length)).length = hp ls.length := by simp; omega
      have ld : (ls.drop (hp ls.length)).length = ls.length - hp ls.length := by simp
      by_cases hkh : k < hp ls.length
      · have e1 := pathD_low h2 hkh
        have P1 := Lib.hid (fun (w : World) (hL : LstN w A ls) => ih (ls.take (hp ls.length)) (by omega) (by omega) (fun xs hx => h60 xs (List.mem_of_mem_take hx)) A c (k : Int) w (hL.front _) (by omega) hA)
        have R2 := Lib.hid (fun (w : World) (hL : LstN w A ls) => rroot_any N (ls.drop (hp ls.length)) (by omega) (by omega) (fun xs hx => h60 xs (List.mem_of_mem_drop hx)) (cutA A c (hp ls.length)) (c - hp ls.length) w (hL.cut c _ hc) (by omega) (cutA_none hA))
        rw [lk, pathZ_nat] at P1
        rw [ld] at R2
        have hml : (pathD (ls.take (hp ls.length)) k).length ≤ 1000000 := Nat.le_trans (pathD_size _ _ k (Nat.le_refl _)) (by omega)
        have hdl := rootD_len (ls.drop (hp ls.length))
        generalize pathD (ls.take (hp ls.length)) k = pd at *
        generalize rootD (ls.drop (hp ls.length)) = d at *
        have E1 := Lib.hid e1
        have HL := Lib.hid hL
        have HDL := Lib.hid hdl
        have hkI : decide ((k : Int) < (hp ls.length : Int)) = true := by rw [decide_eq_true_eq]; omega
        clear lk ld hL hA ih h60 e1 hdl 
        generalize hp ls.length = h at *
        go_enter Tryd.func14, Tryd.ntmps14
        go_wp2_with (go_at_call 26; refine (F.out _).mono ?_; rintro e w' ⟨rfl, rfl⟩)
        rename World => wb
        have HL1 := Lib.hid (show LstN wb.drew A ls from HL.out)
        refine wp_region_rel_tail 10 49 (by kernel_rfl) (by kernel_rfl) Stp [.one ?_, .one ?_, .one ?_, .one ?_, .rel (fun v w => w.ownsRow wb.heap.size 26 32 v pd.length (idsV pd)), .one ?_, .one ?_, .one ?_, .one ?_, .rel (MadeId (d.map bv).toArray)] (by kernel_rfl) rfl (by kernel_rfl) Stp.refl Stp.trans ⟨fun v w w' h1 h2 => own_below h1 h2, fun v w w' h1 h2 => MadeId.stable _ v w w' h1 h2, trivial⟩ ?main
        case main =>
        simp only [List.take_succ_cons, List.take_zero, List.drop_succ_cons, List.drop_zero]
        iterate 4
          refine wpR_one (A' := ?_) Stp.refl (by rfl) _ rfl 49 (by rfl) (by rfl) ?_ ?_ ?_
          rotate_left 1
          · simp only [Act.put, List.setIfInBounds_toArray, List.set_cons_zero, List.set_cons_succ]; rfl
          · intro w1 hs hf K hK
            go_big_quiet_op
            first
              | go_big_quiet_on
              | (refine ⟨_, fun _ _ => rfl, ?_⟩; go_big_quiet_on)
            rfl
        refine wpR_rel (A' := ?_) (by rfl) ?_ ?_ ?_
        · intro w1 hs hf
          have hl1 := lstn_stp HL1.out hs
          refine does_call (w' := w1) (f := 14) (args := #[.slice A h c, .int .i64 (k : Int)]) (by kernel_rfl) ((P1.out w1 hl1).mono ?_)
          rintro e w3 ⟨v, rfl, ho, h3⟩
          exact ⟨v, rfl, World.ownsRow.mono ho (show wb.drew.heap.size ≤ w1.heap.size from Below.size hs), h3⟩
        rotate_left 1
        · intro x
          simp only [Act.put, List.setIfInBounds_toArray, List.set_cons_zero, List.set_cons_succ]; rfl
        intro x29
        iterate 3
          refine wpR_one (A' := ?_) Stp.refl (by rfl) _ rfl 49 (by rfl) (by rfl) ?_ ?_ ?_
          rotate_left 1
          · simp only [Act.put, List.setIfInBounds_toArray, List.set_cons_zero, List.set_cons_succ]; rfl
          · intro w1 hs hf K hK
            go_big_quiet_op
            first
              | go_big_quiet_on
              | (refine ⟨_, fun _ _ => rfl, ?_⟩; go_big_quiet_on)
            rfl
        refine wpR_one (A' := ?_) Stp.refl (by rfl) _ rfl 49 (by rfl) (by rfl) ?_ ?_ ?_
        rotate_left 1
        · simp only [Act.put, List.setIfInBounds_toArray, List.set_cons_zero, List.set_cons_succ]; rfl
        · intro w1 hs hf K hK
          have hl1 := Lib.hid (lstn_stp HL1.out hs)
          go_big_quiet_op
          apply Exists.intro
          refine ⟨fun w2 h2 => ?_, ?_⟩
          · refine (R2.out w2 (lstn_stp hl1.out h2)).mono ?_
            rintro e w3 ⟨rfl, h3⟩
            exact ⟨rfl, Stp.trans _ _ _ h2 h3⟩
          · go_big_quiet_on
            rfl
        refine wpR_rel (A' := ?_) (by rfl) ?_ ?_ ?_
        · intro w1 hs hf
          exact does_build_id d HDL.out _ rfl (by kernel_rfl) ⟨⟨_, rfl, heap_alloc_new w1 _⟩, (Below.refl _ _).alloc (Nat.le_refl _) _⟩
        rotate_left 1
        · intro x
          simp only [Act.put, List.setIfInBounds_toArray, List.set_cons_zero, List.set_cons_succ]; rfl
        intro x34
        intro w9 hs hf
        obtain ⟨⟨g34, rfl, h34⟩, h29, -⟩ := hf
        have HB9 := Lib.hid (show Below wb.heap.size wb w9 from stp_start hs (Below.refl _ _))
        have hs9 : wb.heap.size ≤ w9.heap.size := HB9.out.size
        refine wpList_append_own (o := ⟨some 35, _, _, _, _, _⟩) w9 rfl _ _ 29 rfl wb.heap.size 26 i0 (.agg ZId) 32 32 Tryd.underlying29 hi hz0 hz1 hz2 (by kernel_rfl) (by decide) x29 pd.length (idsV pd) rfl h29 ⟨g34, 0, none⟩ 1 1 (d.map bv) rfl (by rw [List.length_map, HDL.out]) (MadeId.cells h34) (bv_one _) ?_ ?_ ?_ ?_
        · unfold maxLen; omega
        · omega
        · omega
        intro v' w' h3 h4 _
        have HO := Lib.hid h3
        have HBt := Lib.hid (HB9.out.grown h4 hs9 (fun k hk => (h29.lt k hk).1))
        clear h3 h4 h34 h29 hs
        go_wp2_with fail
        go_ret
        refine ⟨v', rfl, ?_, HBt.out⟩
        rw [E1.out, List.length_append, idsV_append, idsV_one]
        exact HO.out
      · have e1 := pathD_high h2 hk hkh
        have P1 := Lib.hid (fun (w : World) (hL : LstN w A ls) => ih (ls.drop (hp ls.length)) (by omega) (by omega) (fun xs hx => h60 xs (List.mem_of_mem_drop hx)) (cutA A c (hp ls.length)) (c - hp ls.length) (((k - hp ls.length : Nat)) : Int) w (hL.cut c _ hc) (by omega) (cutA_none hA))
        have R2 := Lib.hid (fun (w : World) (hL : LstN w A ls) => rroot_any N (ls.take (hp ls.length)) (by omega) (by omega) (fun xs hx => h60 xs (List.mem_of_mem_take hx)) A c w (hL.front _) (by omega) hA)
        rw [ld, pathZ_nat] at P1
        rw [lk] at R2
        have hml : (pathD (ls.drop (hp ls.length)) (k - hp ls.length)).length ≤ 1000000 := Nat.le_trans (pathD_size _ _ _ (Nat.le_refl _)) (by omega)
        have hdl := rootD_len (ls.take (hp ls.length))
        have hsub : ((k - hp ls.length : Nat) : Int) = (k : Int) - (hp ls.length : Int) := by omega
        rw [hsub] at P1
        generalize pathD (ls.drop (hp ls.length)) (k - hp ls.length) = pd at *
        generalize rootD (ls.take (hp ls.length)) = d at *
        have E1 := Lib.hid e1
        have HL := Lib.hid hL
        have HDL := Lib.hid hdl
        have hkI : decide ((k : Int) < (hp ls.length : Int)) = false := by rw [decide_eq_false_iff_not]; omega
        clear lk ld hL hA ih h60 e1 hdl hsub
        generalize hp ls.length = h at *
        go_enter Tryd.func14, Tryd.ntmps14
        go_wp2_with (go_at_call 26; refine (F.out _).mono ?_; rintro e w' ⟨rfl, rfl⟩)
        rename World => wb
        have HL1 := Lib.hid (show LstN wb.drew A ls from HL.out)
        refine wp_region_rel_tail 12 49 (by kernel_rfl) (by kernel_rfl) Stp [.one ?_, .one ?_, .one ?_, .one ?_, .one ?_, .one ?_, .rel (fun v w => w.ownsRow wb.heap.size 26 32 v pd.length (idsV pd)), .one ?_, .one ?_, .one ?_, .one ?_, .rel (MadeId (d.map bv).toArray)] (by kernel_rfl) rfl (by kernel_rfl) Stp.refl Stp.trans ⟨fun v w w' h1 h2 => own_below h1 h2, fun v w w' h1 h2 => MadeId.stable _ v w w' h1 h2, trivial⟩ ?main
        case main =>
        simp only [List.take_succ_cons, List.take_zero, List.drop_succ_cons, List.drop_zero]
        iterate 6
          refine wpR_one (A' := ?_) Stp.refl (by rfl) _ rfl 49 (by rfl) (by rfl) ?_ ?_ ?_
          rotate_left 1
          · simp only [Act.put, List.setIfInBounds_toArray, List.set_cons_zero, List.set_cons_succ]; rfl
          · intro w1 hs hf K hK
            go_big_quiet_op
            first
              | go_big_quiet_on
              | (refine ⟨_, fun _ _ => rfl, ?_⟩; go_big_quiet_on)
            rfl
        refine wpR_rel (A' := ?_) (by rfl) ?_ ?_ ?_
        · intro w1 hs hf
          have hl1 := lstn_stp HL1.out hs
          refine does_call (w' := w1) (f := 14) (args := #[.slice (cutA A c h) (ls.length - h) (c - h), .int .i64 ((k : Int) - (h : Int))]) (by kernel_rfl) ((P1.out w1 hl1).mono ?_)
          rintro e w3 ⟨v, rfl, ho, h3⟩
          exact ⟨v, rfl, World.ownsRow.mono ho (show wb.drew.heap.size ≤ w1.heap.size from Below.size hs), h3⟩
        rotate_left 1
        · intro x
          simp only [Act.put, List.setIfInBounds_toArray, List.set_cons_zero, List.set_cons_succ]; rfl
        intro x29
        iterate 3
          refine wpR_one (A' := ?_) Stp.refl (by rfl) _ rfl 49 (by rfl) (by rfl) ?_ ?_ ?_
          rotate_left 1
          · simp only [Act.put, List.setIfInBounds_toArray, List.set_cons_zero, List.set_cons_succ]; rfl
          · intro w1 hs hf K hK
            go_big_quiet_op
            first
              | go_big_quiet_on
              | (refine ⟨_, fun _ _ => rfl, ?_⟩; go_big_quiet_on)
            rfl
        refine wpR_one (A' := ?_) Stp.refl (by rfl) _ rfl 49 (by rfl) (by rfl) ?_ ?_ ?_
        rotate_left 1
        · simp only [Act.put, List.setIfInBounds_toArray, List.set_cons_zero, List.set_cons_succ]; rfl
        · intro w1 hs hf K hK
          have hl1 := Lib.hid (lstn_stp HL1.out hs)
          go_big_quiet_op
          apply Exists.intro
          refine ⟨fun w2 h2 => ?_, ?_⟩
          · refine (R2.out w2 (lstn_stp hl1.out h2)).mono ?_
            rintro e w3 ⟨rfl, h3⟩
            exact ⟨rfl, Stp.trans _ _ _ h2 h3⟩
          · go_big_quiet_on
            rfl
        refine wpR_rel (A' := ?_) (by rfl) ?_ ?_ ?_
        · intro w1 hs hf
          exact does_build_id d HDL.out _ rfl (by kernel_rfl) ⟨⟨_, rfl, heap_alloc_new w1 _⟩, (Below.refl _ _).alloc (Nat.le_refl _) _⟩
        rotate_left 1
        · intro x
          simp only [Act.put, List.setIfInBounds_toArray, List.set_cons_zero, List.set_cons_succ]; rfl
        intro x34
        intro w9 hs hf
        obtain ⟨⟨g34, rfl, h34⟩, h29, -⟩ := hf
        have HB9 := Lib.hid (show Below wb.heap.size wb w9 from stp_start hs (Below.refl _ _))
        have hs9 : wb.heap.size ≤ w9.heap.size := HB9.out.size
        refine wpList_append_own (o := ⟨some 48, _, _, _, _, _⟩) w9 rfl _ _ 29 rfl wb.heap.size 26 i0 (.agg ZId) 32 32 Tryd.underlying29 hi hz0 hz1 hz2 (by kernel_rfl) (by decide) x29 pd.length (idsV pd) rfl h29 ⟨g34, 0, none⟩ 1 1 (d.map bv) rfl (by rw [List.length_map, HDL.out]) (MadeId.cells h34) (bv_one _) ?_ ?_ ?_ ?_
        · unfold maxLen; omega
        · omega
        · omega
        intro v' w' h3 h4 _
        have HO := Lib.hid h3
        have HBt := Lib.hid (HB9.out.grown h4 hs9 (fun k hk => (h29.lt k hk).1))
        clear h3 h4 h34 h29 hs
        go_wp2_with fail
        go_ret
        refine ⟨v', rfl, ?_, HBt.out⟩
        rw [E1.out, List.length_append, idsV_append, idsV_one]
        exact HO.out
    · exact base ls hm A c z w hbad
end Go.Proofs.YtppkjlmnnpfcfaaDoor
