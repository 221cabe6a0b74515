/- 'EntryOne': its walk. -/
import Derived.Test.YtomflniknnenaaaEnM
import Derived.Test.YtomflniknnenaaaCls
set_option linter.unusedVariables false
set_option linter.unusedSimpArgs false
namespace Go.Proofs.Ytomflniknnenaaa
open Go.RowKit
attribute [local go_sem ↓] loadAt_en loadAt_id
attribute [local go_sem] run_enLoad run_idLoad rowOf_drew rowOf_drewN
theorem read_back {b : List B8} (h : readE b = 0) : okB (readV b) ∧ pE (readV b) = b := by
  have hx : xE b = 0 := by
    unfold readE at h
    split at h <;> omega
  have hl : l6 b = [] := by
    unfold readE at h
    rw [if_neg (by omega)] at h
    split at h
    · assumption
    · omega
  have hv : readV b = bodV b := by unfold readV; rw [if_neg (by omega)]
  obtain ⟨h6, hok⟩ := xE_zero hx
  rw [hv]
  exact ⟨hok, by rw [pE_yes hok]; exact read_form h6 hl⟩
theorem own_len {w : World} {B n : Nat} {e : TypeId} {v : Value} {xs : List B8} (h : w.ownsRow B e 1 v n (xs.map bv)) : ∃ A c, v = .slice A n c ∧ Sl w w.heap.size A (xs.map bv) ∧ (A = none → c = 0) ∧ n ≤ c := by
  obtain ⟨A, c, rfl, hs, -, h1, h2⟩ := own_sl h
  exact ⟨A, c, rfl, hs, h2, h1⟩
theorem pE_le (e : Ent) (hd : e.d.length = 32) : (pE e).length ≤ 100 := by
  unfold pE
  split
  · rename_i h; exact formE_le e hd h
  · simp
set_option maxRecDepth 100000 in
set_option maxHeartbeats 8000000 in
theorem entryOne_any (A : Option Addr) (c : Nat) (b : List B8) (x y : Ent) (w : World) (hs : Sl w w.heap.size A (b.map bv)) (hA : A = none → c = 0) (hc : b.length ≤ c) (hm : b.length ≤ maxLen) (hx : x.d.length = 32) (hy : y.d.length = 32) :
    Calls Try.prog 5 #[.slice A b.length c, .agg x.cells.toArray, .agg y.cells.toArray] w fun e w' => e = .returned (.bool true) ∧ Turn (fun _ => False) w w' := by
  have AW := Lib.hid awake_any
  have AWB := Lib.hid (fun (w' : World) => (awake_any w').mono (fun _ _ ⟨h1, h2⟩ => And.intro h1 (show Below w'.heap.size w' _ from turn_stp' h2)))
  have PX := Lib.hid (fun w => put_any x w hx)
  have PY := Lib.hid (fun w => put_any y w hy)
  have hQ := fun w => eql_in_ent x y hx hy w
  have lx := pE_le x hx
  have ly := pE_le y hy
  have FE := Lib.hid (fun ox oy => form_inj (x := x) (y := y) hx hy ox oy)
  have FX := Lib.hid (fun (h : okB x) => pE_yes h)
  have FY := Lib.hid (fun (h : okB y) => pE_yes h)
  obtain ⟨LX, hLX⟩ : ∃ L, L = x.cells := ⟨_, rfl⟩
  obtain ⟨LY, hLY⟩ : ∃ L, L = y.cells := ⟨_, rfl⟩
  rw [← hLX] at PX hQ ⊢
  rw [← hLY] at PY hQ ⊢
  obtain ⟨z0, hz0⟩ : ∃ z, z = (w.alloc (.cells LX.toArray 26)).alloc (.cells LY.toArray 26) := ⟨_, rfl⟩
  have t0 : Turn (fun _ => False) w z0 := by rw [hz0]; exact ((Turn.refl _ _).alloc _).alloc _
  have g1 : z0.heap[w.heap.size]? = some (.cells LX.toArray 26 (0, 0)) := by rw [hz0]; exact heap_alloc2_old _ _ _
  have g2 : z0.heap[w.heap.size + 1]? = some (.cells LY.toArray 26 (0, 0)) := by rw [hz0]; exact heap_alloc2_new _ _ _
  have sX : LX.length = 37 := by rw [hLX, Ent.len _ hx]
  have sY : LY.length = 37 := by rw [hLY, Ent.len _ hy]
  have RF := Lib.hid (show ∀ w' : World, Turn (fun _ => False) z0 w' → rowOf w' w.heap.size 0 37 = some LX.toArray ∧ rowOf w' (w.heap.size + 1) 0 37 = some LY.toArray from fun w' t => ⟨row37_at g1 (by simp [sX]) t, row37_at g2 (by simp [sY]) t⟩)
  have RG := Lib.hid (show ∀ w' : World, Turn (fun _ => False) z0 w' → w'.rangeAt w.heap.size 0 LX ∧ w'.rangeAt (w.heap.size + 1) 0 LY from fun w' t => by
    refine ⟨fun j v hj => ?_, fun j v hj => ?_⟩
    · rw [Nat.zero_add, cell_of_row _ _ _ _ _ _ (t.heap g1 (fun h => h)), List.getElem?_toArray]; exact hj
    · rw [Nat.zero_add, cell_of_row _ _ _ _ _ _ (t.heap g2 (fun h => h)), List.getElem?_toArray]; exact hj)
  have ZX := Lib.hid (show (Try.prog.info? 26).map (·.size) = some LX.length by rw [sX]; exact en_info)
  have ZY := Lib.hid (show (Try.prog.info? 26).map (·.size) = some LY.length by rw [sY]; exact en_info)
  have HS0 := Lib.hid ((t0.sl hs (fun _ _ h => h)).more t0.size)
  have TW := Lib.hid t0
  have HT0 := Lib.hid (Turn.refl (fun _ => False) z0)
  have T1 := Lib.hid (fun (h : b.length ≤ 100) => read_any' A c b z0 HS0.out hA hc (by omega))
  have RL := readV_len b
  have TP := Lib.hid (fun w => put_any (readV b) w RL)
  have RB := Lib.hid (@read_back b)
  obtain ⟨C, hC⟩ : ∃ C, C = (readV b).cells.toArray := ⟨_, rfl⟩
  obtain ⟨E, hE⟩ : ∃ E, E = readE b := ⟨_, rfl⟩
  rw [← hC, ← hE] at T1
  rw [← hC] at TP
  rw [← hE] at RB
  have sC : C.size = 37 := by rw [hC, List.size_toArray, Ent.len _ RL]
  have K1 := Lib.hid (show (Try.prog.info? 26).map (·.size) = some C.size by rw [sC]; exact en_info)
  have K2 := Lib.hid (show Z37E.size = C.size by rw [sC]; rfl)
  have K3 := Lib.hid (show C.all (·.oneCell') = true by rw [hC]; exact Ent.one _)
  have HSC := Lib.hid sC
  have hzd := en_zero
  have HBY := Lib.hid (fun (X Y : Option Addr) (m n : Nat) (F G : List B8) (k l : Nat) (hk : F.length = k) (hl : G.length = l) (w' : World) (hX : Sl w' w'.heap.size X (F.map bv)) (hY : Sl w' w'.heap.size Y (G.map bv)) (h1 : k ≤ 100) (h2 : l ≤ 100) => show Calls Try.prog 12 #[.slice X k m, .slice Y l n] w' (fun e w'' => e = Ending.returned (.bool (decide (F = G))) ∧ Below w'.heap.size w' w'') from (rbytes_at X Y m n k l _ _ F G w' hX hY hk hl (by unfold maxLen; omega) (by unfold maxLen; omega)).mono (fun e w'' ⟨h1, n, h2⟩ => ⟨h1, by rw [h2]; exact ⟨rfl, rfl, rfl, Nat.le_refl _, fun _ _ => rfl⟩⟩))
  obtain ⟨bl, hbl⟩ : ∃ bl, bl = b.length := ⟨_, rfl⟩
  rw [← hbl] at T1 ⊢
  have HBL := Lib.hid hbl
  clear t0 g1 g2 hs hA hc hm hC hE sC hbl hx hy hLX hLY sX sY
  by_cases h1 : 100 < bl
  · have q0 : decide (100 < (bl : Int)) = true := by rw [decide_eq_true_eq]; omega
    clear h1 hQ
    go_enter Try.func5, Try.ntmps5
    go_upto_region 1 with fail
    change Code.wp _ _ _ _ ((w.alloc (.cells LX.toArray 26)).alloc (.cells LY.toArray 26))
    rw [← hz0]
    clear hz0
    go_wp2_with (go_at_call 10; refine (AW.out _).mono ?_; rintro r w9 ⟨rfl, t9⟩)
    go_ret
    exact ⟨rfl, TW.out.trans t9 (fun _ _ h => h)⟩
  have q0 : decide (100 < (bl : Int)) = false := by rw [decide_eq_false_iff_not]; omega
  have hb100 : bl ≤ 100 := by omega
  have T1 := Lib.hid (T1.out hb100)
  clear h1
  by_cases he : E = 0
  ·
    obtain ⟨rok, rpe⟩ := RB.out he
    rw [decide_eq_true rok, rpe] at TP
    subst he
    clear rok rpe RB
    by_cases ox : okB x
    ·
      rw [decide_eq_true ox] at PX
      by_cases oy : okB y
      ·
        rw [decide_eq_true oy] at PY
        have fe := FE.out ox oy
        rw [← FX.out ox, ← FY.out oy] at fe
        rw [← fe] at hQ
        clear fe ox oy FE FX FY
        obtain ⟨q, hq⟩ : ∃ q, decide (pE x = pE y) = q := ⟨_, rfl⟩
        rw [hq] at hQ
        have HBX := Lib.hid (fun (X Y : Option Addr) (m n : Nat) (w' : World) (hX : Sl w' w'.heap.size X ((pE x).map bv)) (hY : Sl w' w'.heap.size Y ((pE y).map bv)) => HBY.out X Y m n (pE x) (pE y) _ _ rfl rfl w' hX hY lx ly)
        rw [hq] at HBX
        clear hq
        cases q
        ·
          go_enter Try.func5, Try.ntmps5
          go_upto_region 1 with fail
          change Code.wp _ _ _ _ ((w.alloc (.cells LX.toArray 26)).alloc (.cells LY.toArray 26))
          rw [← hz0]
          clear hz0
          go_wp2_with fail
          refine T1.out.mono ?_
          rintro r z1 ⟨rfl, t1⟩
          have HA := Lib.hid (show (z1.alloc (.cells Z37E 26)).heap[z1.heap.size]? = some (.cells Z37E 26 (0, 0)) from heap_alloc_new _ _)
          have HT1 := Lib.hid t1
          clear t1 T1
          go_upto_region 4 with (refine wpList_store_row rfl _ _ _ rfl z1.heap.size C rfl rfl 26 Z37E HA.out K1.out K2.out K3.out ?_)
          obtain ⟨z2, hz2⟩ : ∃ z, z = (z1.alloc (.cells Z37E 26)).setRow z1.heap.size C := ⟨_, rfl⟩
          have HT2 := Lib.hid (show Turn (fun _ => False) z0 z2 by rw [hz2]; exact HT1.out.trans (((Turn.refl (fun _ => False) z1).alloc _).setRow _ _ (fun h => by omega)) (fun _ _ h => h))
          have R2 := Lib.hid (show z2.heap[z1.heap.size]? = some (.cells C 26 (0, 0)) by rw [hz2]; exact setRow_heap _ _ _ _ _ _ HA.out)
          change Code.wp _ _ _ _ ((z1.alloc (.cells Z37E 26)).setRow z1.heap.size C)
          rw [← hz2]
          clear hz2 HA HT1
          generalize z1.heap.size = p1 at *
          have HS2 := Lib.hid ((HT2.out.sl HS0.out (fun _ _ h => h)).more HT2.out.size)
          have hr2 := row37_at R2.out HSC.out (Turn.refl _ _)
          go_wp2_with (go_at_call 6; refine stop ?_)
          unfold Stop
          refine (TP.out z2).mono ?_
          rintro r z3 ⟨u3, rfl, ho, t⟩
          obtain ⟨A3, c3, rfl, s3, -, -⟩ := own_len ho
          have HT3 := Lib.hid (HT2.out.trans t (fun _ _ h => h))
          have HS3 := Lib.hid ((t.sl HS2.out (fun _ _ h => h)).more t.size)
          have S3 := Lib.hid s3
          clear ho s3 t hr2
          go_wp2_with (go_at_call 12; refine stop ?_)
          unfold Stop
          refine (HBY.out A A3 c c3 b b bl b.length HBL.out.symm rfl z3 HS3.out S3.out hb100 (by rw [← HBL.out]; exact hb100)).mono ?_
          rintro r z4 ⟨rfl, kk⟩
          have HT4 := Lib.hid (HT3.out.trans (Turn.of_below kk) (fun _ _ h => h))
          rw [show decide (b = b) = true from decide_eq_true rfl]
          clear kk HS2 HS3 S3 HT2 HT3 R2
          obtain ⟨r4, r4'⟩ := RF.out z4 HT4.out
          go_wp2_with (go_at_call 6; refine stop ?_)
          unfold Stop
          refine (PX.out z4).mono ?_
          rintro r z5 ⟨u5, rfl, ho, t⟩
          obtain ⟨A5, c5, rfl, s5, -, -⟩ := own_len ho
          have HT5 := Lib.hid (HT4.out.trans t (fun _ _ h => h))
          have S5 := Lib.hid s5
          clear ho s5 t r4 r4' HT4
          obtain ⟨r5, r5'⟩ := RF.out z5 HT5.out
          go_wp2_with (go_at_call 6; refine stop ?_)
          unfold Stop
          refine (PY.out z5).mono ?_
          rintro r z6 ⟨u6, rfl, ho, t⟩
          obtain ⟨A6, c6, rfl, s6, -, -⟩ := own_len ho
          have HT6 := Lib.hid (HT5.out.trans t (fun _ _ h => h))
          have S65 := Lib.hid ((t.sl S5.out (fun _ _ h => h)).more t.size)
          have S66 := Lib.hid s6
          clear ho s6 t r5 r5' HT5 S5
          go_upto_region 10 with fail
          have HWS := Lib.hid (fun (w' : World) (h : Stp z6.drew w') => show Turn (fun _ => False) z6 w' from Turn.of_below (stp_start h (Below.refl _ _)))
          have HW0 := Lib.hid (fun (w' : World) (h : Stp z6.drew w') => show Turn (fun _ => False) z0 w' from HT6.out.trans (HWS.out w' h) (fun _ _ h => h))
          have SX := Lib.hid (fun (w' : World) (h : Stp z6.drew w') => show Sl w' w'.heap.size A5 ((pE x).map bv) from ((HWS.out w' h).sl S65.out (fun _ _ h => h)).more (HWS.out w' h).size)
          have SY := Lib.hid (fun (w' : World) (h : Stp z6.drew w') => show Sl w' w'.heap.size A6 ((pE y).map bv) from ((HWS.out w' h).sl S66.out (fun _ _ h => h)).more (HWS.out w' h).size)
          refine wp_region_rel 67 Stp [.one ?_, .one ?_, .one ?_, .one ?_, .one ?_, .one ?_, .one ?_, .one ?_, .one ?_, .one ?_, .one ?_, .one ?_, .one ?_, .one ?_, .one ?_, .one ?_, .one ?_, .one ?_, .one ?_] (by kernel_rfl) (by kernel_rfl) rfl (by kernel_rfl) Stp.refl Stp.trans trivial ?main
          case main =>
          iterate 3
            refine wpR_one (A' := ?_) Stp.refl (by rfl) _ rfl 67 (by rfl) (by rfl) ?_ ?_ ?_
            rotate_left 1
            · simp only [Act.put, List.setIfInBounds_toArray, List.set_cons_zero, List.set_cons_succ]; rfl
            · intro w1 hs hf K hK
              go_big_quiet_op
              first
                | go_big_quiet_on
                | (refine ⟨_, fun _ _ => rfl, ?_⟩; go_big_quiet_on)
              rfl
          iterate 2
            refine wpR_one (A' := ?_) Stp.refl (by rfl) _ rfl 67 (by rfl) (by rfl) ?_ ?_ ?_
            rotate_left 1
            · simp only [Act.put, List.setIfInBounds_toArray, List.set_cons_zero, List.set_cons_succ]; rfl
            · intro w1 hs hf K hK
              go_big_quiet_op
              first
                | go_big_quiet_on
                | (refine ⟨_, fun _ _ => rfl, ?_⟩; go_big_quiet_on)
              rfl
          iterate 2
            refine wpR_one (A' := ?_) Stp.refl (by rfl) _ rfl 67 (by rfl) (by rfl) ?_ ?_ ?_
            rotate_left 1
            · simp only [Act.put, List.setIfInBounds_toArray, List.set_cons_zero, List.set_cons_succ]; rfl
            · intro w1 hs hf K hK
              go_big_quiet_op
              first
                | go_big_quiet_on
                | (refine ⟨_, fun _ _ => rfl, ?_⟩; go_big_quiet_on)
              rfl
          iterate 2
            refine wpR_one (A' := ?_) Stp.refl (by rfl) _ rfl 67 (by rfl) (by rfl) ?_ ?_ ?_
            rotate_left 1
            · simp only [Act.put, List.setIfInBounds_toArray, List.set_cons_zero, List.set_cons_succ]; rfl
            · intro w1 hs hf K hK
              go_big_quiet_op
              first
                | go_big_quiet_on
                | (refine ⟨_, fun _ _ => rfl, ?_⟩; go_big_quiet_on)
              rfl
          refine wpR_one (A' := ?_) Stp.refl (by rfl) _ rfl 67 (by rfl) (by rfl) ?_ ?_ ?_
          rotate_left 1
          · simp only [Act.put, List.setIfInBounds_toArray, List.set_cons_zero, List.set_cons_succ]; rfl
          · intro w1 hs hf K hK
            go_big_quiet_op
            apply Exists.intro
            refine ⟨fun w4 h2 => ?_, ?_⟩
            · refine (HBX.out A5 A6 c5 c6 w4 (SX.out w4 (Stp.trans _ _ _ hs h2)) (SY.out w4 (Stp.trans _ _ _ hs h2))).mono ?_
              rintro e w3 ⟨rfl, h3⟩
              exact ⟨rfl, Stp.trans _ _ _ h2 h3⟩
            · go_big_quiet_on
              rfl
          refine wpR_one (A' := ?_) Stp.refl (by rfl) _ rfl 67 (by rfl) (by rfl) ?_ ?_ ?_
          rotate_left 1
          · simp only [Act.put, List.setIfInBounds_toArray, List.set_cons_zero, List.set_cons_succ]; rfl
          · intro w1 hs hf K hK
            refine cls_load 26 (.tmp 4) rfl (w.heap.size) (0) rfl (LX) _ (fun w4 h2 => (RG.out w4 (HW0.out w4 (Stp.trans _ _ _ hs h2))).1) Try.underlying26 rfl ZX.out ?_
            refine hK _ ?_
            simp only [Act.put, List.setIfInBounds_toArray, List.set_cons_zero, List.set_cons_succ]
            rfl
          refine wpR_one (A' := ?_) Stp.refl (by rfl) _ rfl 67 (by rfl) (by rfl) ?_ ?_ ?_
          rotate_left 1
          · simp only [Act.put, List.setIfInBounds_toArray, List.set_cons_zero, List.set_cons_succ]; rfl
          · intro w1 hs hf K hK
            refine cls_load 26 (.tmp 5) rfl (w.heap.size + 1) (0) rfl (LY) _ (fun w4 h2 => (RG.out w4 (HW0.out w4 (Stp.trans _ _ _ hs h2))).2) Try.underlying26 rfl ZY.out ?_
            refine hK _ ?_
            simp only [Act.put, List.setIfInBounds_toArray, List.set_cons_zero, List.set_cons_succ]
            rfl
          iterate 2
            refine wpR_one (A' := ?_) Stp.refl (by rfl) _ rfl 67 (by rfl) (by rfl) ?_ ?_ ?_
            rotate_left 1
            · simp only [Act.put, List.setIfInBounds_toArray, List.set_cons_zero, List.set_cons_succ]; rfl
            · intro w1 hs hf K hK
              go_big_quiet_op
              first
                | go_big_quiet_on
                | (refine ⟨_, fun _ _ => rfl, ?_⟩; go_big_quiet_on)
              rfl
          iterate 2
            refine wpR_one (A' := ?_) Stp.refl (by rfl) _ rfl 67 (by rfl) (by rfl) ?_ ?_ ?_
            rotate_left 1
            · simp only [Act.put, List.setIfInBounds_toArray, List.set_cons_zero, List.set_cons_succ]; rfl
            · intro w1 hs hf K hK
              go_big_quiet_op
              first
                | go_big_quiet_on
                | (refine ⟨_, fun _ _ => rfl, ?_⟩; go_big_quiet_on)
              rfl
          refine wpR_one (A' := ?_) Stp.refl (by rfl) _ rfl 67 (by rfl) (by rfl) ?_ ?_ ?_
          rotate_left 1
          · simp only [Act.put, List.setIfInBounds_toArray, List.set_cons_zero, List.set_cons_succ]; rfl
          · intro w1 hs hf K hK
            go_big_quiet_op
            apply Exists.intro
            refine ⟨fun w4 h2 => ?_, ?_⟩
            · refine (AWB.out w4).mono ?_
              rintro e w3 ⟨rfl, h3⟩
              exact ⟨rfl, Stp.trans _ _ _ h2 h3⟩
            · go_big_quiet_on
              rfl
          iterate 2
            refine wpR_one (A' := ?_) Stp.refl (by rfl) _ rfl 67 (by rfl) (by rfl) ?_ ?_ ?_
            rotate_left 1
            · simp only [Act.put, List.setIfInBounds_toArray, List.set_cons_zero, List.set_cons_succ]; rfl
            · intro w1 hs hf K hK
              go_big_quiet_op
              first
                | go_big_quiet_on
                | (refine ⟨_, fun _ _ => rfl, ?_⟩; go_big_quiet_on)
              rfl
          intro w9 hs hf
          have HT9 := Lib.hid (HW0.out w9 hs)
          clear hs hf
          go_wp2
          go_ret
          exact ⟨rfl, TW.out.trans HT9.out (fun _ _ h => h)⟩
        ·
          go_enter Try.func5, Try.ntmps5
          go_upto_region 1 with fail
          change Code.wp _ _ _ _ ((w.alloc (.cells LX.toArray 26)).alloc (.cells LY.toArray 26))
          rw [← hz0]
          clear hz0
          go_wp2_with fail
          refine T1.out.mono ?_
          rintro r z1 ⟨rfl, t1⟩
          have HA := Lib.hid (show (z1.alloc (.cells Z37E 26)).heap[z1.heap.size]? = some (.cells Z37E 26 (0, 0)) from heap_alloc_new _ _)
          have HT1 := Lib.hid t1
          clear t1 T1
          go_upto_region 4 with (refine wpList_store_row rfl _ _ _ rfl z1.heap.size C rfl rfl 26 Z37E HA.out K1.out K2.out K3.out ?_)
          obtain ⟨z2, hz2⟩ : ∃ z, z = (z1.alloc (.cells Z37E 26)).setRow z1.heap.size C := ⟨_, rfl⟩
          have HT2 := Lib.hid (show Turn (fun _ => False) z0 z2 by rw [hz2]; exact HT1.out.trans (((Turn.refl (fun _ => False) z1).alloc _).setRow _ _ (fun h => by omega)) (fun _ _ h => h))
          have R2 := Lib.hid (show z2.heap[z1.heap.size]? = some (.cells C 26 (0, 0)) by rw [hz2]; exact setRow_heap _ _ _ _ _ _ HA.out)
          change Code.wp _ _ _ _ ((z1.alloc (.cells Z37E 26)).setRow z1.heap.size C)
          rw [← hz2]
          clear hz2 HA HT1
          generalize z1.heap.size = p1 at *
          have HS2 := Lib.hid ((HT2.out.sl HS0.out (fun _ _ h => h)).more HT2.out.size)
          have hr2 := row37_at R2.out HSC.out (Turn.refl _ _)
          go_wp2_with (go_at_call 6; refine stop ?_)
          unfold Stop
          refine (TP.out z2).mono ?_
          rintro r z3 ⟨u3, rfl, ho, t⟩
          obtain ⟨A3, c3, rfl, s3, -, -⟩ := own_len ho
          have HT3 := Lib.hid (HT2.out.trans t (fun _ _ h => h))
          have HS3 := Lib.hid ((t.sl HS2.out (fun _ _ h => h)).more t.size)
          have S3 := Lib.hid s3
          clear ho s3 t hr2
          go_wp2_with (go_at_call 12; refine stop ?_)
          unfold Stop
          refine (HBY.out A A3 c c3 b b bl b.length HBL.out.symm rfl z3 HS3.out S3.out hb100 (by rw [← HBL.out]; exact hb100)).mono ?_
          rintro r z4 ⟨rfl, kk⟩
          have HT4 := Lib.hid (HT3.out.trans (Turn.of_below kk) (fun _ _ h => h))
          rw [show decide (b = b) = true from decide_eq_true rfl]
          clear kk HS2 HS3 S3 HT2 HT3 R2
          obtain ⟨r4, r4'⟩ := RF.out z4 HT4.out
          go_wp2_with (go_at_call 6; refine stop ?_)
          unfold Stop
          refine (PX.out z4).mono ?_
          rintro r z5 ⟨u5, rfl, ho, t⟩
          obtain ⟨A5, c5, rfl, s5, -, -⟩ := own_len ho
          have HT5 := Lib.hid (HT4.out.trans t (fun _ _ h => h))
          have S5 := Lib.hid s5
          clear ho s5 t r4 r4' HT4
          obtain ⟨r5, r5'⟩ := RF.out z5 HT5.out
          go_wp2_with (go_at_call 6; refine stop ?_)
          unfold Stop
          refine (PY.out z5).mono ?_
          rintro r z6 ⟨u6, rfl, ho, t⟩
          obtain ⟨A6, c6, rfl, s6, -, -⟩ := own_len ho
          have HT6 := Lib.hid (HT5.out.trans t (fun _ _ h => h))
          have S65 := Lib.hid ((t.sl S5.out (fun _ _ h => h)).more t.size)
          have S66 := Lib.hid s6
          clear ho s6 t r5 r5' HT5 S5
          go_upto_region 10 with fail
          have HWS := Lib.hid (fun (w' : World) (h : Stp z6.drew w') => show Turn (fun _ => False) z6 w' from Turn.of_below (stp_start h (Below.refl _ _)))
          have HW0 := Lib.hid (fun (w' : World) (h : Stp z6.drew w') => show Turn (fun _ => False) z0 w' from HT6.out.trans (HWS.out w' h) (fun _ _ h => h))
          have SX := Lib.hid (fun (w' : World) (h : Stp z6.drew w') => show Sl w' w'.heap.size A5 ((pE x).map bv) from ((HWS.out w' h).sl S65.out (fun _ _ h => h)).more (HWS.out w' h).size)
          have SY := Lib.hid (fun (w' : World) (h : Stp z6.drew w') => show Sl w' w'.heap.size A6 ((pE y).map bv) from ((HWS.out w' h).sl S66.out (fun _ _ h => h)).more (HWS.out w' h).size)
          refine wp_region_rel 67 Stp [.one ?_, .one ?_, .one ?_, .one ?_, .one ?_, .one ?_, .one ?_, .one ?_, .one ?_, .one ?_, .one ?_, .one ?_, .one ?_, .one ?_, .one ?_, .one ?_, .one ?_, .one ?_, .one ?_] (by kernel_rfl) (by kernel_rfl) rfl (by kernel_rfl) Stp.refl Stp.trans trivial ?main
          case main =>
          iterate 3
            refine wpR_one (A' := ?_) Stp.refl (by rfl) _ rfl 67 (by rfl) (by rfl) ?_ ?_ ?_
            rotate_left 1
            · simp only [Act.put, List.setIfInBounds_toArray, List.set_cons_zero, List.set_cons_succ]; rfl
            · intro w1 hs hf K hK
              go_big_quiet_op
              first
                | go_big_quiet_on
                | (refine ⟨_, fun _ _ => rfl, ?_⟩; go_big_quiet_on)
              rfl
          iterate 2
            refine wpR_one (A' := ?_) Stp.refl (by rfl) _ rfl 67 (by rfl) (by rfl) ?_ ?_ ?_
            rotate_left 1
            · simp only [Act.put, List.setIfInBounds_toArray, List.set_cons_zero, List.set_cons_succ]; rfl
            · intro w1 hs hf K hK
              go_big_quiet_op
              first
                | go_big_quiet_on
                | (refine ⟨_, fun _ _ => rfl, ?_⟩; go_big_quiet_on)
              rfl
          iterate 2
            refine wpR_one (A' := ?_) Stp.refl (by rfl) _ rfl 67 (by rfl) (by rfl) ?_ ?_ ?_
            rotate_left 1
            · simp only [Act.put, List.setIfInBounds_toArray, List.set_cons_zero, List.set_cons_succ]; rfl
            · intro w1 hs hf K hK
              go_big_quiet_op
              first
                | go_big_quiet_on
                | (refine ⟨_, fun _ _ => rfl, ?_⟩; go_big_quiet_on)
              rfl
          iterate 2
            refine wpR_one (A' := ?_) Stp.refl (by rfl) _ rfl 67 (by rfl) (by rfl) ?_ ?_ ?_
            rotate_left 1
            · simp only [Act.put, List.setIfInBounds_toArray, List.set_cons_zero, List.set_cons_succ]; rfl
            · intro w1 hs hf K hK
              go_big_quiet_op
              first
                | go_big_quiet_on
                | (refine ⟨_, fun _ _ => rfl, ?_⟩; go_big_quiet_on)
              rfl
          refine wpR_one (A' := ?_) Stp.refl (by rfl) _ rfl 67 (by rfl) (by rfl) ?_ ?_ ?_
          rotate_left 1
          · simp only [Act.put, List.setIfInBounds_toArray, List.set_cons_zero, List.set_cons_succ]; rfl
          · intro w1 hs hf K hK
            go_big_quiet_op
            apply Exists.intro
            refine ⟨fun w4 h2 => ?_, ?_⟩
            · refine (HBX.out A5 A6 c5 c6 w4 (SX.out w4 (Stp.trans _ _ _ hs h2)) (SY.out w4 (Stp.trans _ _ _ hs h2))).mono ?_
              rintro e w3 ⟨rfl, h3⟩
              exact ⟨rfl, Stp.trans _ _ _ h2 h3⟩
            · go_big_quiet_on
              rfl
          refine wpR_one (A' := ?_) Stp.refl (by rfl) _ rfl 67 (by rfl) (by rfl) ?_ ?_ ?_
          rotate_left 1
          · simp only [Act.put, List.setIfInBounds_toArray, List.set_cons_zero, List.set_cons_succ]; rfl
          · intro w1 hs hf K hK
            refine cls_load 26 (.tmp 4) rfl (w.heap.size) (0) rfl (LX) _ (fun w4 h2 => (RG.out w4 (HW0.out w4 (Stp.trans _ _ _ hs h2))).1) Try.underlying26 rfl ZX.out ?_
            refine hK _ ?_
            simp only [Act.put, List.setIfInBounds_toArray, List.set_cons_zero, List.set_cons_succ]
            rfl
          refine wpR_one (A' := ?_) Stp.refl (by rfl) _ rfl 67 (by rfl) (by rfl) ?_ ?_ ?_
          rotate_left 1
          · simp only [Act.put, List.setIfInBounds_toArray, List.set_cons_zero, List.set_cons_succ]; rfl
          · intro w1 hs hf K hK
            refine cls_load 26 (.tmp 5) rfl (w.heap.size + 1) (0) rfl (LY) _ (fun w4 h2 => (RG.out w4 (HW0.out w4 (Stp.trans _ _ _ hs h2))).2) Try.underlying26 rfl ZY.out ?_
            refine hK _ ?_
            simp only [Act.put, List.setIfInBounds_toArray, List.set_cons_zero, List.set_cons_succ]
            rfl
          iterate 2
            refine wpR_one (A' := ?_) Stp.refl (by rfl) _ rfl 67 (by rfl) (by rfl) ?_ ?_ ?_
            rotate_left 1
            · simp only [Act.put, List.setIfInBounds_toArray, List.set_cons_zero, List.set_cons_succ]; rfl
            · intro w1 hs hf K hK
              go_big_quiet_op
              first
                | go_big_quiet_on
                | (refine ⟨_, fun _ _ => rfl, ?_⟩; go_big_quiet_on)
              rfl
          iterate 2
            refine wpR_one (A' := ?_) Stp.refl (by rfl) _ rfl 67 (by rfl) (by rfl) ?_ ?_ ?_
            rotate_left 1
            · simp only [Act.put, List.setIfInBounds_toArray, List.set_cons_zero, List.set_cons_succ]; rfl
            · intro w1 hs hf K hK
              go_big_quiet_op
              first
                | go_big_quiet_on
                | (refine ⟨_, fun _ _ => rfl, ?_⟩; go_big_quiet_on)
              rfl
          refine wpR_one (A' := ?_) Stp.refl (by rfl) _ rfl 67 (by rfl) (by rfl) ?_ ?_ ?_
          rotate_left 1
          · simp only [Act.put, List.setIfInBounds_toArray, List.set_cons_zero, List.set_cons_succ]; rfl
          · intro w1 hs hf K hK
            go_big_quiet_op
            apply Exists.intro
            refine ⟨fun w4 h2 => ?_, ?_⟩
            · refine (AWB.out w4).mono ?_
              rintro e w3 ⟨rfl, h3⟩
              exact ⟨rfl, Stp.trans _ _ _ h2 h3⟩
            · go_big_quiet_on
              rfl
          iterate 2
            refine wpR_one (A' := ?_) Stp.refl (by rfl) _ rfl 67 (by rfl) (by rfl) ?_ ?_ ?_
            rotate_left 1
            · simp only [Act.put, List.setIfInBounds_toArray, List.set_cons_zero, List.set_cons_succ]; rfl
            · intro w1 hs hf K hK
              go_big_quiet_op
              first
                | go_big_quiet_on
                | (refine ⟨_, fun _ _ => rfl, ?_⟩; go_big_quiet_on)
              rfl
          intro w9 hs hf
          have HT9 := Lib.hid (HW0.out w9 hs)
          clear hs hf
          go_wp2
          go_ret
          exact ⟨rfl, TW.out.trans HT9.out (fun _ _ h => h)⟩
      ·
        rw [decide_eq_false oy] at PY
        clear ox oy FE FX FY hQ
        go_enter Try.func5, Try.ntmps5
        go_upto_region 1 with fail
        change Code.wp _ _ _ _ ((w.alloc (.cells LX.toArray 26)).alloc (.cells LY.toArray 26))
        rw [← hz0]
        clear hz0
        go_wp2_with fail
        refine T1.out.mono ?_
        rintro r z1 ⟨rfl, t1⟩
        have HA := Lib.hid (show (z1.alloc (.cells Z37E 26)).heap[z1.heap.size]? = some (.cells Z37E 26 (0, 0)) from heap_alloc_new _ _)
        have HT1 := Lib.hid t1
        clear t1 T1
        go_upto_region 4 with (refine wpList_store_row rfl _ _ _ rfl z1.heap.size C rfl rfl 26 Z37E HA.out K1.out K2.out K3.out ?_)
        obtain ⟨z2, hz2⟩ : ∃ z, z = (z1.alloc (.cells Z37E 26)).setRow z1.heap.size C := ⟨_, rfl⟩
        have HT2 := Lib.hid (show Turn (fun _ => False) z0 z2 by rw [hz2]; exact HT1.out.trans (((Turn.refl (fun _ => False) z1).alloc _).setRow _ _ (fun h => by omega)) (fun _ _ h => h))
        have R2 := Lib.hid (show z2.heap[z1.heap.size]? = some (.cells C 26 (0, 0)) by rw [hz2]; exact setRow_heap _ _ _ _ _ _ HA.out)
        change Code.wp _ _ _ _ ((z1.alloc (.cells Z37E 26)).setRow z1.heap.size C)
        rw [← hz2]
        clear hz2 HA HT1
        generalize z1.heap.size = p1 at *
        have HS2 := Lib.hid ((HT2.out.sl HS0.out (fun _ _ h => h)).more HT2.out.size)
        have hr2 := row37_at R2.out HSC.out (Turn.refl _ _)
        go_wp2_with (go_at_call 6; refine stop ?_)
        unfold Stop
        refine (TP.out z2).mono ?_
        rintro r z3 ⟨u3, rfl, ho, t⟩
        obtain ⟨A3, c3, rfl, s3, -, -⟩ := own_len ho
        have HT3 := Lib.hid (HT2.out.trans t (fun _ _ h => h))
        have HS3 := Lib.hid ((t.sl HS2.out (fun _ _ h => h)).more t.size)
        have S3 := Lib.hid s3
        clear ho s3 t hr2
        go_wp2_with (go_at_call 12; refine stop ?_)
        unfold Stop
        refine (HBY.out A A3 c c3 b b bl b.length HBL.out.symm rfl z3 HS3.out S3.out hb100 (by rw [← HBL.out]; exact hb100)).mono ?_
        rintro r z4 ⟨rfl, kk⟩
        have HT4 := Lib.hid (HT3.out.trans (Turn.of_below kk) (fun _ _ h => h))
        rw [show decide (b = b) = true from decide_eq_true rfl]
        clear kk HS2 HS3 S3 HT2 HT3 R2
        obtain ⟨r4, r4'⟩ := RF.out z4 HT4.out
        go_wp2_with (go_at_call 6; refine stop ?_)
        unfold Stop
        refine (PX.out z4).mono ?_
        rintro r z5 ⟨u5, rfl, ho, t⟩
        obtain ⟨A5, c5, rfl, s5, -, -⟩ := own_len ho
        have HT5 := Lib.hid (HT4.out.trans t (fun _ _ h => h))
        have S5 := Lib.hid s5
        clear ho s5 t r4 r4' HT4
        obtain ⟨r5, r5'⟩ := RF.out z5 HT5.out
        go_wp2_with (go_at_call 6; refine stop ?_)
        unfold Stop
        refine (PY.out z5).mono ?_
        rintro r z6 ⟨u6, rfl, ho, t⟩
        obtain ⟨A6, c6, rfl, s6, -, -⟩ := own_len ho
        have HT6 := Lib.hid (HT5.out.trans t (fun _ _ h => h))
        have S65 := Lib.hid ((t.sl S5.out (fun _ _ h => h)).more t.size)
        have S66 := Lib.hid s6
        clear ho s6 t r5 r5' HT5 S5
        go_upto_region 10 with fail
        have HWS := Lib.hid (fun (w' : World) (h : Stp z6.drew w') => show Turn (fun _ => False) z6 w' from Turn.of_below (stp_start h (Below.refl _ _)))
        have HW0 := Lib.hid (fun (w' : World) (h : Stp z6.drew w') => show Turn (fun _ => False) z0 w' from HT6.out.trans (HWS.out w' h) (fun _ _ h => h))
        have SX := Lib.hid (fun (w' : World) (h : Stp z6.drew w') => show Sl w' w'.heap.size A5 ((pE x).map bv) from ((HWS.out w' h).sl S65.out (fun _ _ h => h)).more (HWS.out w' h).size)
        have SY := Lib.hid (fun (w' : World) (h : Stp z6.drew w') => show Sl w' w'.heap.size A6 ((pE y).map bv) from ((HWS.out w' h).sl S66.out (fun _ _ h => h)).more (HWS.out w' h).size)
        refine wp_region_rel 67 Stp [.one ?_, .one ?_, .one ?_, .one ?_, .one ?_, .one ?_, .one ?_, .one undef, .one undef, .one undef, .one undef, .one undef, .one undef, .one undef, .one ?_, .one ?_, .one ?_, .one ?_, .one ?_] (by kernel_rfl) (by kernel_rfl) rfl (by kernel_rfl) Stp.refl Stp.trans trivial ?main
        case main =>
        iterate 3
          refine wpR_one (A' := ?_) Stp.refl (by rfl) _ rfl 67 (by rfl) (by rfl) ?_ ?_ ?_
          rotate_left 1
          · simp only [Act.put, List.setIfInBounds_toArray, List.set_cons_zero, List.set_cons_succ]; rfl
          · intro w1 hs hf K hK
            go_big_quiet_op
            first
              | go_big_quiet_on
              | (refine ⟨_, fun _ _ => rfl, ?_⟩; go_big_quiet_on)
            rfl
        iterate 2
          refine wpR_one (A' := ?_) Stp.refl (by rfl) _ rfl 67 (by rfl) (by rfl) ?_ ?_ ?_
          rotate_left 1
          · simp only [Act.put, List.setIfInBounds_toArray, List.set_cons_zero, List.set_cons_succ]; rfl
          · intro w1 hs hf K hK
            go_big_quiet_op
            first
              | go_big_quiet_on
              | (refine ⟨_, fun _ _ => rfl, ?_⟩; go_big_quiet_on)
            rfl
        iterate 2
          refine wpR_one (A' := ?_) Stp.refl (by rfl) _ rfl 67 (by rfl) (by rfl) ?_ ?_ ?_
          rotate_left 1
          · simp only [Act.put, List.setIfInBounds_toArray, List.set_cons_zero, List.set_cons_succ]; rfl
          · intro w1 hs hf K hK
            go_big_quiet_op
            first
              | go_big_quiet_on
              | (refine ⟨_, fun _ _ => rfl, ?_⟩; go_big_quiet_on)
            rfl
        iterate 7
          refine wpR_skip (A' := ?_) (by rfl) ?_ ?_
          rotate_left 1
          · simp only [Act.put, List.setIfInBounds_toArray, List.set_cons_zero, List.set_cons_succ]; rfl
        iterate 2
          refine wpR_one (A' := ?_) Stp.refl (by rfl) _ rfl 67 (by rfl) (by rfl) ?_ ?_ ?_
          rotate_left 1
          · simp only [Act.put, List.setIfInBounds_toArray, List.set_cons_zero, List.set_cons_succ]; rfl
          · intro w1 hs hf K hK
            go_big_quiet_op
            first
              | go_big_quiet_on
              | (refine ⟨_, fun _ _ => rfl, ?_⟩; go_big_quiet_on)
            rfl
        refine wpR_one (A' := ?_) Stp.refl (by rfl) _ rfl 67 (by rfl) (by rfl) ?_ ?_ ?_
        rotate_left 1
        · simp only [Act.put, List.setIfInBounds_toArray, List.set_cons_zero, List.set_cons_succ]; rfl
        · intro w1 hs hf K hK
          go_big_quiet_op
          apply Exists.intro
          refine ⟨fun w4 h2 => ?_, ?_⟩
          · refine (AWB.out w4).mono ?_
            rintro e w3 ⟨rfl, h3⟩
            exact ⟨rfl, Stp.trans _ _ _ h2 h3⟩
          · go_big_quiet_on
            rfl
        iterate 2
          refine wpR_one (A' := ?_) Stp.refl (by rfl) _ rfl 67 (by rfl) (by rfl) ?_ ?_ ?_
          rotate_left 1
          · simp only [Act.put, List.setIfInBounds_toArray, List.set_cons_zero, List.set_cons_succ]; rfl
          · intro w1 hs hf K hK
            go_big_quiet_op
            first
              | go_big_quiet_on
              | (refine ⟨_, fun _ _ => rfl, ?_⟩; go_big_quiet_on)
            rfl
        intro w9 hs hf
        have HT9 := Lib.hid (HW0.out w9 hs)
        clear hs hf
        go_wp2
        go_ret
        exact ⟨rfl, TW.out.trans HT9.out (fun _ _ h => h)⟩
    ·
      rw [decide_eq_false ox] at PX
      clear ox FE FX FY hQ
      go_enter Try.func5, Try.ntmps5
      go_upto_region 1 with fail
      change Code.wp _ _ _ _ ((w.alloc (.cells LX.toArray 26)).alloc (.cells LY.toArray 26))
      rw [← hz0]
      clear hz0
      go_wp2_with fail
      refine T1.out.mono ?_
      rintro r z1 ⟨rfl, t1⟩
      have HA := Lib.hid (show (z1.alloc (.cells Z37E 26)).heap[z1.heap.size]? = some (.cells Z37E 26 (0, 0)) from heap_alloc_new _ _)
      have HT1 := Lib.hid t1
      clear t1 T1
      go_upto_region 4 with (refine wpList_store_row rfl _ _ _ rfl z1.heap.size C rfl rfl 26 Z37E HA.out K1.out K2.out K3.out ?_)
      obtain ⟨z2, hz2⟩ : ∃ z, z = (z1.alloc (.cells Z37E 26)).setRow z1.heap.size C := ⟨_, rfl⟩
      have HT2 := Lib.hid (show Turn (fun _ => False) z0 z2 by rw [hz2]; exact HT1.out.trans (((Turn.refl (fun _ => False) z1).alloc _).setRow _ _ (fun h => by omega)) (fun _ _ h => h))
      have R2 := Lib.hid (show z2.heap[z1.heap.size]? = some (.cells C 26 (0, 0)) by rw [hz2]; exact setRow_heap _ _ _ _ _ _ HA.out)
      change Code.wp _ _ _ _ ((z1.alloc (.cells Z37E 26)).setRow z1.heap.size C)
      rw [← hz2]
      clear hz2 HA HT1
      generalize z1.heap.size = p1 at *
      have HS2 := Lib.hid ((HT2.out.sl HS0.out (fun _ _ h => h)).more HT2.out.size)
      have hr2 := row37_at R2.out HSC.out (Turn.refl _ _)
      go_wp2_with (go_at_call 6; refine stop ?_)
      unfold Stop
      refine (TP.out z2).mono ?_
      rintro r z3 ⟨u3, rfl, ho, t⟩
      obtain ⟨A3, c3, rfl, s3, -, -⟩ := own_len ho
      have HT3 := Lib.hid (HT2.out.trans t (fun _ _ h => h))
      have HS3 := Lib.hid ((t.sl HS2.out (fun _ _ h => h)).more t.size)
      have S3 := Lib.hid s3
      clear ho s3 t hr2
      go_wp2_with (go_at_call 12; refine stop ?_)
      unfold Stop
      refine (HBY.out A A3 c c3 b b bl b.length HBL.out.symm rfl z3 HS3.out S3.out hb100 (by rw [← HBL.out]; exact hb100)).mono ?_
      rintro r z4 ⟨rfl, kk⟩
      have HT4 := Lib.hid (HT3.out.trans (Turn.of_below kk) (fun _ _ h => h))
      rw [show decide (b = b) = true from decide_eq_true rfl]
      clear kk HS2 HS3 S3 HT2 HT3 R2
      obtain ⟨r4, r4'⟩ := RF.out z4 HT4.out
      go_wp2_with (go_at_call 6; refine stop ?_)
      unfold Stop
      refine (PX.out z4).mono ?_
      rintro r z5 ⟨u5, rfl, ho, t⟩
      obtain ⟨A5, c5, rfl, s5, -, -⟩ := own_len ho
      have HT5 := Lib.hid (HT4.out.trans t (fun _ _ h => h))
      have S5 := Lib.hid s5
      clear ho s5 t r4 r4' HT4
      obtain ⟨r5, r5'⟩ := RF.out z5 HT5.out
      go_wp2_with (go_at_call 6; refine stop ?_)
      unfold Stop
      refine (PY.out z5).mono ?_
      rintro r z6 ⟨u6, rfl, ho, t⟩
      obtain ⟨A6, c6, rfl, s6, -, -⟩ := own_len ho
      have HT6 := Lib.hid (HT5.out.trans t (fun _ _ h => h))
      have S65 := Lib.hid ((t.sl S5.out (fun _ _ h => h)).more t.size)
      have S66 := Lib.hid s6
      clear ho s6 t r5 r5' HT5 S5
      go_upto_region 10 with fail
      have HWS := Lib.hid (fun (w' : World) (h : Stp z6.drew w') => show Turn (fun _ => False) z6 w' from Turn.of_below (stp_start h (Below.refl _ _)))
      have HW0 := Lib.hid (fun (w' : World) (h : Stp z6.drew w') => show Turn (fun _ => False) z0 w' from HT6.out.trans (HWS.out w' h) (fun _ _ h => h))
      have SX := Lib.hid (fun (w' : World) (h : Stp z6.drew w') => show Sl w' w'.heap.size A5 ((pE x).map bv) from ((HWS.out w' h).sl S65.out (fun _ _ h => h)).more (HWS.out w' h).size)
      have SY := Lib.hid (fun (w' : World) (h : Stp z6.drew w') => show Sl w' w'.heap.size A6 ((pE y).map bv) from ((HWS.out w' h).sl S66.out (fun _ _ h => h)).more (HWS.out w' h).size)
      refine wp_region_rel 67 Stp [.one ?_, .one ?_, .one ?_, .one undef, .one undef, .one ?_, .one ?_, .one undef, .one undef, .one undef, .one undef, .one undef, .one undef, .one undef, .one ?_, .one ?_, .one ?_, .one ?_, .one ?_] (by kernel_rfl) (by kernel_rfl) rfl (by kernel_rfl) Stp.refl Stp.trans trivial ?main
      case main =>
      iterate 3
        refine wpR_one (A' := ?_) Stp.refl (by rfl) _ rfl 67 (by rfl) (by rfl) ?_ ?_ ?_
        rotate_left 1
        · simp only [Act.put, List.setIfInBounds_toArray, List.set_cons_zero, List.set_cons_succ]; rfl
        · intro w1 hs hf K hK
          go_big_quiet_op
          first
            | go_big_quiet_on
            | (refine ⟨_, fun _ _ => rfl, ?_⟩; go_big_quiet_on)
          rfl
      iterate 2
        refine wpR_skip (A' := ?_) (by rfl) ?_ ?_
        rotate_left 1
        · simp only [Act.put, List.setIfInBounds_toArray, List.set_cons_zero, List.set_cons_succ]; rfl
      iterate 2
        refine wpR_one (A' := ?_) Stp.refl (by rfl) _ rfl 67 (by rfl) (by rfl) ?_ ?_ ?_
        rotate_left 1
        · simp only [Act.put, List.setIfInBounds_toArray, List.set_cons_zero, List.set_cons_succ]; rfl
        · intro w1 hs hf K hK
          go_big_quiet_op
          first
            | go_big_quiet_on
            | (refine ⟨_, fun _ _ => rfl, ?_⟩; go_big_quiet_on)
          rfl
      iterate 7
        refine wpR_skip (A' := ?_) (by rfl) ?_ ?_
        rotate_left 1
        · simp only [Act.put, List.setIfInBounds_toArray, List.set_cons_zero, List.set_cons_succ]; rfl
      iterate 2
        refine wpR_one (A' := ?_) Stp.refl (by rfl) _ rfl 67 (by rfl) (by rfl) ?_ ?_ ?_
        rotate_left 1
        · simp only [Act.put, List.setIfInBounds_toArray, List.set_cons_zero, List.set_cons_succ]; rfl
        · intro w1 hs hf K hK
          go_big_quiet_op
          first
            | go_big_quiet_on
            | (refine ⟨_, fun _ _ => rfl, ?_⟩; go_big_quiet_on)
          rfl
      refine wpR_one (A' := ?_) Stp.refl (by rfl) _ rfl 67 (by rfl) (by rfl) ?_ ?_ ?_
      rotate_left 1
      · simp only [Act.put, List.setIfInBounds_toArray, List.set_cons_zero, List.set_cons_succ]; rfl
      · intro w1 hs hf K hK
        go_big_quiet_op
        apply Exists.intro
        refine ⟨fun w4 h2 => ?_, ?_⟩
        · refine (AWB.out w4).mono ?_
          rintro e w3 ⟨rfl, h3⟩
          exact ⟨rfl, Stp.trans _ _ _ h2 h3⟩
        · go_big_quiet_on
          rfl
      iterate 2
        refine wpR_one (A' := ?_) Stp.refl (by rfl) _ rfl 67 (by rfl) (by rfl) ?_ ?_ ?_
        rotate_left 1
        · simp only [Act.put, List.setIfInBounds_toArray, List.set_cons_zero, List.set_cons_succ]; rfl
        · intro w1 hs hf K hK
          go_big_quiet_op
          first
            | go_big_quiet_on
            | (refine ⟨_, fun _ _ => rfl, ?_⟩; go_big_quiet_on)
          rfl
      intro w9 hs hf
      have HT9 := Lib.hid (HW0.out w9 hs)
      clear hs hf
      go_wp2
      go_ret
      exact ⟨rfl, TW.out.trans HT9.out (fun _ _ h => h)⟩
  ·
    clear RB TP
    by_cases ox : okB x
    ·
      rw [decide_eq_true ox] at PX
      by_cases oy : okB y
      ·
        rw [decide_eq_true oy] at PY
        have fe := FE.out ox oy
        rw [← FX.out ox, ← FY.out oy] at fe
        rw [← fe] at hQ
        clear fe ox oy FE FX FY
        obtain ⟨q, hq⟩ : ∃ q, decide (pE x = pE y) = q := ⟨_, rfl⟩
        rw [hq] at hQ
        have HBX := Lib.hid (fun (X Y : Option Addr) (m n : Nat) (w' : World) (hX : Sl w' w'.heap.size X ((pE x).map bv)) (hY : Sl w' w'.heap.size Y ((pE y).map bv)) => HBY.out X Y m n (pE x) (pE y) _ _ rfl rfl w' hX hY lx ly)
        rw [hq] at HBX
        clear hq
        cases q
        ·
          go_enter Try.func5, Try.ntmps5
          go_upto_region 1 with fail
          change Code.wp _ _ _ _ ((w.alloc (.cells LX.toArray 26)).alloc (.cells LY.toArray 26))
          rw [← hz0]
          clear hz0
          go_wp2_with fail
          refine T1.out.mono ?_
          rintro r z1 ⟨rfl, t1⟩
          have HA := Lib.hid (show (z1.alloc (.cells Z37E 26)).heap[z1.heap.size]? = some (.cells Z37E 26 (0, 0)) from heap_alloc_new _ _)
          have HT1 := Lib.hid t1
          clear t1 T1
          go_upto_region 4 with (refine wpList_store_row rfl _ _ _ rfl z1.heap.size C rfl rfl 26 Z37E HA.out K1.out K2.out K3.out ?_)
          obtain ⟨z2, hz2⟩ : ∃ z, z = (z1.alloc (.cells Z37E 26)).setRow z1.heap.size C := ⟨_, rfl⟩
          have HT2 := Lib.hid (show Turn (fun _ => False) z0 z2 by rw [hz2]; exact HT1.out.trans (((Turn.refl (fun _ => False) z1).alloc _).setRow _ _ (fun h => by omega)) (fun _ _ h => h))
          have R2 := Lib.hid (show z2.heap[z1.heap.size]? = some (.cells C 26 (0, 0)) by rw [hz2]; exact setRow_heap _ _ _ _ _ _ HA.out)
          change Code.wp _ _ _ _ ((z1.alloc (.cells Z37E 26)).setRow z1.heap.size C)
          rw [← hz2]
          clear hz2 HA HT1
          generalize z1.heap.size = p1 at *
          obtain ⟨z4, hz4⟩ : ∃ z, z = z2 := ⟨_, rfl⟩
          have HT4 := Lib.hid (show Turn (fun _ => False) z0 z4 by rw [hz4]; exact HT2.out)
          have hez : ((E : Int) == 0) = false := by simp; omega
          rw [← hz4]
          clear hz4 HT2 R2
          obtain ⟨r4, r4'⟩ := RF.out z4 HT4.out
          go_wp2_with (go_at_call 6; refine stop ?_)
          unfold Stop
          refine (PX.out z4).mono ?_
          rintro r z5 ⟨u5, rfl, ho, t⟩
          obtain ⟨A5, c5, rfl, s5, -, -⟩ := own_len ho
          have HT5 := Lib.hid (HT4.out.trans t (fun _ _ h => h))
          have S5 := Lib.hid s5
          clear ho s5 t r4 r4' HT4
          obtain ⟨r5, r5'⟩ := RF.out z5 HT5.out
          go_wp2_with (go_at_call 6; refine stop ?_)
          unfold Stop
          refine (PY.out z5).mono ?_
          rintro r z6 ⟨u6, rfl, ho, t⟩
          obtain ⟨A6, c6, rfl, s6, -, -⟩ := own_len ho
          have HT6 := Lib.hid (HT5.out.trans t (fun _ _ h => h))
          have S65 := Lib.hid ((t.sl S5.out (fun _ _ h => h)).more t.size)
          have S66 := Lib.hid s6
          clear ho s6 t r5 r5' HT5 S5
          go_upto_region 10 with fail
          have HWS := Lib.hid (fun (w' : World) (h : Stp z6.drew w') => show Turn (fun _ => False) z6 w' from Turn.of_below (stp_start h (Below.refl _ _)))
          have HW0 := Lib.hid (fun (w' : World) (h : Stp z6.drew w') => show Turn (fun _ => False) z0 w' from HT6.out.trans (HWS.out w' h) (fun _ _ h => h))
          have SX := Lib.hid (fun (w' : World) (h : Stp z6.drew w') => show Sl w' w'.heap.size A5 ((pE x).map bv) from ((HWS.out w' h).sl S65.out (fun _ _ h => h)).more (HWS.out w' h).size)
          have SY := Lib.hid (fun (w' : World) (h : Stp z6.drew w') => show Sl w' w'.heap.size A6 ((pE y).map bv) from ((HWS.out w' h).sl S66.out (fun _ _ h => h)).more (HWS.out w' h).size)
          refine wp_region_rel 67 Stp [.one ?_, .one ?_, .one ?_, .one ?_, .one ?_, .one ?_, .one ?_, .one ?_, .one ?_, .one ?_, .one ?_, .one ?_, .one ?_, .one ?_, .one ?_, .one ?_, .one ?_, .one ?_, .one ?_] (by kernel_rfl) (by kernel_rfl) rfl (by kernel_rfl) Stp.refl Stp.trans trivial ?main
          case main =>
          iterate 3
            refine wpR_one (A' := ?_) Stp.refl (by rfl) _ rfl 67 (by rfl) (by rfl) ?_ ?_ ?_
            rotate_left 1
            · simp only [Act.put, List.setIfInBounds_toArray, List.set_cons_zero, List.set_cons_succ]; rfl
            · intro w1 hs hf K hK
              go_big_quiet_op
              first
                | go_big_quiet_on
                | (refine ⟨_, fun _ _ => rfl, ?_⟩; go_big_quiet_on)
              rfl
          iterate 2
            refine wpR_one (A' := ?_) Stp.refl (by rfl) _ rfl 67 (by rfl) (by rfl) ?_ ?_ ?_
            rotate_left 1
            · simp only [Act.put, List.setIfInBounds_toArray, List.set_cons_zero, List.set_cons_succ]; rfl
            · intro w1 hs hf K hK
              go_big_quiet_op
              first
                | go_big_quiet_on
                | (refine ⟨_, fun _ _ => rfl, ?_⟩; go_big_quiet_on)
              rfl
          iterate 2
            refine wpR_one (A' := ?_) Stp.refl (by rfl) _ rfl 67 (by rfl) (by rfl) ?_ ?_ ?_
            rotate_left 1
            · simp only [Act.put, List.setIfInBounds_toArray, List.set_cons_zero, List.set_cons_succ]; rfl
            · intro w1 hs hf K hK
              go_big_quiet_op
              first
                | go_big_quiet_on
                | (refine ⟨_, fun _ _ => rfl, ?_⟩; go_big_quiet_on)
              rfl
          iterate 2
            refine wpR_one (A' := ?_) Stp.refl (by rfl) _ rfl 67 (by rfl) (by rfl) ?_ ?_ ?_
            rotate_left 1
            · simp only [Act.put, List.setIfInBounds_toArray, List.set_cons_zero, List.set_cons_succ]; rfl
            · intro w1 hs hf K hK
              go_big_quiet_op
              first
                | go_big_quiet_on
                | (refine ⟨_, fun _ _ => rfl, ?_⟩; go_big_quiet_on)
              rfl
          refine wpR_one (A' := ?_) Stp.refl (by rfl) _ rfl 67 (by rfl) (by rfl) ?_ ?_ ?_
          rotate_left 1
          · simp only [Act.put, List.setIfInBounds_toArray, List.set_cons_zero, List.set_cons_succ]; rfl
          · intro w1 hs hf K hK
            go_big_quiet_op
            apply Exists.intro
            refine ⟨fun w4 h2 => ?_, ?_⟩
            · refine (HBX.out A5 A6 c5 c6 w4 (SX.out w4 (Stp.trans _ _ _ hs h2)) (SY.out w4 (Stp.trans _ _ _ hs h2))).mono ?_
              rintro e w3 ⟨rfl, h3⟩
              exact ⟨rfl, Stp.trans _ _ _ h2 h3⟩
            · go_big_quiet_on
              rfl
          refine wpR_one (A' := ?_) Stp.refl (by rfl) _ rfl 67 (by rfl) (by rfl) ?_ ?_ ?_
          rotate_left 1
          · simp only [Act.put, List.setIfInBounds_toArray, List.set_cons_zero, List.set_cons_succ]; rfl
          · intro w1 hs hf K hK
            refine cls_load 26 (.tmp 4) rfl (w.heap.size) (0) rfl (LX) _ (fun w4 h2 => (RG.out w4 (HW0.out w4 (Stp.trans _ _ _ hs h2))).1) Try.underlying26 rfl ZX.out ?_
            refine hK _ ?_
            simp only [Act.put, List.setIfInBounds_toArray, List.set_cons_zero, List.set_cons_succ]
            rfl
          refine wpR_one (A' := ?_) Stp.refl (by rfl) _ rfl 67 (by rfl) (by rfl) ?_ ?_ ?_
          rotate_left 1
          · simp only [Act.put, List.setIfInBounds_toArray, List.set_cons_zero, List.set_cons_succ]; rfl
          · intro w1 hs hf K hK
            refine cls_load 26 (.tmp 5) rfl (w.heap.size + 1) (0) rfl (LY) _ (fun w4 h2 => (RG.out w4 (HW0.out w4 (Stp.trans _ _ _ hs h2))).2) Try.underlying26 rfl ZY.out ?_
            refine hK _ ?_
            simp only [Act.put, List.setIfInBounds_toArray, List.set_cons_zero, List.set_cons_succ]
            rfl
          iterate 2
            refine wpR_one (A' := ?_) Stp.refl (by rfl) _ rfl 67 (by rfl) (by rfl) ?_ ?_ ?_
            rotate_left 1
            · simp only [Act.put, List.setIfInBounds_toArray, List.set_cons_zero, List.set_cons_succ]; rfl
            · intro w1 hs hf K hK
              go_big_quiet_op
              first
                | go_big_quiet_on
                | (refine ⟨_, fun _ _ => rfl, ?_⟩; go_big_quiet_on)
              rfl
          iterate 2
            refine wpR_one (A' := ?_) Stp.refl (by rfl) _ rfl 67 (by rfl) (by rfl) ?_ ?_ ?_
            rotate_left 1
            · simp only [Act.put, List.setIfInBounds_toArray, List.set_cons_zero, List.set_cons_succ]; rfl
            · intro w1 hs hf K hK
              go_big_quiet_op
              first
                | go_big_quiet_on
                | (refine ⟨_, fun _ _ => rfl, ?_⟩; go_big_quiet_on)
              rfl
          refine wpR_one (A' := ?_) Stp.refl (by rfl) _ rfl 67 (by rfl) (by rfl) ?_ ?_ ?_
          rotate_left 1
          · simp only [Act.put, List.setIfInBounds_toArray, List.set_cons_zero, List.set_cons_succ]; rfl
          · intro w1 hs hf K hK
            go_big_quiet_op
            apply Exists.intro
            refine ⟨fun w4 h2 => ?_, ?_⟩
            · refine (AWB.out w4).mono ?_
              rintro e w3 ⟨rfl, h3⟩
              exact ⟨rfl, Stp.trans _ _ _ h2 h3⟩
            · go_big_quiet_on
              rfl
          iterate 2
            refine wpR_one (A' := ?_) Stp.refl (by rfl) _ rfl 67 (by rfl) (by rfl) ?_ ?_ ?_
            rotate_left 1
            · simp only [Act.put, List.setIfInBounds_toArray, List.set_cons_zero, List.set_cons_succ]; rfl
            · intro w1 hs hf K hK
              go_big_quiet_op
              first
                | go_big_quiet_on
                | (refine ⟨_, fun _ _ => rfl, ?_⟩; go_big_quiet_on)
              rfl
          intro w9 hs hf
          have HT9 := Lib.hid (HW0.out w9 hs)
          clear hs hf
          go_wp2
          go_ret
          exact ⟨rfl, TW.out.trans HT9.out (fun _ _ h => h)⟩
        ·
          go_enter Try.func5, Try.ntmps5
          go_upto_region 1 with fail
          change Code.wp _ _ _ _ ((w.alloc (.cells LX.toArray 26)).alloc (.cells LY.toArray 26))
          rw [← hz0]
          clear hz0
          go_wp2_with fail
          refine T1.out.mono ?_
          rintro r z1 ⟨rfl, t1⟩
          have HA := Lib.hid (show (z1.alloc (.cells Z37E 26)).heap[z1.heap.size]? = some (.cells Z37E 26 (0, 0)) from heap_alloc_new _ _)
          have HT1 := Lib.hid t1
          clear t1 T1
          go_upto_region 4 with (refine wpList_store_row rfl _ _ _ rfl z1.heap.size C rfl rfl 26 Z37E HA.out K1.out K2.out K3.out ?_)
          obtain ⟨z2, hz2⟩ : ∃ z, z = (z1.alloc (.cells Z37E 26)).setRow z1.heap.size C := ⟨_, rfl⟩
          have HT2 := Lib.hid (show Turn (fun _ => False) z0 z2 by rw [hz2]; exact HT1.out.trans (((Turn.refl (fun _ => False) z1).alloc _).setRow _ _ (fun h => by omega)) (fun _ _ h => h))
          have R2 := Lib.hid (show z2.heap[z1.heap.size]? = some (.cells C 26 (0, 0)) by rw [hz2]; exact setRow_heap _ _ _ _ _ _ HA.out)
          change Code.wp _ _ _ _ ((z1.alloc (.cells Z37E 26)).setRow z1.heap.size C)
          rw [← hz2]
          clear hz2 HA HT1
          generalize z1.heap.size = p1 at *
          obtain ⟨z4, hz4⟩ : ∃ z, z = z2 := ⟨_, rfl⟩
          have HT4 := Lib.hid (show Turn (fun _ => False) z0 z4 by rw [hz4]; exact HT2.out)
          have hez : ((E : Int) == 0) = false := by simp; omega
          rw [← hz4]
          clear hz4 HT2 R2
          obtain ⟨r4, r4'⟩ := RF.out z4 HT4.out
          go_wp2_with (go_at_call 6; refine stop ?_)
          unfold Stop
          refine (PX.out z4).mono ?_
          rintro r z5 ⟨u5, rfl, ho, t⟩
          obtain ⟨A5, c5, rfl, s5, -, -⟩ := own_len ho
          have HT5 := Lib.hid (HT4.out.trans t (fun _ _ h => h))
          have S5 := Lib.hid s5
          clear ho s5 t r4 r4' HT4
          obtain ⟨r5, r5'⟩ := RF.out z5 HT5.out
          go_wp2_with (go_at_call 6; refine stop ?_)
          unfold Stop
          refine (PY.out z5).mono ?_
          rintro r z6 ⟨u6, rfl, ho, t⟩
          obtain ⟨A6, c6, rfl, s6, -, -⟩ := own_len ho
          have HT6 := Lib.hid (HT5.out.trans t (fun _ _ h => h))
          have S65 := Lib.hid ((t.sl S5.out (fun _ _ h => h)).more t.size)
          have S66 := Lib.hid s6
          clear ho s6 t r5 r5' HT5 S5
          go_upto_region 10 with fail
          have HWS := Lib.hid (fun (w' : World) (h : Stp z6.drew w') => show Turn (fun _ => False) z6 w' from Turn.of_below (stp_start h (Below.refl _ _)))
          have HW0 := Lib.hid (fun (w' : World) (h : Stp z6.drew w') => show Turn (fun _ => False) z0 w' from HT6.out.trans (HWS.out w' h) (fun _ _ h => h))
          have SX := Lib.hid (fun (w' : World) (h : Stp z6.drew w') => show Sl w' w'.heap.size A5 ((pE x).map bv) from ((HWS.out w' h).sl S65.out (fun _ _ h => h)).more (HWS.out w' h).size)
          have SY := Lib.hid (fun (w' : World) (h : Stp z6.drew w') => show Sl w' w'.heap.size A6 ((pE y).map bv) from ((HWS.out w' h).sl S66.out (fun _ _ h => h)).more (HWS.out w' h).size)
          refine wp_region_rel 67 Stp [.one ?_, .one ?_, .one ?_, .one ?_, .one ?_, .one ?_, .one ?_, .one ?_, .one ?_, .one ?_, .one ?_, .one ?_, .one ?_, .one ?_, .one ?_, .one ?_, .one ?_, .one ?_, .one ?_] (by kernel_rfl) (by kernel_rfl) rfl (by kernel_rfl) Stp.refl Stp.trans trivial ?main
          case main =>
          iterate 3
            refine wpR_one (A' := ?_) Stp.refl (by rfl) _ rfl 67 (by rfl) (by rfl) ?_ ?_ ?_
            rotate_left 1
            · simp only [Act.put, List.setIfInBounds_toArray, List.set_cons_zero, List.set_cons_succ]; rfl
            · intro w1 hs hf K hK
              go_big_quiet_op
              first
                | go_big_quiet_on
                | (refine ⟨_, fun _ _ => rfl, ?_⟩; go_big_quiet_on)
              rfl
          iterate 2
            refine wpR_one (A' := ?_) Stp.refl (by rfl) _ rfl 67 (by rfl) (by rfl) ?_ ?_ ?_
            rotate_left 1
            · simp only [Act.put, List.setIfInBounds_toArray, List.set_cons_zero, List.set_cons_succ]; rfl
            · intro w1 hs hf K hK
              go_big_quiet_op
              first
                | go_big_quiet_on
                | (refine ⟨_, fun _ _ => rfl, ?_⟩; go_big_quiet_on)
              rfl
          iterate 2
            refine wpR_one (A' := ?_) Stp.refl (by rfl) _ rfl 67 (by rfl) (by rfl) ?_ ?_ ?_
            rotate_left 1
            · simp only [Act.put, List.setIfInBounds_toArray, List.set_cons_zero, List.set_cons_succ]; rfl
            · intro w1 hs hf K hK
              go_big_quiet_op
              first
                | go_big_quiet_on
                | (refine ⟨_, fun _ _ => rfl, ?_⟩; go_big_quiet_on)
              rfl
          iterate 2
            refine wpR_one (A' := ?_) Stp.refl (by rfl) _ rfl 67 (by rfl) (by rfl) ?_ ?_ ?_
            rotate_left 1
            · simp only [Act.put, List.setIfInBounds_toArray, List.set_cons_zero, List.set_cons_succ]; rfl
            · intro w1 hs hf K hK
              go_big_quiet_op
              first
                | go_big_quiet_on
                | (refine ⟨_, fun _ _ => rfl, ?_⟩; go_big_quiet_on)
              rfl
          refine wpR_one (A' := ?_) Stp.refl (by rfl) _ rfl 67 (by rfl) (by rfl) ?_ ?_ ?_
          rotate_left 1
          · simp only [Act.put, List.setIfInBounds_toArray, List.set_cons_zero, List.set_cons_succ]; rfl
          · intro w1 hs hf K hK
            go_big_quiet_op
            apply Exists.intro
            refine ⟨fun w4 h2 => ?_, ?_⟩
            · refine (HBX.out A5 A6 c5 c6 w4 (SX.out w4 (Stp.trans _ _ _ hs h2)) (SY.out w4 (Stp.trans _ _ _ hs h2))).mono ?_
              rintro e w3 ⟨rfl, h3⟩
              exact ⟨rfl, Stp.trans _ _ _ h2 h3⟩
            · go_big_quiet_on
              rfl
          refine wpR_one (A' := ?_) Stp.refl (by rfl) _ rfl 67 (by rfl) (by rfl) ?_ ?_ ?_
          rotate_left 1
          · simp only [Act.put, List.setIfInBounds_toArray, List.set_cons_zero, List.set_cons_succ]; rfl
          · intro w1 hs hf K hK
            refine cls_load 26 (.tmp 4) rfl (w.heap.size) (0) rfl (LX) _ (fun w4 h2 => (RG.out w4 (HW0.out w4 (Stp.trans _ _ _ hs h2))).1) Try.underlying26 rfl ZX.out ?_
            refine hK _ ?_
            simp only [Act.put, List.setIfInBounds_toArray, List.set_cons_zero, List.set_cons_succ]
            rfl
          refine wpR_one (A' := ?_) Stp.refl (by rfl) _ rfl 67 (by rfl) (by rfl) ?_ ?_ ?_
          rotate_left 1
          · simp only [Act.put, List.setIfInBounds_toArray, List.set_cons_zero, List.set_cons_succ]; rfl
          · intro w1 hs hf K hK
            refine cls_load 26 (.tmp 5) rfl (w.heap.size + 1) (0) rfl (LY) _ (fun w4 h2 => (RG.out w4 (HW0.out w4 (Stp.trans _ _ _ hs h2))).2) Try.underlying26 rfl ZY.out ?_
            refine hK _ ?_
            simp only [Act.put, List.setIfInBounds_toArray, List.set_cons_zero, List.set_cons_succ]
            rfl
          iterate 2
            refine wpR_one (A' := ?_) Stp.refl (by rfl) _ rfl 67 (by rfl) (by rfl) ?_ ?_ ?_
            rotate_left 1
            · simp only [Act.put, List.setIfInBounds_toArray, List.set_cons_zero, List.set_cons_succ]; rfl
            · intro w1 hs hf K hK
              go_big_quiet_op
              first
                | go_big_quiet_on
                | (refine ⟨_, fun _ _ => rfl, ?_⟩; go_big_quiet_on)
              rfl
          iterate 2
            refine wpR_one (A' := ?_) Stp.refl (by rfl) _ rfl 67 (by rfl) (by rfl) ?_ ?_ ?_
            rotate_left 1
            · simp only [Act.put, List.setIfInBounds_toArray, List.set_cons_zero, List.set_cons_succ]; rfl
            · intro w1 hs hf K hK
              go_big_quiet_op
              first
                | go_big_quiet_on
                | (refine ⟨_, fun _ _ => rfl, ?_⟩; go_big_quiet_on)
              rfl
          refine wpR_one (A' := ?_) Stp.refl (by rfl) _ rfl 67 (by rfl) (by rfl) ?_ ?_ ?_
          rotate_left 1
          · simp only [Act.put, List.setIfInBounds_toArray, List.set_cons_zero, List.set_cons_succ]; rfl
          · intro w1 hs hf K hK
            go_big_quiet_op
            apply Exists.intro
            refine ⟨fun w4 h2 => ?_, ?_⟩
            · refine (AWB.out w4).mono ?_
              rintro e w3 ⟨rfl, h3⟩
              exact ⟨rfl, Stp.trans _ _ _ h2 h3⟩
            · go_big_quiet_on
              rfl
          iterate 2
            refine wpR_one (A' := ?_) Stp.refl (by rfl) _ rfl 67 (by rfl) (by rfl) ?_ ?_ ?_
            rotate_left 1
            · simp only [Act.put, List.setIfInBounds_toArray, List.set_cons_zero, List.set_cons_succ]; rfl
            · intro w1 hs hf K hK
              go_big_quiet_op
              first
                | go_big_quiet_on
                | (refine ⟨_, fun _ _ => rfl, ?_⟩; go_big_quiet_on)
              rfl
          intro w9 hs hf
          have HT9 := Lib.hid (HW0.out w9 hs)
          clear hs hf
          go_wp2
          go_ret
          exact ⟨rfl, TW.out.trans HT9.out (fun _ _ h => h)⟩
      ·
        rw [decide_eq_false oy] at PY
        clear ox oy FE FX FY hQ
        go_enter Try.func5, Try.ntmps5
        go_upto_region 1 with fail
        change Code.wp _ _ _ _ ((w.alloc (.cells LX.toArray 26)).alloc (.cells LY.toArray 26))
        rw [← hz0]
        clear hz0
        go_wp2_with fail
        refine T1.out.mono ?_
        rintro r z1 ⟨rfl, t1⟩
        have HA := Lib.hid (show (z1.alloc (.cells Z37E 26)).heap[z1.heap.size]? = some (.cells Z37E 26 (0, 0)) from heap_alloc_new _ _)
        have HT1 := Lib.hid t1
        clear t1 T1
        go_upto_region 4 with (refine wpList_store_row rfl _ _ _ rfl z1.heap.size C rfl rfl 26 Z37E HA.out K1.out K2.out K3.out ?_)
        obtain ⟨z2, hz2⟩ : ∃ z, z = (z1.alloc (.cells Z37E 26)).setRow z1.heap.size C := ⟨_, rfl⟩
        have HT2 := Lib.hid (show Turn (fun _ => False) z0 z2 by rw [hz2]; exact HT1.out.trans (((Turn.refl (fun _ => False) z1).alloc _).setRow _ _ (fun h => by omega)) (fun _ _ h => h))
        have R2 := Lib.hid (show z2.heap[z1.heap.size]? = some (.cells C 26 (0, 0)) by rw [hz2]; exact setRow_heap _ _ _ _ _ _ HA.out)
        change Code.wp _ _ _ _ ((z1.alloc (.cells Z37E 26)).setRow z1.heap.size C)
        rw [← hz2]
        clear hz2 HA HT1
        generalize z1.heap.size = p1 at *
        obtain ⟨z4, hz4⟩ : ∃ z, z = z2 := ⟨_, rfl⟩
        have HT4 := Lib.hid (show Turn (fun _ => False) z0 z4 by rw [hz4]; exact HT2.out)
        have hez : ((E : Int) == 0) = false := by simp; omega
        rw [← hz4]
        clear hz4 HT2 R2
        obtain ⟨r4, r4'⟩ := RF.out z4 HT4.out
        go_wp2_with (go_at_call 6; refine stop ?_)
        unfold Stop
        refine (PX.out z4).mono ?_
        rintro r z5 ⟨u5, rfl, ho, t⟩
        obtain ⟨A5, c5, rfl, s5, -, -⟩ := own_len ho
        have HT5 := Lib.hid (HT4.out.trans t (fun _ _ h => h))
        have S5 := Lib.hid s5
        clear ho s5 t r4 r4' HT4
        obtain ⟨r5, r5'⟩ := RF.out z5 HT5.out
        go_wp2_with (go_at_call 6; refine stop ?_)
        unfold Stop
        refine (PY.out z5).mono ?_
        rintro r z6 ⟨u6, rfl, ho, t⟩
        obtain ⟨A6, c6, rfl, s6, -, -⟩ := own_len ho
        have HT6 := Lib.hid (HT5.out.trans t (fun _ _ h => h))
        have S65 := Lib.hid ((t.sl S5.out (fun _ _ h => h)).more t.size)
        have S66 := Lib.hid s6
        clear ho s6 t r5 r5' HT5 S5
        go_upto_region 10 with fail
        have HWS := Lib.hid (fun (w' : World) (h : Stp z6.drew w') => show Turn (fun _ => False) z6 w' from Turn.of_below (stp_start h (Below.refl _ _)))
        have HW0 := Lib.hid (fun (w' : World) (h : Stp z6.drew w') => show Turn (fun _ => False) z0 w' from HT6.out.trans (HWS.out w' h) (fun _ _ h => h))
        have SX := Lib.hid (fun (w' : World) (h : Stp z6.drew w') => show Sl w' w'.heap.size A5 ((pE x).map bv) from ((HWS.out w' h).sl S65.out (fun _ _ h => h)).more (HWS.out w' h).size)
        have SY := Lib.hid (fun (w' : World) (h : Stp z6.drew w') => show Sl w' w'.heap.size A6 ((pE y).map bv) from ((HWS.out w' h).sl S66.out (fun _ _ h => h)).more (HWS.out w' h).size)
        refine wp_region_rel 67 Stp [.one ?_, .one ?_, .one ?_, .one ?_, .one ?_, .one ?_, .one ?_, .one undef, .one undef, .one undef, .one undef, .one undef, .one undef, .one undef, .one ?_, .one ?_, .one ?_, .one ?_, .one ?_] (by kernel_rfl) (by kernel_rfl) rfl (by kernel_rfl) Stp.refl Stp.trans trivial ?main
        case main =>
        iterate 3
          refine wpR_one (A' := ?_) Stp.refl (by rfl) _ rfl 67 (by rfl) (by rfl) ?_ ?_ ?_
          rotate_left 1
          · simp only [Act.put, List.setIfInBounds_toArray, List.set_cons_zero, List.set_cons_succ]; rfl
          · intro w1 hs hf K hK
            go_big_quiet_op
            first
              | go_big_quiet_on
              | (refine ⟨_, fun _ _ => rfl, ?_⟩; go_big_quiet_on)
            rfl
        iterate 2
          refine wpR_one (A' := ?_) Stp.refl (by rfl) _ rfl 67 (by rfl) (by rfl) ?_ ?_ ?_
          rotate_left 1
          · simp only [Act.put, List.setIfInBounds_toArray, List.set_cons_zero, List.set_cons_succ]; rfl
          · intro w1 hs hf K hK
            go_big_quiet_op
            first
              | go_big_quiet_on
              | (refine ⟨_, fun _ _ => rfl, ?_⟩; go_big_quiet_on)
            rfl
        iterate 2
          refine wpR_one (A' := ?_) Stp.refl (by rfl) _ rfl 67 (by rfl) (by rfl) ?_ ?_ ?_
          rotate_left 1
          · simp only [Act.put, List.setIfInBounds_toArray, List.set_cons_zero, List.set_cons_succ]; rfl
          · intro w1 hs hf K hK
            go_big_quiet_op
            first
              | go_big_quiet_on
              | (refine ⟨_, fun _ _ => rfl, ?_⟩; go_big_quiet_on)
            rfl
        iterate 7
          refine wpR_skip (A' := ?_) (by rfl) ?_ ?_
          rotate_left 1
          · simp only [Act.put, List.setIfInBounds_toArray, List.set_cons_zero, List.set_cons_succ]; rfl
        iterate 2
          refine wpR_one (A' := ?_) Stp.refl (by rfl) _ rfl 67 (by rfl) (by rfl) ?_ ?_ ?_
          rotate_left 1
          · simp only [Act.put, List.setIfInBounds_toArray, List.set_cons_zero, List.set_cons_succ]; rfl
          · intro w1 hs hf K hK
            go_big_quiet_op
            first
              | go_big_quiet_on
              | (refine ⟨_, fun _ _ => rfl, ?_⟩; go_big_quiet_on)
            rfl
        refine wpR_one (A' := ?_) Stp.refl (by rfl) _ rfl 67 (by rfl) (by rfl) ?_ ?_ ?_
        rotate_left 1
        · simp only [Act.put, List.setIfInBounds_toArray, List.set_cons_zero, List.set_cons_succ]; rfl
        · intro w1 hs hf K hK
          go_big_quiet_op
          apply Exists.intro
          refine ⟨fun w4 h2 => ?_, ?_⟩
          · refine (AWB.out w4).mono ?_
            rintro e w3 ⟨rfl, h3⟩
            exact ⟨rfl, Stp.trans _ _ _ h2 h3⟩
          · go_big_quiet_on
            rfl
        iterate 2
          refine wpR_one (A' := ?_) Stp.refl (by rfl) _ rfl 67 (by rfl) (by rfl) ?_ ?_ ?_
          rotate_left 1
          · simp only [Act.put, List.setIfInBounds_toArray, List.set_cons_zero, List.set_cons_succ]; rfl
          · intro w1 hs hf K hK
            go_big_quiet_op
            first
              | go_big_quiet_on
              | (refine ⟨_, fun _ _ => rfl, ?_⟩; go_big_quiet_on)
            rfl
        intro w9 hs hf
        have HT9 := Lib.hid (HW0.out w9 hs)
        clear hs hf
        go_wp2
        go_ret
        exact ⟨rfl, TW.out.trans HT9.out (fun _ _ h => h)⟩
    ·
      rw [decide_eq_false ox] at PX
      clear ox FE FX FY hQ
      go_enter Try.func5, Try.ntmps5
      go_upto_region 1 with fail
      change Code.wp _ _ _ _ ((w.alloc (.cells LX.toArray 26)).alloc (.cells LY.toArray 26))
      rw [← hz0]
      clear hz0
      go_wp2_with fail
      refine T1.out.mono ?_
      rintro r z1 ⟨rfl, t1⟩
      have HA := Lib.hid (show (z1.alloc (.cells Z37E 26)).heap[z1.heap.size]? = some (.cells Z37E 26 (0, 0)) from heap_alloc_new _ _)
      have HT1 := Lib.hid t1
      clear t1 T1
      go_upto_region 4 with (refine wpList_store_row rfl _ _ _ rfl z1.heap.size C rfl rfl 26 Z37E HA.out K1.out K2.out K3.out ?_)
      obtain ⟨z2, hz2⟩ : ∃ z, z = (z1.alloc (.cells Z37E 26)).setRow z1.heap.size C := ⟨_, rfl⟩
      have HT2 := Lib.hid (show Turn (fun _ => False) z0 z2 by rw [hz2]; exact HT1.out.trans (((Turn.refl (fun _ => False) z1).alloc _).setRow _ _ (fun h => by omega)) (fun _ _ h => h))
      have R2 := Lib.hid (show z2.heap[z1.heap.size]? = some (.cells C 26 (0, 0)) by rw [hz2]; exact setRow_heap _ _ _ _ _ _ HA.out)
      change Code.wp _ _ _ _ ((z1.alloc (.cells Z37E 26)).setRow z1.heap.size C)
      rw [← hz2]
      clear hz2 HA HT1
      generalize z1.heap.size = p1 at *
      obtain ⟨z4, hz4⟩ : ∃ z, z = z2 := ⟨_, rfl⟩
      have HT4 := Lib.hid (show Turn (fun _ => False) z0 z4 by rw [hz4]; exact HT2.out)
      have hez : ((E : Int) == 0) = false := by simp; omega
      rw [← hz4]
      clear hz4 HT2 R2
      obtain ⟨r4, r4'⟩ := RF.out z4 HT4.out
      go_wp2_with (go_at_call 6; refine stop ?_)
      unfold Stop
      refine (PX.out z4).mono ?_
      rintro r z5 ⟨u5, rfl, ho, t⟩
      obtain ⟨A5, c5, rfl, s5, -, -⟩ := own_len ho
      have HT5 := Lib.hid (HT4.out.trans t (fun _ _ h => h))
      have S5 := Lib.hid s5
      clear ho s5 t r4 r4' HT4
      obtain ⟨r5, r5'⟩ := RF.out z5 HT5.out
      go_wp2_with (go_at_call 6; refine stop ?_)
      unfold Stop
      refine (PY.out z5).mono ?_
      rintro r z6 ⟨u6, rfl, ho, t⟩
      obtain ⟨A6, c6, rfl, s6, -, -⟩ := own_len ho
      have HT6 := Lib.hid (HT5.out.trans t (fun _ _ h => h))
      have S65 := Lib.hid ((t.sl S5.out (fun _ _ h => h)).more t.size)
      have S66 := Lib.hid s6
      clear ho s6 t r5 r5' HT5 S5
      go_upto_region 10 with fail
      have HWS := Lib.hid (fun (w' : World) (h : Stp z6.drew w') => show Turn (fun _ => False) z6 w' from Turn.of_below (stp_start h (Below.refl _ _)))
      have HW0 := Lib.hid (fun (w' : World) (h : Stp z6.drew w') => show Turn (fun _ => False) z0 w' from HT6.out.trans (HWS.out w' h) (fun _ _ h => h))
      have SX := Lib.hid (fun (w' : World) (h : Stp z6.drew w') => show Sl w' w'.heap.size A5 ((pE x).map bv) from ((HWS.out w' h).sl S65.out (fun _ _ h => h)).more (HWS.out w' h).size)
      have SY := Lib.hid (fun (w' : World) (h : Stp z6.drew w') => show Sl w' w'.heap.size A6 ((pE y).map bv) from ((HWS.out w' h).sl S66.out (fun _ _ h => h)).more (HWS.out w' h).size)
      refine wp_region_rel 67 Stp [.one ?_, .one ?_, .one ?_, .one undef, .one undef, .one ?_, .one ?_, .one undef, .one undef, .one undef, .one undef, .one undef, .one undef, .one undef, .one ?_, .one ?_, .one ?_, .one ?_, .one ?_] (by kernel_rfl) (by kernel_rfl) rfl (by kernel_rfl) Stp.refl Stp.trans trivial ?main
      case main =>
      iterate 3
        refine wpR_one (A' := ?_) Stp.refl (by rfl) _ rfl 67 (by rfl) (by rfl) ?_ ?_ ?_
        rotate_left 1
        · simp only [Act.put, List.setIfInBounds_toArray, List.set_cons_zero, List.set_cons_succ]; rfl
        · intro w1 hs hf K hK
          go_big_quiet_op
          first
            | go_big_quiet_on
            | (refine ⟨_, fun _ _ => rfl, ?_⟩; go_big_quiet_on)
          rfl
      iterate 2
        refine wpR_skip (A' := ?_) (by rfl) ?_ ?_
        rotate_left 1
        · simp only [Act.put, List.setIfInBounds_toArray, List.set_cons_zero, List.set_cons_succ]; rfl
      iterate 2
        refine wpR_one (A' := ?_) Stp.refl (by rfl) _ rfl 67 (by rfl) (by rfl) ?_ ?_ ?_
        rotate_left 1
        · simp only [Act.put, List.setIfInBounds_toArray, List.set_cons_zero, List.set_cons_succ]; rfl
        · intro w1 hs hf K hK
          go_big_quiet_op
          first
            | go_big_quiet_on
            | (refine ⟨_, fun _ _ => rfl, ?_⟩; go_big_quiet_on)
          rfl
      iterate 7
        refine wpR_skip (A' := ?_) (by rfl) ?_ ?_
        rotate_left 1
        · simp only [Act.put, List.setIfInBounds_toArray, List.set_cons_zero, List.set_cons_succ]; rfl
      iterate 2
        refine wpR_one (A' := ?_) Stp.refl (by rfl) _ rfl 67 (by rfl) (by rfl) ?_ ?_ ?_
        rotate_left 1
        · simp only [Act.put, List.setIfInBounds_toArray, List.set_cons_zero, List.set_cons_succ]; rfl
        · intro w1 hs hf K hK
          go_big_quiet_op
          first
            | go_big_quiet_on
            | (refine ⟨_, fun _ _ => rfl, ?_⟩; go_big_quiet_on)
          rfl
      refine wpR_one (A' := ?_) Stp.refl (by rfl) _ rfl 67 (by rfl) (by rfl) ?_ ?_ ?_
      rotate_left 1
      · simp only [Act.put, List.setIfInBounds_toArray, List.set_cons_zero, List.set_cons_succ]; rfl
      · intro w1 hs hf K hK
        go_big_quiet_op
        apply Exists.intro
        refine ⟨fun w4 h2 => ?_, ?_⟩
        · refine (AWB.out w4).mono ?_
          rintro e w3 ⟨rfl, h3⟩
          exact ⟨rfl, Stp.trans _ _ _ h2 h3⟩
        · go_big_quiet_on
          rfl
      iterate 2
        refine wpR_one (A' := ?_) Stp.refl (by rfl) _ rfl 67 (by rfl) (by rfl) ?_ ?_ ?_
        rotate_left 1
        · simp only [Act.put, List.setIfInBounds_toArray, List.set_cons_zero, List.set_cons_succ]; rfl
        · intro w1 hs hf K hK
          go_big_quiet_op
          first
            | go_big_quiet_on
            | (refine ⟨_, fun _ _ => rfl, ?_⟩; go_big_quiet_on)
          rfl
      intro w9 hs hf
      have HT9 := Lib.hid (HW0.out w9 hs)
      clear hs hf
      go_wp2
      go_ret
      exact ⟨rfl, TW.out.trans HT9.out (fun _ _ h => h)⟩
set_option maxRecDepth 100000 in
theorem entryOne_walk (A : Option Addr) (c : Nat) (b : List B8) (x y : Ent) (w : World) (hs : Sl w w.heap.size A (b.map bv)) (hA : A = none → c = 0) (hc : b.length ≤ c) (hm : b.length ≤ maxLen) (hx : x.d.length = 32) (hy : y.d.length = 32) :
    Calls Try.prog 5 #[.slice A b.length c, .agg x.cells.toArray, .agg y.cells.toArray] w fun e w' => e = .returned (.bool true) ∧ Below w.heap.size w w' :=
  (entryOne_any A c b x y w hs hA hc hm hx hy).mono fun _ _ ⟨h1, h2⟩ => ⟨h1, turn_stp' h2⟩
end Go.Proofs.Ytomflniknnenaaa
