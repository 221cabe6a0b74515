/- The code's Climb at a place that there is. -/
import Derived.Test.YtppkjlmnnpfcfaaDoorTrK
import Derived.Test.YtppkjlmnnpfcfaaDoorCls
set_option linter.unusedVariables false
namespace Go.Proofs.YtppkjlmnnpfcfaaDoor
open Go.RowKit
attribute [local go_sem ↓] loadAt_id
attribute [local go_sem] rowOf_drew rowOf_drewN run_idLoad
theorem range_row {w : World} {g : Nat} {d : List B8} {t : TypeId} {fr : Nat × Nat} (h : w.heap[g]? = some (.cells (d.map bv).toArray t fr)) : w.rangeAt g 0 (d.map bv) := fun j v hj => by
  rw [cell_of_row _ _ _ _ _ _ h, List.getElem?_toArray, Nat.zero_add]; exact hj
set_option maxRecDepth 100000 in
set_option maxHeartbeats 4000000 in
theorem climb_nat (A : Option Addr) (c : Nat) (b : List B8) (hc : b.length ≤ c) (hb : b.length ≤ 1000000) : ∀ (N n k : Nat) (p : List (List B8)) (A' : Option Addr) (c' : Nat) (w : World), n ≤ N → k < n → n ≤ 1048576 → p.length ≤ c' → p.length ≤ 1000000 → IdsAt w A' p → Bts w A b → Glob w →
    Calls Tryd.prog 15 #[.slice A b.length c, .int .i64 (k : Int), .int .i64 (n : Int), .slice A' p.length c'] w fun e w' => e = .returned (ansV (climbD b k n p)) ∧ Below w.heap.size w w' := by
  intro N
  induction N with
  | zero => intro n k p A' c' w hN hk; omega
  | succ N ih =>
    intro n k p A' c' w hN hk hn hpc hpm hI hB hG
    obtain ⟨w1, hw1⟩ : ∃ w1, w1 = w.alloc (.cells ZId 26) := ⟨_, rfl⟩
    have hb1 : Below w.heap.size w w1 := by rw [hw1]; exact (Below.refl _ _).alloc (Nat.le_refl _) _
    have hz1 : w1.heap[w.heap.size]? = some (.cells ZId 26 (0, 0)) := by rw [hw1]; exact heap_alloc_new w _
    have HB1 := Lib.hid hb1
    have HZ1 := Lib.hid hz1
    have HG1 := Lib.hid (show Glob w1 from hG.below hb1 hG.1)
    have HX1 := Lib.hid (hB.below hb1)
    have HI1 := Lib.hid (hI.below hb1)
    have t0 : decide ((k : Int) < 0) = false := by rw [decide_eq_false_iff_not]; omega
    have t1 : decide ((n : Int) ≤ (k : Int)) = false := by rw [decide_eq_false_iff_not]; omega
    have t2 : decide ((1048576 : Int) < (n : Int)) = false := by rw [decide_eq_false_iff_not]; omega
    have t3 : ¬ n ≤ k := by omega
    have t4 : ¬ 1048576 < n := by omega
    clear hb1 hz1 hI hB hG
    by_cases h1 : n = 1
    · subst h1
      obtain rfl : k = 0 := by omega
      rw [climbD_one]
      have R := Lib.hid (climbOne_any A A' c c' p.length b w1 HX1.out hc HG1.out hb (by unfold maxLen; omega))
      obtain ⟨o, ho⟩ : ∃ o, o = (if p.length = 0 then some (leafD b) else none) := ⟨_, rfl⟩
      rw [← ho] at R ⊢
      have ho32 : (o.getD (zeros 32)).length = 32 := by
        rw [ho]; split
        · exact leafD_len _
        · rfl
      obtain ⟨C, hC⟩ : ∃ C, C = ((o.getD (zeros 32)).map bv).toArray := ⟨_, rfl⟩
      obtain ⟨ob, hob⟩ : ∃ ob, ob = o.isSome := ⟨_, rfl⟩
      have ea : ansV o = .tuple #[.agg C, .bool ob] := by rw [hC, hob]; rfl
      rw [ea] at R ⊢
      have hC32 : C.size = 32 := by rw [hC]; simp [ho32]
      have H3 := Lib.hid (show C.all (·.oneCell') = true by rw [hC]; exact bvs_one _)
      have H1 := Lib.hid (show (Tryd.prog.info? 26).map (·.size) = some C.size by rw [hC32]; kernel_rfl)
      have H2 := Lib.hid (show ZId.size = C.size by rw [hC32]; rfl)
      clear hC hC32 ea ho ho32 hob ih
      go_enter Tryd.func15, Tryd.ntmps15
      go_upto_region 1 with fail
      rw [← hw1]
      clear hw1
      go_wp2_with (first
        | (go_at_call 28; refine R.out.mono ?_; rintro e w2 ⟨rfl, hb2⟩; have HB2 := Lib.hid (HB1.out.trans (hb2.mono HB1.out.size)); have HZ2 := Lib.hid (heap_below hb2 HZ1.out); clear hb2)
        | (refine wpList_store_row rfl _ _ _ rfl w.heap.size C rfl rfl _ ZId HZ2.out H1.out H2.out H3.out ?_))
      have hA2 := setRow_heap w2 w.heap.size ZId C 26 (0, 0) HZ2.out
      refine bodyPost_ret (v := .tuple #[.agg C, .bool ob]) ?_ rfl ⟨rfl, below_setRow HB2.out (Nat.le_refl _) C⟩
      exact results_two Tryd.results15 _ _ w.heap.size _ C (0, 0) _ _ rfl rfl hA2 Tryd.underlying26 rfl H1.out
    · have h2 : 2 ≤ n := by omega
      have t5 : ((n : Int) == 1) = false := beq_false_of_ne (by omega)
      rcases List.eq_nil_or_concat p with rfl | ⟨q, x, rfl⟩
      · rw [climbD_nil h2, ansV_none]
        have H1 := Lib.hid info_z
        have H3 := Lib.hid (show ZId.all (·.oneCell') = true by kernel_rfl)
        clear ih
        go_enter Tryd.func15, Tryd.ntmps15
        go_upto_region 1 with fail
        rw [← hw1]
        clear hw1
        go_wp2_with (refine wpList_store_row rfl _ _ _ rfl w.heap.size ZId rfl rfl _ ZId HZ1.out H1.out rfl H3.out ?_)
        have hA2 := setRow_heap w1 w.heap.size ZId ZId 26 (0, 0) HZ1.out
        refine bodyPost_ret (v := .tuple #[.agg ZId, .bool false]) ?_ rfl ⟨rfl, below_setRow HB1.out (Nat.le_refl _) ZId⟩
        exact results_two Tryd.results15 _ _ w.heap.size _ ZId (0, 0) _ _ rfl rfl hA2 Tryd.underlying26 rfl H1.out
      · rw [List.concat_eq_append] at *
        have hlen : (q ++ [x]).length = q.length + 1 := by simp
        have hh := hp_lt h2
        have hh1 := hp_pos n
        have F := Lib.hid (fun w => firstOnes_any n w h2 (by omega))
        rw [hlen] at hpc hpm
        have sh := slicei_hi A' (q.length + 1) c' q.length (by omega) (by omega)
        obtain ⟨hx32, bx, ox, eA, hbx, hrow⟩ := HI1.out q.length x (by simp)
        subst eA
        have HR1 := Lib.hid hrow
        have HIq := Lib.hid (show IdsAt w1 (some ⟨bx, ox, none⟩) q by
          have := HI1.out.front q.length
          rwa [List.take_left' rfl] at this)
        rw [hlen]
        by_cases hkh : k < hp n
        · have ce := climbD_low h2 hkh hn (leaf := b) (p := q) (x := x)
          have IH := Lib.hid (fun (w : World) (h1 : IdsAt w (some ⟨bx, ox, none⟩) q) (h2 : Bts w A b) (h3 : Glob w) => ih (hp n) k q (some ⟨bx, ox, none⟩) c' w (by omega) (by omega) (by omega) (by omega) (by omega) h1 h2 h3)
          have hy32 : ((climbD b k (hp n) q).getD (zeros 32)).length = 32 := getD_len32
          obtain ⟨o, ho⟩ : ∃ o, o = climbD b k (hp n) q := ⟨_, rfl⟩
          rw [← ho] at ce hy32 IH
          rw [ce]
          obtain ⟨y, hy⟩ : ∃ y, y = o.getD (zeros 32) := ⟨_, rfl⟩
          obtain ⟨ob, hob⟩ : ∃ ob, ob = o.isSome := ⟨_, rfl⟩
          have er : (o.map fun d => nodeD d x) = if ob = true then some (nodeD y x) else none := by
            rw [hob, hy]; cases o <;> rfl
          have ea : ansV o = .tuple #[.agg (y.map bv).toArray, .bool ob] := by rw [hy, hob]; rfl
          rw [er]
          rw [ea] at IH
          rw [← hy] at hy32
          obtain ⟨o2, ho2⟩ : ∃ o2, o2 = (if ob = true then some (nodeD y x) else none) := ⟨_, rfl⟩
          have J := Lib.hid (fun (w : World) (hG : Glob w) => joinedIf_any ob y x w hy32 hx32 hG)
          rw [← ho2] at J ⊢
          have h232 : (o2.getD (zeros 32)).length = 32 := by
            rw [ho2]; split
            · exact nodeD_len _ _
            · rfl
          obtain ⟨z, hz⟩ : ∃ z, z = o2.getD (zeros 32) := ⟨_, rfl⟩
          obtain ⟨ob2, hob2⟩ : ∃ ob, ob = o2.isSome := ⟨_, rfl⟩
          have ea2 : ansV o2 = .tuple #[.agg (z.map bv).toArray, .bool ob2] := by rw [hz, hob2]; rfl
          rw [ea2] at J ⊢
          rw [← hz] at h232
          have D1 := Lib.hid (show (Tryd.prog.info? 26).map (·.size) = some ((y.map bv).toArray).size by simp only [List.size_toArray, List.length_map, hy32]; kernel_rfl)
          have D2 := Lib.hid (show ZId.size = ((y.map bv).toArray).size by simp only [List.size_toArray, List.length_map, hy32]; rfl)
          have D3 := Lib.hid (bvs_one y)
          have H1 := Lib.hid (show (Tryd.prog.info? 26).map (·.size) = some ((z.map bv).toArray).size by simp only [List.size_toArray, List.length_map, h232]; kernel_rfl)
          have H2 := Lib.hid (show ZId.size = ((z.map bv).toArray).size by simp only [List.size_toArray, List.length_map, h232]; rfl)
          have H3 := Lib.hid (bvs_one z)
          have X1 := Lib.hid (show (Tryd.prog.info? 26).map (·.size) = some (x.map bv).length by rw [List.length_map, hx32]; kernel_rfl)
          have Y1 := Lib.hid (show (Tryd.prog.info? 26).map (·.size) = some (y.map bv).length by rw [List.length_map, hy32]; kernel_rfl)
          have hkI : decide ((k : Int) < (hp n : Int)) = true := by rw [decide_eq_true_eq]; omega
          clear ce ih er ea ea2 ho hy hob ho2 hz hob2 hx32 hy32 h232 HI1 hlen
          generalize hp n = h at *
          go_enter Tryd.func15, Tryd.ntmps15
          go_upto_region 1 with fail
          rw [← hw1]
          clear hw1
          go_upto_region 10 with (first
            | (go_at_call 22; refine (F.out _).mono ?_; rintro e w' ⟨rfl, rfl⟩)
            | (go_at_call 15; refine (IH.out _ HIq.out HX1.out HG1.out).mono ?_; rintro e w2 ⟨rfl, hb2⟩; have HB2 := Lib.hid hb2; clear hb2)
            | (refine wpList_store_row rfl _ _ _ rfl w2.heap.size (y.map bv).toArray rfl rfl 26 _ (heap_alloc_new w2 _) D1.out D2.out D3.out ?_; rw [World.setRow_alloc_new]))
          obtain ⟨w3, hw3⟩ : ∃ w3, w3 = w2.alloc (.cells (y.map bv).toArray 26) := ⟨_, rfl⟩
          have h23 : Below w2.heap.size w2 w3 := by rw [hw3]; exact (Below.refl _ _).alloc (Nat.le_refl _) _
          have h13 := HB2.out.trans (h23.mono HB2.out.size)
          have HB3 := Lib.hid (HB1.out.trans (h13.mono HB1.out.size))
          have HZ3 := Lib.hid (heap_below h13 HZ1.out)
          have HG3 := Lib.hid (show Glob w3.drew from HG1.out.below h13.drew HG1.out.1)
          have RX := Lib.hid (show w3.drew.rangeAt bx (ox + q.length * 32) (x.map bv) from range_below HR1.out h13.drew hbx)
          have HXb := Lib.hid (show bx < w3.drew.heap.size from Nat.lt_of_lt_of_le hbx h13.size)
          have RY := Lib.hid (show w3.drew.rangeAt w2.heap.size 0 (y.map bv) from range_row (show w3.heap[w2.heap.size]? = some (.cells (y.map bv).toArray 26 (0, 0)) by rw [hw3]; exact heap_alloc_new w2 _))
          have HY := Lib.hid (show w2.heap.size < w3.drew.heap.size by show w2.heap.size < w3.heap.size; rw [hw3]; simp)
          rw [← hw3]
          clear hw3 h23 h13
          refine wp_region_rel_tail 9 89 (by kernel_rfl) (by kernel_rfl) Stp [.one ?_, .one ?_, .one ?_, .one ?_, .one ?_, .one ?_, .one ?_, .one ?_, .one ?_] (by kernel_rfl) rfl (by kernel_rfl) Stp.refl Stp.trans trivial ?main
          case main =>
          simp only [List.take_succ_cons, List.take_zero, List.drop_succ_cons, List.drop_zero]
          iterate 1
            refine wpR_one (A' := ?_) Stp.refl (by rfl) _ rfl 89 (by rfl) (by rfl) ?_ ?_ ?_
            rotate_left 1
            · simp only [Act.put, List.setIfInBounds_toArray, List.set_cons_zero, List.set_cons_succ]; rfl
            · intro w1 hs hf K hK
              go_big_quiet_op
              first
                | go_big_quiet_on
                | (refine ⟨_, fun _ _ => rfl, ?_⟩; go_big_quiet_on)
              rfl
          refine wpR_one (A' := ?_) Stp.refl (by rfl) _ rfl 89 (by rfl) (by rfl) ?_ ?_ ?_
          rotate_left 1
          · simp only [Act.put, List.setIfInBounds_toArray, List.set_cons_zero, List.set_cons_succ]; rfl
          · intro w1 hs hf K hK
            refine cls_load 26 (.tmp 12) rfl (w2.heap.size) (0) rfl (y.map bv) _ (fun w4 h2 => range_below (range_below RY.out hs HY.out) h2 (Nat.lt_of_lt_of_le HY.out (Below.size hs))) Tryd.underlying26 rfl Y1.out ?_
            refine hK _ ?_
            simp only [Act.put, List.setIfInBounds_toArray, List.set_cons_zero, List.set_cons_succ]
            rfl
          iterate 3
            refine wpR_one (A' := ?_) Stp.refl (by rfl) _ rfl 89 (by rfl) (by rfl) ?_ ?_ ?_
            rotate_left 1
            · simp only [Act.put, List.setIfInBounds_toArray, List.set_cons_zero, List.set_cons_succ]; rfl
            · intro w1 hs hf K hK
              go_big_quiet_op
              first
                | go_big_quiet_on
                | (refine ⟨_, fun _ _ => rfl, ?_⟩; go_big_quiet_on)
              rfl
          refine wpR_one (A' := ?_) Stp.refl (by rfl) _ rfl 89 (by rfl) (by rfl) ?_ ?_ ?_
          rotate_left 1
          · simp only [Act.put, List.setIfInBounds_toArray, List.set_cons_zero, List.set_cons_succ]; rfl
          · intro w1 hs hf K hK
            refine cls_load 26 (.tmp 61) rfl (bx) (ox + q.length * 32) rfl (x.map bv) _ (fun w4 h2 => range_below (range_below RX.out hs HXb.out) h2 (Nat.lt_of_lt_of_le HXb.out (Below.size hs))) Tryd.underlying26 rfl X1.out ?_
            refine hK _ ?_
            simp only [Act.put, List.setIfInBounds_toArray, List.set_cons_zero, List.set_cons_succ]
            rfl
          refine wpR_one (A' := ?_) Stp.refl (by rfl) _ rfl 89 (by rfl) (by rfl) ?_ ?_ ?_
          rotate_left 1
          · simp only [Act.put, List.setIfInBounds_toArray, List.set_cons_zero, List.set_cons_succ]; rfl
          · intro w1 hs hf K hK
            have hg1 := Lib.hid (glob_stp HG3.out hs)
            go_big_quiet_op
            apply Exists.intro
            refine ⟨fun w4 h2 => ?_, ?_⟩
            · refine (J.out w4 (glob_stp hg1.out h2)).mono ?_
              rintro e w3 ⟨rfl, h3⟩
              exact ⟨rfl, Stp.trans _ _ _ h2 h3⟩
            · go_big_quiet_on
              rfl
          iterate 2
            refine wpR_one (A' := ?_) Stp.refl (by rfl) _ rfl 89 (by rfl) (by rfl) ?_ ?_ ?_
            rotate_left 1
            · simp only [Act.put, List.setIfInBounds_toArray, List.set_cons_zero, List.set_cons_succ]; rfl
            · intro w1 hs hf K hK
              go_big_quiet_op
              first
                | go_big_quiet_on
                | (refine ⟨_, fun _ _ => rfl, ?_⟩; go_big_quiet_on)
              rfl
          intro w9 hs hf
          have HB9 := Lib.hid (stp_start hs HB3.out)
          have HZ9 := Lib.hid (heap_below hs HZ3.out)
          clear hs hf
          go_wp2_with (refine wpList_store_row rfl _ _ _ rfl w.heap.size (z.map bv).toArray rfl rfl _ ZId HZ9.out H1.out H2.out H3.out ?_)
          have hA2 := setRow_heap w9 w.heap.size ZId (z.map bv).toArray 26 (0, 0) HZ9.out
          refine bodyPost_ret (v := .tuple #[.agg (z.map bv).toArray, .bool ob2]) ?_ rfl ⟨rfl, below_setRow HB9.out (Nat.le_refl _) _⟩
          exact results_two Tryd.results15 _ _ w.heap.size _ (z.map bv).toArray (0, 0) _ _ rfl rfl hA2 Tryd.underlying26 rfl H1.out
        · have ce := climbD_high h2 hk hkh hn (leaf := b) (p := q) (x := x)
          have IH := Lib.hid (fun (w : World) (h1 : IdsAt w (some ⟨bx, ox, none⟩) q) (h2 : Bts w A b) (h3 : Glob w) => ih (n - hp n) (k - hp n) q (some ⟨bx, ox, none⟩) c' w (by omega) (by omega) (by omega) (by omega) (by omega) h1 h2 h3)
          have hy32 : ((climbD b (k - hp n) (n - hp n) q).getD (zeros 32)).length = 32 := getD_len32
          obtain ⟨o, ho⟩ : ∃ o, o = climbD b (k - hp n) (n - hp n) q := ⟨_, rfl⟩
          rw [← ho] at ce hy32 IH
          rw [ce]
          obtain ⟨y, hy⟩ : ∃ y, y = o.getD (zeros 32) := ⟨_, rfl⟩
          obtain ⟨ob, hob⟩ : ∃ ob, ob = o.isSome := ⟨_, rfl⟩
          have er : (o.map fun d => nodeD x d) = if ob = true then some (nodeD x y) else none := by
            rw [hob, hy]; cases o <;> rfl
          have ea : ansV o = .tuple #[.agg (y.map bv).toArray, .bool ob] := by rw [hy, hob]; rfl
          rw [er]
          rw [ea] at IH
          rw [← hy] at hy32
          obtain ⟨o2, ho2⟩ : ∃ o2, o2 = (if ob = true then some (nodeD x y) else none) := ⟨_, rfl⟩
          have J := Lib.hid (fun (w : World) (hG : Glob w) => joinedIf_any ob x y w hx32 hy32 hG)
          rw [← ho2] at J ⊢
          have h232 : (o2.getD (zeros 32)).length = 32 := by
            rw [ho2]; split
            · exact nodeD_len _ _
            · rfl
          obtain ⟨z, hz⟩ : ∃ z, z = o2.getD (zeros 32) := ⟨_, rfl⟩
          obtain ⟨ob2, hob2⟩ : ∃ ob, ob = o2.isSome := ⟨_, rfl⟩
          have ea2 : ansV o2 = .tuple #[.agg (z.map bv).toArray, .bool ob2] := by rw [hz, hob2]; rfl
          rw [ea2] at J ⊢
          rw [← hz] at h232
          have D1 := Lib.hid (show (Tryd.prog.info? 26).map (·.size) = some ((y.map bv).toArray).size by simp only [List.size_toArray, List.length_map, hy32]; kernel_rfl)
          have D2 := Lib.hid (show ZId.size = ((y.map bv).toArray).size by simp only [List.size_toArray, List.length_map, hy32]; rfl)
          have D3 := Lib.hid (bvs_one y)
          have H1 := Lib.hid (show (Tryd.prog.info? 26).map (·.size) = some ((z.map bv).toArray).size by simp only [List.size_toArray, List.length_map, h232]; kernel_rfl)
          have H2 := Lib.hid (show ZId.size = ((z.map bv).toArray).size by simp only [List.size_toArray, List.length_map, h232]; rfl)
          have H3 := Lib.hid (bvs_one z)
          have X1 := Lib.hid (show (Tryd.prog.info? 26).map (·.size) = some (x.map bv).length by rw [List.length_map, hx32]; kernel_rfl)
          have Y1 := Lib.hid (show (Tryd.prog.info? 26).map (·.size) = some (y.map bv).length by rw [List.length_map, hy32]; kernel_rfl)
          have hkI : decide ((k : Int) < (hp n : Int)) = false := by rw [decide_eq_false_iff_not]; omega
          have s1 : ((k - hp n : Nat) : Int) = (k : Int) - (hp n : Int) := by omega
          have s2 : ((n - hp n : Nat) : Int) = (n : Int) - (hp n : Int) := by omega
          rw [s1, s2] at IH
          clear s1 s2
          clear ce ih er ea ea2 ho hy hob ho2 hz hob2 hx32 hy32 h232 HI1 hlen
          generalize hp n = h at *
          go_enter Tryd.func15, Tryd.ntmps15
          go_upto_region 1 with fail
          rw [← hw1]
          clear hw1
          go_upto_region 12 with (first
            | (go_at_call 22; refine (F.out _).mono ?_; rintro e w' ⟨rfl, rfl⟩)
            | (go_at_call 15; refine (IH.out _ HIq.out HX1.out HG1.out).mono ?_; rintro e w2 ⟨rfl, hb2⟩; have HB2 := Lib.hid hb2; clear hb2)
            | (refine wpList_store_row rfl _ _ _ rfl w2.heap.size (y.map bv).toArray rfl rfl 26 _ (heap_alloc_new w2 _) D1.out D2.out D3.out ?_; rw [World.setRow_alloc_new]))
          obtain ⟨w3, hw3⟩ : ∃ w3, w3 = w2.alloc (.cells (y.map bv).toArray 26) := ⟨_, rfl⟩
          have h23 : Below w2.heap.size w2 w3 := by rw [hw3]; exact (Below.refl _ _).alloc (Nat.le_refl _) _
          have h13 := HB2.out.trans (h23.mono HB2.out.size)
          have HB3 := Lib.hid (HB1.out.trans (h13.mono HB1.out.size))
          have HZ3 := Lib.hid (heap_below h13 HZ1.out)
          have HG3 := Lib.hid (show Glob w3.drew from HG1.out.below h13.drew HG1.out.1)
          have RX := Lib.hid (show w3.drew.rangeAt bx (ox + q.length * 32) (x.map bv) from range_below HR1.out h13.drew hbx)
          have HXb := Lib.hid (show bx < w3.drew.heap.size from Nat.lt_of_lt_of_le hbx h13.size)
          have RY := Lib.hid (show w3.drew.rangeAt w2.heap.size 0 (y.map bv) from range_row (show w3.heap[w2.heap.size]? = some (.cells (y.map bv).toArray 26 (0, 0)) by rw [hw3]; exact heap_alloc_new w2 _))
          have HY := Lib.hid (show w2.heap.size < w3.drew.heap.size by show w2.heap.size < w3.heap.size; rw [hw3]; simp)
          rw [← hw3]
          clear hw3 h23 h13
          refine wp_region_rel_tail 9 89 (by kernel_rfl) (by kernel_rfl) Stp [.one ?_, .one ?_, .one ?_, .one ?_, .one ?_, .one ?_, .one ?_, .one ?_, .one ?_] (by kernel_rfl) rfl (by kernel_rfl) Stp.refl Stp.trans trivial ?main
          case main =>
          simp only [List.take_succ_cons, List.take_zero, List.drop_succ_cons, List.drop_zero]
          iterate 4
            refine wpR_one (A' := ?_) Stp.refl (by rfl) _ rfl 89 (by rfl) (by rfl) ?_ ?_ ?_
            rotate_left 1
            · simp only [Act.put, List.setIfInBounds_toArray, List.set_cons_zero, List.set_cons_succ]; rfl
            · intro w1 hs hf K hK
              go_big_quiet_op
              first
                | go_big_quiet_on
                | (refine ⟨_, fun _ _ => rfl, ?_⟩; go_big_quiet_on)
              rfl
          refine wpR_one (A' := ?_) Stp.refl (by rfl) _ rfl 89 (by rfl) (by rfl) ?_ ?_ ?_
          rotate_left 1
          · simp only [Act.put, List.setIfInBounds_toArray, List.set_cons_zero, List.set_cons_succ]; rfl
          · intro w1 hs hf K hK
            refine cls_load 26 (.tmp 83) rfl (bx) (ox + q.length * 32) rfl (x.map bv) _ (fun w4 h2 => range_below (range_below RX.out hs HXb.out) h2 (Nat.lt_of_lt_of_le HXb.out (Below.size hs))) Tryd.underlying26 rfl X1.out ?_
            refine hK _ ?_
            simp only [Act.put, List.setIfInBounds_toArray, List.set_cons_zero, List.set_cons_succ]
            rfl
          refine wpR_one (A' := ?_) Stp.refl (by rfl) _ rfl 89 (by rfl) (by rfl) ?_ ?_ ?_
          rotate_left 1
          · simp only [Act.put, List.setIfInBounds_toArray, List.set_cons_zero, List.set_cons_succ]; rfl
          · intro w1 hs hf K hK
            refine cls_load 26 (.tmp 14) rfl (w2.heap.size) (0) rfl (y.map bv) _ (fun w4 h2 => range_below (range_below RY.out hs HY.out) h2 (Nat.lt_of_lt_of_le HY.out (Below.size hs))) Tryd.underlying26 rfl Y1.out ?_
            refine hK _ ?_
            simp only [Act.put, List.setIfInBounds_toArray, List.set_cons_zero, List.set_cons_succ]
            rfl
          refine wpR_one (A' := ?_) Stp.refl (by rfl) _ rfl 89 (by rfl) (by rfl) ?_ ?_ ?_
          rotate_left 1
          · simp only [Act.put, List.setIfInBounds_toArray, List.set_cons_zero, List.set_cons_succ]; rfl
          · intro w1 hs hf K hK
            have hg1 := Lib.hid (glob_stp HG3.out hs)
            go_big_quiet_op
            apply Exists.intro
            refine ⟨fun w4 h2 => ?_, ?_⟩
            · refine (J.out w4 (glob_stp hg1.out h2)).mono ?_
              rintro e w3 ⟨rfl, h3⟩
              exact ⟨rfl, Stp.trans _ _ _ h2 h3⟩
            · go_big_quiet_on
              rfl
          iterate 2
            refine wpR_one (A' := ?_) Stp.refl (by rfl) _ rfl 89 (by rfl) (by rfl) ?_ ?_ ?_
            rotate_left 1
            · simp only [Act.put, List.setIfInBounds_toArray, List.set_cons_zero, List.set_cons_succ]; rfl
            · intro w1 hs hf K hK
              go_big_quiet_op
              first
                | go_big_quiet_on
                | (refine ⟨_, fun _ _ => rfl, ?_⟩; go_big_quiet_on)
              rfl
          intro w9 hs hf
          have HB9 := Lib.hid (stp_start hs HB3.out)
          have HZ9 := Lib.hid (heap_below hs HZ3.out)
          clear hs hf
          go_wp2_with (refine wpList_store_row rfl _ _ _ rfl w.heap.size (z.map bv).toArray rfl rfl _ ZId HZ9.out H1.out H2.out H3.out ?_)
          have hA2 := setRow_heap w9 w.heap.size ZId (z.map bv).toArray 26 (0, 0) HZ9.out
          refine bodyPost_ret (v := .tuple #[.agg (z.map bv).toArray, .bool ob2]) ?_ rfl ⟨rfl, below_setRow HB9.out (Nat.le_refl _) _⟩
          exact results_two Tryd.results15 _ _ w.heap.size _ (z.map bv).toArray (0, 0) _ _ rfl rfl hA2 Tryd.underlying26 rfl H1.out
end Go.Proofs.YtppkjlmnnpfcfaaDoor
