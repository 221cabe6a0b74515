/- Merged: The code's Climb at a place that there is. The code's Climb at any place; Is. Bytes compared, and digests compared, as the document does. Certificates as plain records: how they lie in memory, and a load of one as one rule. The document's 'Is' of certificates. What the landed 'Is' of certificates asks, against the document's; a ring's 'Is' at any shard. -/
import Derived.Test.YthoaaieiiokcmaaGreatDoorM22
import Derived.Test.YthoaaieiiokcmaaGreatDoorM09
import Derived.Test.YthoaaieiiokcmaaGreatDoorM19
import Derived.Test.YthoaaieiiokcmaaGreatDoorM21
namespace Go.Proofs.YthoaaieiiokcmaaGreatDoor
section
set_option linter.unusedVariables false
open Go.RowKit
attribute [local go_sem ↓] loadAt_id
attribute [local go_sem] rowOf_drew rowOf_drewN run_idLoad
theorem range_rowB {w : World} {g : Nat} {d : List B8} {t : TypeId} {fr : Nat × Nat} (h : w.heap[g]? = some (.cells (d.map bv).toArray t fr)) : w.rangeAt g 0 (d.map bv) := fun j v hj => by
  rw [cell_of_row _ _ _ _ _ _ h, List.getElem?_toArray, Nat.zero_add]; exact hj
set_option maxRecDepth 100000 in
set_option maxHeartbeats 4000000 in
theorem climb_nat (A : Option Addr) (c : Nat) (b : List B8) (hc : b.length ≤ c) (hb : b.length ≤ 1000000) : ∀ (N n k : Nat) (p : List (List B8)) (A' : Option Addr) (c' : Nat) (w : World), n ≤ N → k < n → n ≤ 1048576 → p.length ≤ c' → p.length ≤ 1000000 → IdsAt w A' p → Bts w A b → Glob w →
    Calls Tryz.prog 60 #[.slice A b.length c, .int .i64 (k : Int), .int .i64 (n : Int), .slice A' p.length c'] w fun e w' => e = .returned (ansV (climbD b k n p)) ∧ Below w.heap.size w w' := by
  intro N
  induction N with
  | zero => intro n k p A' c' w hN hk; omega
  | succ N ih =>
    intro n k p A' c' w hN hk hn hpc hpm hI hB hG
    obtain ⟨w1, hw1⟩ : ∃ w1, w1 = w.alloc (.cells ZIdT 24) := ⟨_, rfl⟩
    have hb1 : Below w.heap.size w w1 := by rw [hw1]; exact (Below.refl _ _).alloc (Nat.le_refl _) _
    have hz1 : w1.heap[w.heap.size]? = some (.cells ZIdT 24 (0, 0)) := by rw [hw1]; exact heap_alloc_new w _
    have HB1 := Lib.hid hb1
    have HZ1 := Lib.hid hz1
    have HG1 := Lib.hid (show Glob w1 from hG.below hb1 hG.1)
    have HX1 := Lib.hid (hB.below hb1)
    have HI1 := Lib.hid (hI.below hb1)
    have t0 : decide ((k : Int) < 0) = false := by rw [decide_eq_false_iff_not]; omega
    have t1 : decide ((n : Int) ≤ (k : Int)) = false := by rw [decide_eq_false_iff_not]; omega
    have t2 : decide ((1048576 : Int) < (n : Int)) = false := by rw [decide_eq_false_iff_not]; omega
    have t3 : ¬ n ≤ k := by omega
    have t4 : ¬ 1048576 < n := by omega
    clear hb1 hz1 hI hB hG
    by_cases h1 : n = 1
    · subst h1
      obtain rfl : k = 0 := by omega
      rw [climbD_one]
      have R := Lib.hid (climbOne_any A A' c c' p.length b w1 HX1.out hc HG1.out hb (by unfold maxLen; omega))
      obtain ⟨o, ho⟩ : ∃ o, o = (if p.length = 0 then some (leafD b) else none) := ⟨_, rfl⟩
      rw [← ho] at R ⊢
      have ho32 : (o.getD (zeros 32)).length = 32 := by
        rw [ho]; split
        · exact leafD_len _
        · rfl
      obtain ⟨C, hC⟩ : ∃ C, C = ((o.getD (zeros 32)).map bv).toArray := ⟨_, rfl⟩
      obtain ⟨ob, hob⟩ : ∃ ob, ob = o.isSome := ⟨_, rfl⟩
      have ea : ansV o = .tuple #[.agg C, .bool ob] := by rw [hC, hob]; rfl
      rw [ea] at R ⊢
      have hC32 : C.size = 32 := by rw [hC]; simp [ho32]
      have H3 := Lib.hid (show C.all (·.oneCell') = true by rw [hC]; exact bvs_one _)
      have H1 := Lib.hid (show (Tryz.prog.info? 24).map (·.size) = some C.size by rw [hC32]; kernel_rfl)
      have H2 := Lib.hid (show ZIdT.size = C.size by rw [hC32]; rfl)
      clear hC hC32 ea ho ho32 hob ih
      go_enter Tryz.func60, Tryz.ntmps60
      go_upto_region 1 with fail
      rw [← hw1]
      clear hw1
      go_wp2_with (first
        | (go_at_call 87; refine R.out.mono ?_; rintro e w2 ⟨rfl, hb2⟩; have HB2 := Lib.hid (HB1.out.trans (hb2.mono HB1.out.size)); have HZ2 := Lib.hid (heap_below hb2 HZ1.out); clear hb2)
        | (refine wpList_store_row rfl _ _ _ rfl w.heap.size C rfl rfl _ ZIdT HZ2.out H1.out H2.out H3.out ?_))
      have hA2 := setRow_heap w2 w.heap.size ZIdT C 24 (0, 0) HZ2.out
      refine bodyPost_ret (v := .tuple #[.agg C, .bool ob]) ?_ rfl ⟨rfl, below_setRow HB2.out (Nat.le_refl _) C⟩
      exact results_twoT Tryz.results60 _ _ w.heap.size _ C (0, 0) _ _ rfl rfl hA2 Tryz.underlying24 rfl H1.out
    · have h2 : 2 ≤ n := by omega
      have t5 : ((n : Int) == 1) = false := beq_false_of_ne (by omega)
      rcases List.eq_nil_or_concat p with rfl | ⟨q, x, rfl⟩
      · rw [climbD_nil h2, ansV_none]
        have H1 := Lib.hid info_zT
        have H3 := Lib.hid (show ZIdT.all (·.oneCell') = true by kernel_rfl)
        clear ih
        go_enter Tryz.func60, Tryz.ntmps60
        go_upto_region 1 with fail
        rw [← hw1]
        clear hw1
        go_wp2_with (refine wpList_store_row rfl _ _ _ rfl w.heap.size ZIdT rfl rfl _ ZIdT HZ1.out H1.out rfl H3.out ?_)
        have hA2 := setRow_heap w1 w.heap.size ZIdT ZIdT 24 (0, 0) HZ1.out
        refine bodyPost_ret (v := .tuple #[.agg ZIdT, .bool false]) ?_ rfl ⟨rfl, below_setRow HB1.out (Nat.le_refl _) ZIdT⟩
        exact results_twoT Tryz.results60 _ _ w.heap.size _ ZIdT (0, 0) _ _ rfl rfl hA2 Tryz.underlying24 rfl H1.out
      · rw [List.concat_eq_append] at *
        have hlen : (q ++ [x]).length = q.length + 1 := by simp
        have hh := hp_lt h2
        have hh1 := hp_pos n
        have F := Lib.hid (fun w => firstOnes_any n w h2 (by omega))
        rw [hlen] at hpc hpm
        have sh := slicei_hi A' (q.length + 1) c' q.length (by omega) (by omega)
        obtain ⟨hx32, bx, ox, eA, hbx, hrow⟩ := HI1.out q.length x (by simp)
        subst eA
        have HR1 := Lib.hid hrow
        have HIq := Lib.hid (show IdsAt w1 (some ⟨bx, ox, none⟩) q by
          have := HI1.out.front q.length
          rwa [List.take_left' rfl] at this)
        rw [hlen]
        by_cases hkh : k < hp n
        · have ce := climbD_low h2 hkh hn (leaf := b) (p := q) (x := x)
          have IH := Lib.hid (fun (w : World) (h1 : IdsAt w (some ⟨bx, ox, none⟩) q) (h2 : Bts w A b) (h3 : Glob w) => ih (hp n) k q (some ⟨bx, ox, none⟩) c' w (by omega) (by omega) (by omega) (by omega) (by omega) h1 h2 h3)
          have hy32 : ((climbD b k (hp n) q).getD (zeros 32)).length = 32 := getD_len32
          obtain ⟨o, ho⟩ : ∃ o, o = climbD b k (hp n) q := ⟨_, rfl⟩
          rw [← ho] at ce hy32 IH
          rw [ce]
          obtain ⟨y, hy⟩ : ∃ y, y = o.getD (zeros 32) := ⟨_, rfl⟩
          obtain ⟨ob, hob⟩ : ∃ ob, ob = o.isSome := ⟨_, rfl⟩
          have er : (o.map fun d => nodeD d x) = if ob = true then some (nodeD y x) else none := by
            rw [hob, hy]; cases o <;> rfl
          have ea : ansV o = .tuple #[.agg (y.map bv).toArray, .bool ob] := by rw [hy, hob]; rfl
          rw [er]
          rw [ea] at IH
          rw [← hy] at hy32
          obtain ⟨o2, ho2⟩ : ∃ o2, o2 = (if ob = true then some (nodeD y x) else none) := ⟨_, rfl⟩
          have J := Lib.hid (fun (w : World) (hG : Glob w) => joinedIf_any ob y x w hy32 hx32 hG)
          rw [← ho2] at J ⊢
          have h232 : (o2.getD (zeros 32)).length = 32 := by
            rw [ho2]; split
            · exact nodeD_len _ _
            · rfl
          obtain ⟨z, hz⟩ : ∃ z, z = o2.getD (zeros 32) := ⟨_, rfl⟩
          obtain ⟨ob2, hob2⟩ : ∃ ob, ob = o2.isSome := ⟨_, rfl⟩
          have ea2 : ansV o2 = .tuple #[.agg (z.map bv).toArray, .bool ob2] := by rw [hz, hob2]; rfl
          rw [ea2] at J ⊢
          rw [← hz] at h232
          have D1 := Lib.hid (show (Tryz.prog.info? 24).map (·.size) = some ((y.map bv).toArray).size by simp only [List.size_toArray, List.length_map, hy32]; kernel_rfl)
          have D2 := Lib.hid (show ZIdT.size = ((y.map bv).toArray).size by simp only [List.size_toArray, List.length_map, hy32]; rfl)
          have D3 := Lib.hid (bvs_one y)
          have H1 := Lib.hid (show (Tryz.prog.info? 24).map (·.size) = some ((z.map bv).toArray).size by simp only [List.size_toArray, List.length_map, h232]; kernel_rfl)
          have H2 := Lib.hid (show ZIdT.size = ((z.map bv).toArray).size by simp only [List.size_toArray, List.length_map, h232]; rfl)
          have H3 := Lib.hid (bvs_one z)
          have X1 := Lib.hid (show (Tryz.prog.info? 24).map (·.size) = some (x.map bv).length by rw [List.length_map, hx32]; kernel_rfl)
          have Y1 := Lib.hid (show (Tryz.prog.info? 24).map (·.size) = some (y.map bv).length by rw [List.length_map, hy32]; kernel_rfl)
          have hkI : decide ((k : Int) < (hp n : Int)) = true := by rw [decide_eq_true_eq]; omega
          clear ce ih er ea ea2 ho hy hob ho2 hz hob2 hx32 hy32 h232 HI1 hlen
          generalize hp n = h at *
          go_enter Tryz.func60, Tryz.ntmps60
          go_upto_region 1 with fail
          rw [← hw1]
          clear hw1
          go_upto_region 10 with (first
            | (go_at_call 79; refine (F.out _).mono ?_; rintro e w' ⟨rfl, rfl⟩)
            | (go_at_call 60; refine (IH.out _ HIq.out HX1.out HG1.out).mono ?_; rintro e w2 ⟨rfl, hb2⟩; have HB2 := Lib.hid hb2; clear hb2)
            | (refine wpList_store_row rfl _ _ _ rfl w2.heap.size (y.map bv).toArray rfl rfl 24 _ (heap_alloc_new w2 _) D1.out D2.out D3.out ?_; rw [World.setRow_alloc_new]))
          obtain ⟨w3, hw3⟩ : ∃ w3, w3 = w2.alloc (.cells (y.map bv).toArray 24) := ⟨_, rfl⟩
          have h23 : Below w2.heap.size w2 w3 := by rw [hw3]; exact (Below.refl _ _).alloc (Nat.le_refl _) _
          have h13 := HB2.out.trans (h23.mono HB2.out.size)
          have HB3 := Lib.hid (HB1.out.trans (h13.mono HB1.out.size))
          have HZ3 := Lib.hid (heap_below h13 HZ1.out)
          have HG3 := Lib.hid (show Glob w3.drew from HG1.out.below h13.drew HG1.out.1)
          have RX := Lib.hid (show w3.drew.rangeAt bx (ox + q.length * 32) (x.map bv) from range_belowT HR1.out h13.drew hbx)
          have HXb := Lib.hid (show bx < w3.drew.heap.size from Nat.lt_of_lt_of_le hbx h13.size)
          have RY := Lib.hid (show w3.drew.rangeAt w2.heap.size 0 (y.map bv) from range_rowB (show w3.heap[w2.heap.size]? = some (.cells (y.map bv).toArray 24 (0, 0)) by rw [hw3]; exact heap_alloc_new w2 _))
          have HY := Lib.hid (show w2.heap.size < w3.drew.heap.size by show w2.heap.size < w3.heap.size; rw [hw3]; simp)
          rw [← hw3]
          clear hw3 h23 h13
          refine wp_region_rel_tail 9 89 (by kernel_rfl) (by kernel_rfl) Stp [.one ?_, .one ?_, .one ?_, .one ?_, .one ?_, .one ?_, .one ?_, .one ?_, .one ?_] (by kernel_rfl) rfl (by kernel_rfl) Stp.refl Stp.trans trivial ?main
          case main =>
          simp only [List.take_succ_cons, List.take_zero, List.drop_succ_cons, List.drop_zero]
          iterate 1
            refine wpR_one (A' := ?_) Stp.refl (by rfl) _ rfl 89 (by rfl) (by rfl) ?_ ?_ ?_
            rotate_left 1
            · simp only [Act.put, List.setIfInBounds_toArray, List.set_cons_zero, List.set_cons_succ]; rfl
            · intro w1 hs hf K hK
              go_big_quiet_op
              first
                | go_big_quiet_on
                | (refine ⟨_, fun _ _ => rfl, ?_⟩; go_big_quiet_on)
              rfl
          refine wpR_one (A' := ?_) Stp.refl (by rfl) _ rfl 89 (by rfl) (by rfl) ?_ ?_ ?_
          rotate_left 1
          · simp only [Act.put, List.setIfInBounds_toArray, List.set_cons_zero, List.set_cons_succ]; rfl
          · intro w1 hs hf K hK
            refine cls_load 24 (.tmp 12) rfl (w2.heap.size) (0) rfl (y.map bv) _ (fun w4 h2 => range_belowT (range_belowT RY.out hs HY.out) h2 (Nat.lt_of_lt_of_le HY.out (Below.size hs))) Tryz.underlying24 rfl Y1.out ?_
            refine hK _ ?_
            simp only [Act.put, List.setIfInBounds_toArray, List.set_cons_zero, List.set_cons_succ]
            rfl
          iterate 3
            refine wpR_one (A' := ?_) Stp.refl (by rfl) _ rfl 89 (by rfl) (by rfl) ?_ ?_ ?_
            rotate_left 1
            · simp only [Act.put, List.setIfInBounds_toArray, List.set_cons_zero, List.set_cons_succ]; rfl
            · intro w1 hs hf K hK
              go_big_quiet_op
              first
                | go_big_quiet_on
                | (refine ⟨_, fun _ _ => rfl, ?_⟩; go_big_quiet_on)
              rfl
          refine wpR_one (A' := ?_) Stp.refl (by rfl) _ rfl 89 (by rfl) (by rfl) ?_ ?_ ?_
          rotate_left 1
          · simp only [Act.put, List.setIfInBounds_toArray, List.set_cons_zero, List.set_cons_succ]; rfl
          · intro w1 hs hf K hK
            refine cls_load 24 (.tmp 61) rfl (bx) (ox + q.length * 32) rfl (x.map bv) _ (fun w4 h2 => range_belowT (range_belowT RX.out hs HXb.out) h2 (Nat.lt_of_lt_of_le HXb.out (Below.size hs))) Tryz.underlying24 rfl X1.out ?_
            refine hK _ ?_
            simp only [Act.put, List.setIfInBounds_toArray, List.set_cons_zero, List.set_cons_succ]
            rfl
          refine wpR_one (A' := ?_) Stp.refl (by rfl) _ rfl 89 (by rfl) (by rfl) ?_ ?_ ?_
          rotate_left 1
          · simp only [Act.put, List.setIfInBounds_toArray, List.set_cons_zero, List.set_cons_succ]; rfl
          · intro w1 hs hf K hK
            have hg1 := Lib.hid (glob_stp HG3.out hs)
            go_big_quiet_op
            apply Exists.intro
            refine ⟨fun w4 h2 => ?_, ?_⟩
            · refine (J.out w4 (glob_stp hg1.out h2)).mono ?_
              rintro e w3 ⟨rfl, h3⟩
              exact ⟨rfl, Stp.trans _ _ _ h2 h3⟩
            · go_big_quiet_on
              rfl
          iterate 2
            refine wpR_one (A' := ?_) Stp.refl (by rfl) _ rfl 89 (by rfl) (by rfl) ?_ ?_ ?_
            rotate_left 1
            · simp only [Act.put, List.setIfInBounds_toArray, List.set_cons_zero, List.set_cons_succ]; rfl
            · intro w1 hs hf K hK
              go_big_quiet_op
              first
                | go_big_quiet_on
                | (refine ⟨_, fun _ _ => rfl, ?_⟩; go_big_quiet_on)
              rfl
          intro w9 hs hf
          have HB9 := Lib.hid (stp_start hs HB3.out)
          have HZ9 := Lib.hid (heap_below hs HZ3.out)
          clear hs hf
          go_wp2_with (refine wpList_store_row rfl _ _ _ rfl w.heap.size (z.map bv).toArray rfl rfl _ ZIdT HZ9.out H1.out H2.out H3.out ?_)
          have hA2 := setRow_heap w9 w.heap.size ZIdT (z.map bv).toArray 24 (0, 0) HZ9.out
          refine bodyPost_ret (v := .tuple #[.agg (z.map bv).toArray, .bool ob2]) ?_ rfl ⟨rfl, below_setRow HB9.out (Nat.le_refl _) _⟩
          exact results_twoT Tryz.results60 _ _ w.heap.size _ (z.map bv).toArray (0, 0) _ _ rfl rfl hA2 Tryz.underlying24 rfl H1.out
        · have ce := climbD_high h2 hk hkh hn (leaf := b) (p := q) (x := x)
          have IH := Lib.hid (fun (w : World) (h1 : IdsAt w (some ⟨bx, ox, none⟩) q) (h2 : Bts w A b) (h3 : Glob w) => ih (n - hp n) (k - hp n) q (some ⟨bx, ox, none⟩) c' w (by omega) (by omega) (by omega) (by omega) (by omega) h1 h2 h3)
          have hy32 : ((climbD b (k - hp n) (n - hp n) q).getD (zeros 32)).length = 32 := getD_len32
          obtain ⟨o, ho⟩ : ∃ o, o = climbD b (k - hp n) (n - hp n) q := ⟨_, rfl⟩
          rw [← ho] at ce hy32 IH
          rw [ce]
          obtain ⟨y, hy⟩ : ∃ y, y = o.getD (zeros 32) := ⟨_, rfl⟩
          obtain ⟨ob, hob⟩ : ∃ ob, ob = o.isSome := ⟨_, rfl⟩
          have er : (o.map fun d => nodeD x d) = if ob = true then some (nodeD x y) else none := by
            rw [hob, hy]; cases o <;> rfl
          have ea : ansV o = .tuple #[.agg (y.map bv).toArray, .bool ob] := by rw [hy, hob]; rfl
          rw [er]
          rw [ea] at IH
          rw [← hy] at hy32
          obtain ⟨o2, ho2⟩ : ∃ o2, o2 = (if ob = true then some (nodeD x y) else none) := ⟨_, rfl⟩
          have J := Lib.hid (fun (w : World) (hG : Glob w) => joinedIf_any ob x y w hx32 hy32 hG)
          rw [← ho2] at J ⊢
          have h232 : (o2.getD (zeros 32)).length = 32 := by
            rw [ho2]; split
            · exact nodeD_len _ _
            · rfl
          obtain ⟨z, hz⟩ : ∃ z, z = o2.getD (zeros 32) := ⟨_, rfl⟩
          obtain ⟨ob2, hob2⟩ : ∃ ob, ob = o2.isSome := ⟨_, rfl⟩
          have ea2 : ansV o2 = .tuple #[.agg (z.map bv).toArray, .bool ob2] := by rw [hz, hob2]; rfl
          rw [ea2] at J ⊢
          rw [← hz] at h232
          have D1 := Lib.hid (show (Tryz.prog.info? 24).map (·.size) = some ((y.map bv).toArray).size by simp only [List.size_toArray, List.length_map, hy32]; kernel_rfl)
          have D2 := Lib.hid (show ZIdT.size = ((y.map bv).toArray).size by simp only [List.size_toArray, List.length_map, hy32]; rfl)
          have D3 := Lib.hid (bvs_one y)
          have H1 := Lib.hid (show (Tryz.prog.info? 24).map (·.size) = some ((z.map bv).toArray).size by simp only [List.size_toArray, List.length_map, h232]; kernel_rfl)
          have H2 := Lib.hid (show ZIdT.size = ((z.map bv).toArray).size by simp only [List.size_toArray, List.length_map, h232]; rfl)
          have H3 := Lib.hid (bvs_one z)
          have X1 := Lib.hid (show (Tryz.prog.info? 24).map (·.size) = some (x.map bv).length by rw [List.length_map, hx32]; kernel_rfl)
          have Y1 := Lib.hid (show (Tryz.prog.info? 24).map (·.size) = some (y.map bv).length by rw [List.length_map, hy32]; kernel_rfl)
          have hkI : decide ((k : Int) < (hp n : Int)) = false := by rw [decide_eq_false_iff_not]; omega
          have s1 : ((k - hp n : Nat) : Int) = (k : Int) - (hp n : Int) := by omega
          have s2 : ((n - hp n : Nat) : Int) = (n : Int) - (hp n : Int) := by omega
          rw [s1, s2] at IH
          clear s1 s2
          clear ce ih er ea ea2 ho hy hob ho2 hz hob2 hx32 hy32 h232 HI1 hlen
          generalize hp n = h at *
          go_enter Tryz.func60, Tryz.ntmps60
          go_upto_region 1 with fail
          rw [← hw1]
          clear hw1
          go_upto_region 12 with (first
            | (go_at_call 79; refine (F.out _).mono ?_; rintro e w' ⟨rfl, rfl⟩)
            | (go_at_call 60; refine (IH.out _ HIq.out HX1.out HG1.out).mono ?_; rintro e w2 ⟨rfl, hb2⟩; have HB2 := Lib.hid hb2; clear hb2)
            | (refine wpList_store_row rfl _ _ _ rfl w2.heap.size (y.map bv).toArray rfl rfl 24 _ (heap_alloc_new w2 _) D1.out D2.out D3.out ?_; rw [World.setRow_alloc_new]))
          obtain ⟨w3, hw3⟩ : ∃ w3, w3 = w2.alloc (.cells (y.map bv).toArray 24) := ⟨_, rfl⟩
          have h23 : Below w2.heap.size w2 w3 := by rw [hw3]; exact (Below.refl _ _).alloc (Nat.le_refl _) _
          have h13 := HB2.out.trans (h23.mono HB2.out.size)
          have HB3 := Lib.hid (HB1.out.trans (h13.mono HB1.out.size))
          have HZ3 := Lib.hid (heap_below h13 HZ1.out)
          have HG3 := Lib.hid (show Glob w3.drew from HG1.out.below h13.drew HG1.out.1)
          have RX := Lib.hid (show w3.drew.rangeAt bx (ox + q.length * 32) (x.map bv) from range_belowT HR1.out h13.drew hbx)
          have HXb := Lib.hid (show bx < w3.drew.heap.size from Nat.lt_of_lt_of_le hbx h13.size)
          have RY := Lib.hid (show w3.drew.rangeAt w2.heap.size 0 (y.map bv) from range_rowB (show w3.heap[w2.heap.size]? = some (.cells (y.map bv).toArray 24 (0, 0)) by rw [hw3]; exact heap_alloc_new w2 _))
          have HY := Lib.hid (show w2.heap.size < w3.drew.heap.size by show w2.heap.size < w3.heap.size; rw [hw3]; simp)
          rw [← hw3]
          clear hw3 h23 h13
          refine wp_region_rel_tail 9 89 (by kernel_rfl) (by kernel_rfl) Stp [.one ?_, .one ?_, .one ?_, .one ?_, .one ?_, .one ?_, .one ?_, .one ?_, .one ?_] (by kernel_rfl) rfl (by kernel_rfl) Stp.refl Stp.trans trivial ?main
          case main =>
          simp only [List.take_succ_cons, List.take_zero, List.drop_succ_cons, List.drop_zero]
          iterate 4
            refine wpR_one (A' := ?_) Stp.refl (by rfl) _ rfl 89 (by rfl) (by rfl) ?_ ?_ ?_
            rotate_left 1
            · simp only [Act.put, List.setIfInBounds_toArray, List.set_cons_zero, List.set_cons_succ]; rfl
            · intro w1 hs hf K hK
              go_big_quiet_op
              first
                | go_big_quiet_on
                | (refine ⟨_, fun _ _ => rfl, ?_⟩; go_big_quiet_on)
              rfl
          refine wpR_one (A' := ?_) Stp.refl (by rfl) _ rfl 89 (by rfl) (by rfl) ?_ ?_ ?_
          rotate_left 1
          · simp only [Act.put, List.setIfInBounds_toArray, List.set_cons_zero, List.set_cons_succ]; rfl
          · intro w1 hs hf K hK
            refine cls_load 24 (.tmp 83) rfl (bx) (ox + q.length * 32) rfl (x.map bv) _ (fun w4 h2 => range_belowT (range_belowT RX.out hs HXb.out) h2 (Nat.lt_of_lt_of_le HXb.out (Below.size hs))) Tryz.underlying24 rfl X1.out ?_
            refine hK _ ?_
            simp only [Act.put, List.setIfInBounds_toArray, List.set_cons_zero, List.set_cons_succ]
            rfl
          refine wpR_one (A' := ?_) Stp.refl (by rfl) _ rfl 89 (by rfl) (by rfl) ?_ ?_ ?_
          rotate_left 1
          · simp only [Act.put, List.setIfInBounds_toArray, List.set_cons_zero, List.set_cons_succ]; rfl
          · intro w1 hs hf K hK
            refine cls_load 24 (.tmp 14) rfl (w2.heap.size) (0) rfl (y.map bv) _ (fun w4 h2 => range_belowT (range_belowT RY.out hs HY.out) h2 (Nat.lt_of_lt_of_le HY.out (Below.size hs))) Tryz.underlying24 rfl Y1.out ?_
            refine hK _ ?_
            simp only [Act.put, List.setIfInBounds_toArray, List.set_cons_zero, List.set_cons_succ]
            rfl
          refine wpR_one (A' := ?_) Stp.refl (by rfl) _ rfl 89 (by rfl) (by rfl) ?_ ?_ ?_
          rotate_left 1
          · simp only [Act.put, List.setIfInBounds_toArray, List.set_cons_zero, List.set_cons_succ]; rfl
          · intro w1 hs hf K hK
            have hg1 := Lib.hid (glob_stp HG3.out hs)
            go_big_quiet_op
            apply Exists.intro
            refine ⟨fun w4 h2 => ?_, ?_⟩
            · refine (J.out w4 (glob_stp hg1.out h2)).mono ?_
              rintro e w3 ⟨rfl, h3⟩
              exact ⟨rfl, Stp.trans _ _ _ h2 h3⟩
            · go_big_quiet_on
              rfl
          iterate 2
            refine wpR_one (A' := ?_) Stp.refl (by rfl) _ rfl 89 (by rfl) (by rfl) ?_ ?_ ?_
            rotate_left 1
            · simp only [Act.put, List.setIfInBounds_toArray, List.set_cons_zero, List.set_cons_succ]; rfl
            · intro w1 hs hf K hK
              go_big_quiet_op
              first
                | go_big_quiet_on
                | (refine ⟨_, fun _ _ => rfl, ?_⟩; go_big_quiet_on)
              rfl
          intro w9 hs hf
          have HB9 := Lib.hid (stp_start hs HB3.out)
          have HZ9 := Lib.hid (heap_below hs HZ3.out)
          clear hs hf
          go_wp2_with (refine wpList_store_row rfl _ _ _ rfl w.heap.size (z.map bv).toArray rfl rfl _ ZIdT HZ9.out H1.out H2.out H3.out ?_)
          have hA2 := setRow_heap w9 w.heap.size ZIdT (z.map bv).toArray 24 (0, 0) HZ9.out
          refine bodyPost_ret (v := .tuple #[.agg (z.map bv).toArray, .bool ob2]) ?_ rfl ⟨rfl, below_setRow HB9.out (Nat.le_refl _) _⟩
          exact results_twoT Tryz.results60 _ _ w.heap.size _ (z.map bv).toArray (0, 0) _ _ rfl rfl hA2 Tryz.underlying24 rfl H1.out
end
section
set_option linter.unusedVariables false
open Go.RowKit
attribute [local go_sem ↓] loadAt_id
attribute [local go_sem] rowOf_drew rowOf_drewN run_idLoad
theorem climb_any (A : Option Addr) (c : Nat) (b : List B8) (z zn : Int) (p : List (List B8)) (A' : Option Addr) (c' : Nat) (w : World) (hc : b.length ≤ c) (hb : b.length ≤ 1000000) (hpc : p.length ≤ c') (hpm : p.length ≤ 1000000) (hI : IdsAt w A' p) (hB : Bts w A b) (hG : Glob w) :
    Calls Tryz.prog 60 #[.slice A b.length c, .int .i64 z, .int .i64 zn, .slice A' p.length c'] w fun e w' => e = .returned (ansV (climbZ b z zn p)) ∧ Below w.heap.size w w' := by
  by_cases h : 0 ≤ z ∧ z < zn ∧ zn ≤ 1048576
  · obtain ⟨k, rfl⟩ : ∃ k : Nat, z = (k : Int) := ⟨z.toNat, by omega⟩
    obtain ⟨n, rfl⟩ : ∃ n : Nat, zn = (n : Int) := ⟨zn.toNat, by omega⟩
    rw [climbZ_nat (by omega) (by omega)]
    exact climb_nat A c b hc hb n n k p A' c' w (Nat.le_refl _) (by omega) (by omega) hpc hpm hI hB hG
  · have e : climbZ b z zn p = none := by unfold climbZ; rw [if_neg h]
    rw [e]
    exact climb_bad A A' b.length c p.length c' z zn w h
def isD (root : List B8) (o : Option (List B8)) : Bool := match o with | none => false | some d => decide (d = root)
theorem climbZ_len {b : List B8} {z zn : Int} {p : List (List B8)} : ((climbZ b z zn p).getD (zeros 32)).length = 32 := by
  unfold climbZ
  split
  · exact getD_len32
  · rfl
theorem isD_eq (root : List B8) (o : Option (List B8)) : isD root o = (o.isSome && decide (o.getD (zeros 32) = root)) := by cases o <;> simp [isD]
set_option maxRecDepth 100000 in
set_option maxHeartbeats 2000000 in
theorem is_any (root : List B8) (A : Option Addr) (c : Nat) (b : List B8) (z zn : Int) (p : List (List B8)) (A' : Option Addr) (c' : Nat) (w : World) (hr : root.length = 32) (hc : b.length ≤ c) (hb : b.length ≤ 1000000) (hpc : p.length ≤ c') (hpm : p.length ≤ 1000000) (hI : IdsAt w A' p) (hB : Bts w A b) (hG : Glob w) :
    Calls Tryz.prog 28 #[.agg (root.map bv).toArray, .slice A b.length c, .int .i64 z, .int .i64 zn, .slice A' p.length c'] w fun e w' => e = .returned (.bool (isD root (climbZ b z zn p))) ∧ Below w.heap.size w w' := by
  obtain ⟨w1, hw1⟩ : ∃ w1, w1 = w.alloc (.cells (root.map bv).toArray 24) := ⟨_, rfl⟩
  have hb1 : Below w.heap.size w w1 := by rw [hw1]; exact (Below.refl _ _).alloc (Nat.le_refl _) _
  have hz1 : w1.heap[w.heap.size]? = some (.cells (root.map bv).toArray 24 (0, 0)) := by rw [hw1]; exact heap_alloc_new w _
  have C := Lib.hid (climb_any A c b z zn p A' c' w1 hc hb hpc hpm (hI.below hb1) (hB.below hb1) (hG.below hb1 hG.1))
  have hy32 := climbZ_len (b := b) (z := z) (zn := zn) (p := p)
  rw [isD_eq]
  generalize climbZ b z zn p = o at *
  obtain ⟨y, hy⟩ : ∃ y, y = o.getD (zeros 32) := ⟨_, rfl⟩
  obtain ⟨ob, hob⟩ : ∃ ob, ob = o.isSome := ⟨_, rfl⟩
  have ea : ansV o = .tuple #[.agg (y.map bv).toArray, .bool ob] := by rw [hy, hob]; rfl
  rw [ea] at C
  rw [← hy, ← hob]
  rw [← hy] at hy32
  have HB1 := Lib.hid hb1
  have HZ1 := Lib.hid hz1
  have D1 := Lib.hid (show (Tryz.prog.info? 24).map (·.size) = some ((y.map bv).toArray).size by simp only [List.size_toArray, List.length_map, hy32]; kernel_rfl)
  have D2 := Lib.hid (show ZIdT.size = ((y.map bv).toArray).size by simp only [List.size_toArray, List.length_map, hy32]; rfl)
  have D3 := Lib.hid (bvs_one y)
  have S := Lib.hid (fun w => same_any y root w hy32 hr)
  have HR := Lib.hid hr
  have HY := Lib.hid hy32
  clear hb1 hz1 hI hB hG hy hob ea hr hy32
  go_enter Tryz.func28, Tryz.ntmps28
  go_upto_region 1 with fail
  rw [← hw1]
  clear hw1
  go_upto_region 2 with (first
    | (go_at_call 60; refine C.out.mono ?_; rintro e w2 ⟨rfl, hb2⟩; have HB2 := Lib.hid hb2; clear hb2)
    | (refine wpList_store_row rfl _ _ _ rfl w2.heap.size (y.map bv).toArray rfl rfl 24 _ (heap_alloc_new w2 _) D1.out D2.out D3.out ?_; rw [World.setRow_alloc_new]))
  obtain ⟨w3, hw3⟩ : ∃ w3, w3 = w2.alloc (.cells (y.map bv).toArray 24) := ⟨_, rfl⟩
  have h23 : Below w2.heap.size w2 w3 := by rw [hw3]; exact (Below.refl _ _).alloc (Nat.le_refl _) _
  have h13 := HB2.out.trans (h23.mono HB2.out.size)
  have HB3 := Lib.hid (HB1.out.trans (h13.mono HB1.out.size))
  have r1 : rowOf w3 w2.heap.size 0 32 = some (y.map bv).toArray := rowOf_id HY.out (by rw [hw3]; exact heap_alloc_new w2 _)
  have r2 : rowOf w3 w.heap.size 0 32 = some (root.map bv).toArray := rowOf_id HR.out (heap_below h13 HZ1.out)
  rw [← hw3]
  clear hw3 h23 h13
  cases ob with
  | true =>
    go_wp2_with (go_at_call 61; refine (S.out _).mono ?_; rintro e w4 ⟨rfl, hb4⟩)
    go_ret
    exact ⟨by simp, HB3.out.trans (hb4.mono HB3.out.size)⟩
  | false =>
    go_wp2_with fail
    go_ret
    exact ⟨by simp, HB3.out⟩
end
section
set_option linter.unusedVariables false
open Go.RowKit
attribute [local go_sem ↓] loadAt_id
attribute [local go_sem] rowOf_drew rowOf_drewN run_idLoad
theorem Bts.sl {w : World} {A : Option Addr} {xs : List B8} (h : Bts w A xs) : Sl w w.heap.size A (xs.map bv) := fun j u hu => by
  obtain ⟨ad, e, hc⟩ := h j u hu
  have := World.block_lt_of_cell? w _ hc
  rw [add_block] at this
  exact ⟨ad, e, this, hc⟩
end
section
set_option linter.unusedVariables false
set_option linter.unusedSimpArgs false
open Go.RowKit
/-- A certificate, plain: its entry, its header, its tag, its path. -/
structure Crt where
  e : Ent
  h : Hdr
  t : List B8
  ids : List (List B8)
/-- All its digests are of 32 bytes. -/
def Crt.L (x : Crt) : Prop := x.e.d.length = 32 ∧ x.h.L ∧ x.t.length = 32 ∧ ∀ d ∈ x.ids, d.length = 32
def Crt.cells (x : Crt) (A : Option Addr) (c : Nat) : List Value := x.e.cells ++ ([Value.slice A x.ids.length c] ++ (x.h.cells ++ x.t.map bv))
theorem Crt.len (x : Crt) (A : Option Addr) (c : Nat) (h : x.L) : (x.cells A c).length = 137 := by
  simp [Crt.cells, Ent.len _ h.1, Hdr.len _ h.2.1, h.2.2.1]
set_option maxRecDepth 100000 in
theorem Crt.one (x : Crt) (A : Option Addr) (c : Nat) : (x.cells A c).toArray.all (·.oneCell') = true := by
  have h1 := Ent.one x.e
  have h2 := Hdr.one x.h
  rw [Array.all_eq_true_iff_forall_mem] at h1 h2 ⊢
  intro u hu
  simp only [Crt.cells, List.mem_toArray, List.mem_append, List.mem_cons, List.not_mem_nil, or_false, List.mem_map] at hu
  rcases hu with hu | rfl | hu | ⟨y, -, rfl⟩
  · exact h1 u (by simpa using hu)
  · rfl
  · exact h2 u (by simpa using hu)
  · rfl
theorem cr_info : (Tryz.prog.info? 35).map (·.size) = some 137 := by kernel_rfl
/-- A certificate's block. -/
def CAt (w : World) (b : Nat) (x : Crt) (A : Option Addr) (c : Nat) : Prop := w.heap[b]? = some (.cells (x.cells A c).toArray 35 (0, 0))
theorem part_eq {xs P M R : List Value} (e : xs = P ++ (M ++ R)) {o n : Nat} (hP : P.length = o) (hM : M.length = n) : (xs.drop o).take n = M := by
  rw [e, ← hP, List.drop_left, ← hM, List.take_left]
theorem part_row {w : World} {b : Nat} {xs : List Value} {t : TypeId} {fr : Nat × Nat} (h : w.heap[b]? = some (.cells xs.toArray t fr)) {P M R : List Value} (e : xs = P ++ (M ++ R)) {o n : Nat} (hP : P.length = o) (hM : M.length = n) : rowOf w b o n = some M.toArray := by
  have := rowOf_block h o n (by rw [e]; simp; omega)
  rwa [part_eq e hP hM] at this
theorem part_range {w : World} {b : Nat} {xs : List Value} {t : TypeId} {fr : Nat × Nat} (h : w.heap[b]? = some (.cells xs.toArray t fr)) {P M R : List Value} (e : xs = P ++ (M ++ R)) {o : Nat} (hP : P.length = o) : w.rangeAt b o M := fun j v hj => by
  rw [cell_of_row _ _ _ _ _ _ h, List.getElem?_toArray, e, ← hP, List.getElem?_append_right (by omega), show P.length + j - P.length = j by omega, List.getElem?_append_left (List.getElem?_eq_some_iff.1 hj).1]
  exact hj
theorem part_one {w : World} {b : Nat} {xs : List Value} {t : TypeId} {fr : Nat × Nat} (h : w.heap[b]? = some (.cells xs.toArray t fr)) {P R : List Value} {v : Value} (e : xs = P ++ (v :: R)) {o : Nat} (hP : P.length = o) : w.cell? ⟨b, o, none⟩ = some v := by
  rw [cell_of_row _ _ _ _ _ _ h, List.getElem?_toArray, e, ← hP, List.getElem?_append_right (Nat.le_refl _)]
  simp
/-- What a certificate's block holds. -/
structure CF (w : World) (b : Nat) (x : Crt) (A : Option Addr) (c : Nat) : Prop where
  all : rowOf w b 0 137 = some (x.cells A c).toArray
  ent : rowOf w b 0 37 = some x.e.cells.toArray
  hdr : rowOf w b 38 67 = some x.h.cells.toArray
  tag : rowOf w b 105 32 = some (x.t.map bv).toArray
  root : rowOf w b 73 32 = some (x.h.r.map bv).toArray
  tx : rowOf w b 2 32 = some (x.e.d.map bv).toArray
  entR : w.rangeAt b 0 x.e.cells
  hdrR : w.rangeAt b 38 x.h.cells
  tagR : w.rangeAt b 105 (x.t.map bv)
  rootR : w.rangeAt b 73 (x.h.r.map bv)
  txR : w.rangeAt b 2 (x.e.d.map bv)
  path : w.cell? ⟨b, 37, none⟩ = some (.slice A x.ids.length c)
  kind : w.cell? ⟨b, 0, none⟩ = some (.int .i64 x.e.k)
  es : w.cell? ⟨b, 1, none⟩ = some (.int .i64 x.e.s)
  ep : w.cell? ⟨b, 36, none⟩ = some (.int .i64 x.e.p)
  hs : w.cell? ⟨b, 38, none⟩ = some (.int .i64 x.h.s)
  hp : w.cell? ⟨b, 40, none⟩ = some (.int .i64 x.h.p)
set_option maxRecDepth 100000 in
theorem CAt.facts {w : World} {b : Nat} {x : Crt} {A : Option Addr} {c : Nat} (h : CAt w b x A c) (hl : x.L) : CF w b x A c := by
  have nA := Crt.len x A c hl
  obtain ⟨l1, ⟨l2, l3⟩, l4, -⟩ := hl
  have eE : x.cells A c = [] ++ (x.e.cells ++ ([Value.slice A x.ids.length c] ++ (x.h.cells ++ x.t.map bv))) := by simp [Crt.cells]
  have eH : x.cells A c = (x.e.cells ++ [Value.slice A x.ids.length c]) ++ (x.h.cells ++ x.t.map bv) := by simp [Crt.cells]
  have eT : x.cells A c = (x.e.cells ++ ([Value.slice A x.ids.length c] ++ x.h.cells)) ++ (x.t.map bv ++ []) := by simp [Crt.cells]
  have eR : x.cells A c = (x.e.cells ++ ([Value.slice A x.ids.length c] ++ ([Value.int .i64 x.h.s, .int .i64 x.h.t, .int .i64 x.h.p] ++ x.h.d.map bv))) ++ (x.h.r.map bv ++ x.t.map bv) := by simp [Crt.cells, Hdr.cells]
  have eX : x.cells A c = [Value.int .i64 x.e.k, .int .i64 x.e.s] ++ (x.e.d.map bv ++ ([Value.int .u64 (x.e.a : Int), .int .i64 x.e.y, .int .i64 x.e.p] ++ ([Value.slice A x.ids.length c] ++ (x.h.cells ++ x.t.map bv)))) := by simp [Crt.cells, Ent.cells]
  have eA : x.cells A c = [] ++ (x.cells A c ++ []) := by simp
  have n37 : x.e.cells.length = 37 := Ent.len _ l1
  have n67 : x.h.cells.length = 67 := Hdr.len _ ⟨l2, l3⟩
  refine ⟨part_row h eA rfl nA, part_row h eE rfl n37, part_row h eH (by simp [n37]) n67, part_row h eT (by simp [n37, n67]) (by simp [l4]), part_row h eR (by simp [n37, l2]) (by simp [l3]), part_row h eX rfl (by simp [l1]), part_range h eE rfl, part_range h eH (by simp [n37]), part_range h eT (by simp [n37, n67]), part_range h eR (by simp [n37, l2]), part_range h eX rfl, ?_, ?_, ?_, ?_, ?_, ?_⟩
  · exact part_one h (P := x.e.cells) (R := x.h.cells ++ x.t.map bv) (by simp [Crt.cells]) n37
  · exact part_one h (P := []) (R := Value.int .i64 x.e.s :: (x.e.d.map bv ++ ([Value.int .u64 (x.e.a : Int), .int .i64 x.e.y, .int .i64 x.e.p] ++ ([Value.slice A x.ids.length c] ++ (x.h.cells ++ x.t.map bv))))) (by simp [Crt.cells, Ent.cells]) rfl
  · exact part_one h (P := [Value.int .i64 x.e.k]) (R := x.e.d.map bv ++ ([Value.int .u64 (x.e.a : Int), .int .i64 x.e.y, .int .i64 x.e.p] ++ ([Value.slice A x.ids.length c] ++ (x.h.cells ++ x.t.map bv)))) (by simp [Crt.cells, Ent.cells]) rfl
  · exact part_one h (P := [Value.int .i64 x.e.k, .int .i64 x.e.s] ++ (x.e.d.map bv ++ [Value.int .u64 (x.e.a : Int), .int .i64 x.e.y])) (R := [Value.slice A x.ids.length c] ++ (x.h.cells ++ x.t.map bv)) (by simp [Crt.cells, Ent.cells]) (by simp [l1])
  · exact part_one h (P := x.e.cells ++ [Value.slice A x.ids.length c]) (R := [Value.int .i64 x.h.t, .int .i64 x.h.p] ++ (x.h.d.map bv ++ (x.h.r.map bv ++ x.t.map bv))) (by simp [Crt.cells, Hdr.cells]) (by simp [n37])
  · exact part_one h (P := x.e.cells ++ [Value.slice A x.ids.length c, Value.int .i64 x.h.s, .int .i64 x.h.t]) (R := x.h.d.map bv ++ (x.h.r.map bv ++ x.t.map bv)) (by simp [Crt.cells, Hdr.cells]) (by simp [n37])
/-- A load of a certificate, behind a name that the walk does not open. -/
def crLoad (v : Value) : Sem Value := Instr.loadAt 35 v
set_option maxRecDepth 100000 in
theorem loadAt_cr (v : Value) : Instr.loadAt 35 v = crLoad v := rfl
set_option maxRecDepth 100000 in
theorem run_crLoad (w : World) (b o : Nat) : (crLoad (.pointer (some ⟨b, o, none⟩))).run Tryz.prog w = (match rowOf w b o 137 with | some C => .ok (.agg C) w | none => loadRest Tryz.prog 35 b o w) := by
  unfold crLoad
  cases h : rowOf w b o 137 with
  | none => rfl
  | some C =>
    obtain ⟨hs, hr⟩ := rowOf_some h
    have := run_loadAt_mid w b o 35 C.toList _ hr Tryz.underlying35 rfl (by rw [Array.length_toList, hs]; kernel_rfl)
    simpa using this
/-- A certificate's path lies where its slice says. -/
def CPath (w : World) (x : Crt) (A : Option Addr) (c : Nat) : Prop := IdsAt w A x.ids ∧ x.ids.length ≤ c ∧ (A = none → c = 0)
theorem CPath.turn {w w' : World} {x : Crt} {A : Option Addr} {c : Nat} (h : CPath w x A c) (t : Turn (fun _ => False) w w') : CPath w' x A c := ⟨h.1.below (turn_stp' t), h.2⟩
/-- The same parts? -/
def Crt.same (x y : Crt) : Prop := x.e = y.e ∧ x.h = y.h ∧ x.t = y.t ∧ x.ids = y.ids
instance (x y : Crt) : Decidable (x.same y) := by unfold Crt.same; infer_instance
end
section
set_option linter.unusedVariables false
set_option linter.unusedSimpArgs false
open Go.RowKit
attribute [local go_sem ↓] loadAt_cr loadAt_hd loadAt_en loadAt_id
attribute [local go_sem] run_crLoad run_hdLoad run_enLoad run_idLoad rowOf_drew rowOf_drewN
/-- Does a path of two climb from the entry to the root, and is the tag the shard's? -/
def isT (seed : List B8) (x : Crt) : Bool := match x.ids with
  | [p, q] => decide (nodeD (nodeD p (leafD (formE x.e))) q = x.h.r) && decide (x.t = signD seed x.h.s.toNat (formH x.h))
  | _ => false
/-- Is a certificate right? -/
def isC (seed : List B8) (n : Int) (x : Crt) : Bool := decide (okB x.e) && (decide (okH x.h) && (decide (x.e.s = x.h.s) && (decide (x.e.p = x.h.p) && (decide (x.h.s < n) && isT seed x))))
theorem isT_not (seed : List B8) (x : Crt) (h : x.ids.length ≠ 2) : isT seed x = false := by
  unfold isT
  split
  · rename_i p q e; rw [e] at h; exact absurd rfl h
  · rfl
theorem cr_path0 {x : Crt} {p q : List B8} (e : x.ids = [p, q]) {w : World} {A : Option Addr} (h : IdsAt w A x.ids) : ∃ b o, A = some ⟨b, o, none⟩ ∧ b < w.heap.size ∧ w.rangeAt b (o + 0 * 32) (p.map bv) ∧ w.rangeAt b (o + 1 * 32) (q.map bv) := by
  rw [e] at h
  obtain ⟨h1, b, o, e1, hlt, r1⟩ := h 0 p rfl
  obtain ⟨h2, b', o', e2, hlt', r2⟩ := h 1 q rfl
  rw [e1] at e2
  injection e2 with e2
  injection e2 with e2 e3
  subst e2 e3
  exact ⟨b, o, e1, hlt, r1, r2⟩
end
section
set_option linter.unusedVariables false
set_option linter.unusedSimpArgs false
open Go.RowKit
theorem hp_3 : hp 3 = 2 := by decide
theorem hp_2 : hp 2 = 1 := by decide
theorem climb13_two (b p q : List B8) : climbZ b 1 3 [p, q] = some (nodeD (nodeD p (leafD b)) q) := by
  have h0 : climbZ b ((1 : Nat) : Int) ((3 : Nat) : Int) [p, q] = climbD b 1 3 [p, q] := climbZ_nat (by omega) (by omega)
  have h1 : climbD b 1 3 ([p] ++ [q]) = (climbD b 1 (hp 3) [p]).map fun d => nodeD d q := climbD_low (by omega) (by rw [hp_3]; omega) (by omega)
  have h2 : climbD b 1 2 ([] ++ [p]) = (climbD b (1 - hp 2) (2 - hp 2) []).map fun d => nodeD p d := climbD_high (by omega) (by omega) (by rw [hp_2]; omega) (by omega)
  rw [hp_2] at h2
  rw [hp_3] at h1
  have h3 := climbD_one b []
  rw [show climbZ b 1 3 [p, q] = climbD b 1 3 [p, q] from h0, show ([p, q] : List (List B8)) = [p] ++ [q] from rfl, h1, show ([p] : List (List B8)) = [] ++ [p] from rfl, h2, show 1 - 1 = 0 from rfl, show 2 - 1 = 1 from rfl, h3]
  rfl
theorem plen13 : plenD 1 3 = 2 := by
  rw [plenD, dif_pos (by omega), hp_3, if_pos (by omega), plenD, dif_pos (by omega), hp_2, if_neg (by omega), plenD, dif_neg (by omega)]
theorem climb13_len (b : List B8) (ids : List (List B8)) (h : ids.length ≠ 2) : climbZ b 1 3 ids = none := by
  have h0 : climbZ b ((1 : Nat) : Int) ((3 : Nat) : Int) ids = climbD b 1 3 ids := climbZ_nat (by omega) (by omega)
  rw [show climbZ b 1 3 ids = climbD b 1 3 ids from h0]
  refine Decidable.byContradiction fun hn => h ?_
  rw [climb_len 3 b 1 ids hn, plen13]
/-- The tag of a certificate is its shard's. -/
def tagC (seed : List B8) (n : Int) (x : Crt) : Bool := decide (x.h.s < n) && decide (signD seed x.h.s.toNat (formH x.h) = x.t)
/-- Its path climbs to its root. -/
def clmC (x : Crt) : Bool := isD x.h.r (climbZ (formE x.e) 1 3 x.ids)
theorem isC_code (seed : List B8) (n : Int) (x : Crt) : isC seed n x = (decide (okB x.e) && (decide (okH x.h) && (decide (x.e.s = x.h.s) && (decide (x.e.p = x.h.p) && (clmC x && tagC seed n x))))) := by
  unfold isC
  congr 1; congr 1; congr 1; congr 1
  unfold clmC tagC
  by_cases h : x.ids.length = 2
  · match hi : x.ids, h with
    | [p, q], _ =>
      rw [climb13_two]
      unfold isT isD
      rw [hi]
      simp only
      rw [show decide (x.t = signD seed x.h.s.toNat (formH x.h)) = decide (signD seed x.h.s.toNat (formH x.h) = x.t) from decide_eq_decide.2 eq_comm]
      generalize decide (x.h.s < n) = a
      generalize decide (nodeD (nodeD p (leafD (formE x.e))) q = x.h.r) = b
      generalize decide (signD seed x.h.s.toNat (formH x.h) = x.t) = d
      cases a <;> cases b <;> cases d <;> rfl
  · rw [climb13_len _ _ h, isT_not _ _ h]
    unfold isD
    simp
theorem ringIs_u (gr gk n : Nat) (z : Int) (seed b d : List B8) (A' : Option Addr) (c' : Nat) (w : World) (hR : RingAt w gr gk seed n) (hz : 0 ≤ z) (hn : n ≤ 64) (hB : Bts w A' b) (hc' : b.length ≤ c') (hG : Glob w) (hb : b.length ≤ 1000000) (hd : d.length = 32) :
    Calls Tryz.prog 29 #[ringV gr, .int .i64 z, .slice A' b.length c', .agg (d.map bv).toArray] w fun e w' => e = .returned (.bool (decide (z < (n : Int)) && decide (signD seed z.toNat b = d))) ∧ Below w.heap.size w w' := by
  by_cases h : z < (n : Int)
  · obtain ⟨k, rfl⟩ : ∃ k : Nat, z = (k : Int) := ⟨z.toNat, by omega⟩
    have := ringIs_some gr gk n k seed b d A' c' w hR (by omega) hn hB hc' hG hb hd
    rw [decide_eq_true h, Bool.true_and]
    exact this
  · rw [decide_eq_false h, Bool.false_and]
    exact ringIs_none gr gk n z seed _ (.bool false) d w hR (by omega) hd
/-- What 'Sign' comes to at any shard that isn't below zero. -/
theorem sign_u (gr gk n : Nat) (z : Int) (seed b : List B8) (A' : Option Addr) (c' : Nat) (w : World) (hR : RingAt w gr gk seed n) (hz : 0 ≤ z) (hn : n ≤ 64) (hB : Bts w A' b) (hc' : b.length ≤ c') (hG : Glob w) (hb : b.length ≤ 1000000) :
    Calls Tryz.prog 47 #[ringV gr, .int .i64 z, .slice A' b.length c'] w fun e w' => e = .returned (signV (signZ seed n z b)) ∧ Below w.heap.size w w' := by
  by_cases h : z < (n : Int)
  · obtain ⟨k, rfl⟩ : ∃ k : Nat, z = (k : Int) := ⟨z.toNat, by omega⟩
    rw [signZ_nat (by omega)]
    exact sign_some gr gk n k seed b A' c' w hR (by omega) hn hB hc' hG hb
  · rw [signZ_none (by omega)]
    exact sign_none gr gk n z seed _ w hR (by omega)
end
end Go.Proofs.YthoaaieiiokcmaaGreatDoor
