/- The document's Climb. -/
import Derived.Test.YtppkjlmnnpfcfaaDoorTrM
set_option linter.unusedVariables false
namespace Go.Proofs.YtppkjlmnnpfcfaaDoor
open Go.RowKit
attribute [local go_sem ↓] loadAt_id
attribute [local go_sem] rowOf_drew rowOf_drewN run_idLoad
set_option maxRecDepth 100000 in
set_option maxHeartbeats 4000000 in
theorem rclimb_bad (A A' : Option Addr) (lb c lp c' : Nat) (z zn : Int) (w : World) (h : ¬ (0 ≤ z ∧ z < zn ∧ zn ≤ 1048576) ∨ (zn = 1 ∧ lp ≠ 0) ∨ (zn ≠ 1 ∧ lp = 0)) (hlp : lp ≤ maxLen) :
    Calls Tryd.prog 16 #[.slice A lb c, .int .i64 z, .int .i64 zn, .slice A' lp c'] w fun e w' => e = .returned (ansV none) ∧ Below w.heap.size w w' := by
  unfold maxLen at hlp
  obtain ⟨w1, hw1⟩ : ∃ w1, w1 = w.alloc (.cells ZId 26) := ⟨_, rfl⟩
  have hb1 : Below w.heap.size w w1 := by rw [hw1]; exact (Below.refl _ _).alloc (Nat.le_refl _) _
  have hz1 : w1.heap[w.heap.size]? = some (.cells ZId 26 (0, 0)) := by rw [hw1]; exact heap_alloc_new w _
  have HB1 := Lib.hid hb1
  have HZ1 := Lib.hid hz1
  have H1 := Lib.hid info_z
  have H3 := Lib.hid (show ZId.all (·.oneCell') = true by kernel_rfl)
  have HH := Lib.hid h
  rw [ansV_none]
  clear hb1 hz1 h
  by_cases h1 : zn < 1
  · have t0 : decide (zn < 1) = true := by rw [decide_eq_true_eq]; exact h1
    go_enter Tryd.func16, Tryd.ntmps16
    go_upto_region 1 with fail
    rw [← hw1]
    clear hw1
    go_wp2_with (refine wpList_store_row rfl _ _ _ rfl w.heap.size ZId rfl rfl _ ZId HZ1.out H1.out rfl H3.out ?_)
    have hA2 := setRow_heap w1 w.heap.size ZId ZId 26 (0, 0) HZ1.out
    refine bodyPost_ret (v := .tuple #[.agg ZId, .bool false]) ?_ rfl ⟨rfl, below_setRow HB1.out (Nat.le_refl _) ZId⟩
    exact results_two Tryd.results16 _ _ w.heap.size _ ZId (0, 0) _ _ rfl rfl hA2 Tryd.underlying26 rfl H1.out
  have t0 : decide (zn < 1) = false := by rw [decide_eq_false_iff_not]; exact h1
  by_cases h2 : 1048576 < zn
  · have t1 : decide (1048576 < zn) = true := by rw [decide_eq_true_eq]; exact h2
    go_enter Tryd.func16, Tryd.ntmps16
    go_upto_region 1 with fail
    rw [← hw1]
    clear hw1
    go_wp2_with (refine wpList_store_row rfl _ _ _ rfl w.heap.size ZId rfl rfl _ ZId HZ1.out H1.out rfl H3.out ?_)
    have hA2 := setRow_heap w1 w.heap.size ZId ZId 26 (0, 0) HZ1.out
    refine bodyPost_ret (v := .tuple #[.agg ZId, .bool false]) ?_ rfl ⟨rfl, below_setRow HB1.out (Nat.le_refl _) ZId⟩
    exact results_two Tryd.results16 _ _ w.heap.size _ ZId (0, 0) _ _ rfl rfl hA2 Tryd.underlying26 rfl H1.out
  have t1 : decide (1048576 < zn) = false := by rw [decide_eq_false_iff_not]; exact h2
  by_cases h3 : z < 0
  · have t2 : decide (z < 0) = true := by rw [decide_eq_true_eq]; exact h3
    go_enter Tryd.func16, Tryd.ntmps16
    go_upto_region 1 with fail
    rw [← hw1]
    clear hw1
    go_wp2_with (refine wpList_store_row rfl _ _ _ rfl w.heap.size ZId rfl rfl _ ZId HZ1.out H1.out rfl H3.out ?_)
    have hA2 := setRow_heap w1 w.heap.size ZId ZId 26 (0, 0) HZ1.out
    refine bodyPost_ret (v := .tuple #[.agg ZId, .bool false]) ?_ rfl ⟨rfl, below_setRow HB1.out (Nat.le_refl _) ZId⟩
    exact results_two Tryd.results16 _ _ w.heap.size _ ZId (0, 0) _ _ rfl rfl hA2 Tryd.underlying26 rfl H1.out
  have t2 : decide (z < 0) = false := by rw [decide_eq_false_iff_not]; exact h3
  by_cases h4 : zn ≤ z
  · have t3 : decide (zn ≤ z) = true := by rw [decide_eq_true_eq]; exact h4
    go_enter Tryd.func16, Tryd.ntmps16
    go_upto_region 1 with fail
    rw [← hw1]
    clear hw1
    go_wp2_with (refine wpList_store_row rfl _ _ _ rfl w.heap.size ZId rfl rfl _ ZId HZ1.out H1.out rfl H3.out ?_)
    have hA2 := setRow_heap w1 w.heap.size ZId ZId 26 (0, 0) HZ1.out
    refine bodyPost_ret (v := .tuple #[.agg ZId, .bool false]) ?_ rfl ⟨rfl, below_setRow HB1.out (Nat.le_refl _) ZId⟩
    exact results_two Tryd.results16 _ _ w.heap.size _ ZId (0, 0) _ _ rfl rfl hA2 Tryd.underlying26 rfl H1.out
  have t3 : decide (zn ≤ z) = false := by rw [decide_eq_false_iff_not]; exact h4
  by_cases h5 : zn = 1
  · have h6 : lp ≠ 0 := by have := HH.out; omega
    have t4 : (zn == 1) = true := by rw [beq_iff_eq]; exact h5
    have t5 : ((lp : Int) == 0) = false := beq_false_of_ne (by omega)
    have t6 : (lp == 0) = false := beq_false_of_ne h6
    clear h5 h6
    go_enter Tryd.func16, Tryd.ntmps16
    go_upto_region 1 with fail
    rw [← hw1]
    clear hw1
    go_wp2_with (refine wpList_store_row rfl _ _ _ rfl w.heap.size ZId rfl rfl _ ZId HZ1.out H1.out rfl H3.out ?_)
    have hA2 := setRow_heap w1 w.heap.size ZId ZId 26 (0, 0) HZ1.out
    refine bodyPost_ret (v := .tuple #[.agg ZId, .bool false]) ?_ rfl ⟨rfl, below_setRow HB1.out (Nat.le_refl _) ZId⟩
    exact results_two Tryd.results16 _ _ w.heap.size _ ZId (0, 0) _ _ rfl rfl hA2 Tryd.underlying26 rfl H1.out
  · have h6 : lp = 0 := by have := HH.out; omega
    subst h6
    have t4 : (zn == 1) = false := beq_false_of_ne h5
    go_enter Tryd.func16, Tryd.ntmps16
    go_upto_region 1 with fail
    rw [← hw1]
    clear hw1
    go_wp2_with (refine wpList_store_row rfl _ _ _ rfl w.heap.size ZId rfl rfl _ ZId HZ1.out H1.out rfl H3.out ?_)
    have hA2 := setRow_heap w1 w.heap.size ZId ZId 26 (0, 0) HZ1.out
    refine bodyPost_ret (v := .tuple #[.agg ZId, .bool false]) ?_ rfl ⟨rfl, below_setRow HB1.out (Nat.le_refl _) ZId⟩
    exact results_two Tryd.results16 _ _ w.heap.size _ ZId (0, 0) _ _ rfl rfl hA2 Tryd.underlying26 rfl H1.out
set_option maxRecDepth 100000 in
set_option maxHeartbeats 4000000 in
theorem rclimb_nat (A : Option Addr) (c : Nat) (b : List B8) (hA : A = none → c = 0) (hc : b.length ≤ c) (hb : b.length ≤ 1000000) : ∀ (N n k : Nat) (p : List (List B8)) (A' : Option Addr) (c' : Nat) (w : World), n ≤ N → k < n → n ≤ 1048576 → p.length ≤ c' → p.length ≤ 1000000 → IdsAt w A' p → Bts w A b →
    Calls Tryd.prog 16 #[.slice A b.length c, .int .i64 (k : Int), .int .i64 (n : Int), .slice A' p.length c'] w fun e w' => e = .returned (ansV (climbD b k n p)) ∧ Below w.heap.size w w' := by
  intro N
  induction N with
  | zero => intro n k p A' c' w hN hk; omega
  | succ N ih =>
    intro n k p A' c' w hN hk hn hpc hpm hI hB
    obtain ⟨w1, hw1⟩ : ∃ w1, w1 = w.alloc (.cells ZId 26) := ⟨_, rfl⟩
    have hs1 : w1.heap.size = w.heap.size + 1 := by rw [hw1]; simp
    have hb1 : Below w.heap.size w w1 := by rw [hw1]; exact (Below.refl _ _).alloc (Nat.le_refl _) _
    have hz1 : w1.heap[w.heap.size]? = some (.cells ZId 26 (0, 0)) := by rw [hw1]; exact heap_alloc_new w _
    have HB1 := Lib.hid hb1
    have HZ1 := Lib.hid hz1
    have HX1 := Lib.hid (hB.below hb1)
    have HI1 := Lib.hid (hI.below hb1)
    have t0 : decide ((n : Int) < 1) = false := by rw [decide_eq_false_iff_not]; omega
    have t1 : decide ((1048576 : Int) < (n : Int)) = false := by rw [decide_eq_false_iff_not]; omega
    have t2 : decide ((k : Int) < 0) = false := by rw [decide_eq_false_iff_not]; omega
    have t3 : decide ((n : Int) ≤ (k : Int)) = false := by rw [decide_eq_false_iff_not]; omega
    have u3 : ¬ n ≤ k := by omega
    have u4 : ¬ 1048576 < n := by omega
    have u5 : ¬ n < 1 := by omega
    by_cases h1 : n = 1
    · subst h1
      obtain rfl : k = 0 := by omega
      rw [climbD_one]
      by_cases hp0 : p.length = 0
      · rw [if_pos hp0, hp0]
        have R := Lib.hid (rleaf_any A c b w1 HX1.out hA hc hb)
        obtain ⟨C, hC⟩ : ∃ C, C = ((leafD b).map bv).toArray := ⟨_, rfl⟩
        rw [← hC] at R
        have ea : ansV (some (leafD b)) = .tuple #[.agg C, .bool true] := by rw [hC]; rfl
        rw [ea]
        have hC32 : C.size = 32 := by rw [hC]; simp [leafD_len]
        have H3 := Lib.hid (show C.all (·.oneCell') = true by rw [hC]; exact bvs_one _)
        have H1 := Lib.hid (show (Tryd.prog.info? 26).map (·.size) = some C.size by rw [hC32]; kernel_rfl)
        have H2 := Lib.hid (show ZId.size = C.size by rw [hC32]; rfl)
        clear hC hC32 ea ih hb1 hz1 hI hB hp0 hpc hpm
        go_enter Tryd.func16, Tryd.ntmps16
        go_upto_region 1 with fail
        rw [← hw1]
        clear hw1
        go_wp2_with (first
          | (go_at_call 25; refine R.out.mono ?_; rintro e w2 ⟨rfl, hb2⟩; have HB2 := Lib.hid (HB1.out.trans (hb2.mono HB1.out.size)); have HZ2 := Lib.hid (heap_below hb2 HZ1.out); clear hb2)
          | (refine wpList_store_row rfl _ _ _ rfl w.heap.size C rfl rfl _ ZId HZ2.out H1.out H2.out H3.out ?_))
        have hA2 := setRow_heap w2 w.heap.size ZId C 26 (0, 0) HZ2.out
        refine bodyPost_ret (v := .tuple #[.agg C, .bool true]) ?_ rfl ⟨rfl, below_setRow HB2.out (Nat.le_refl _) C⟩
        exact results_two Tryd.results16 _ _ w.heap.size _ C (0, 0) _ _ rfl rfl hA2 Tryd.underlying26 rfl H1.out
      · rw [if_neg hp0]
        exact rclimb_bad A A' b.length c p.length c' _ _ w (.inr (.inl ⟨rfl, hp0⟩)) (by unfold maxLen; omega)
    · have h2 : 2 ≤ n := by omega
      rcases List.eq_nil_or_concat p with rfl | ⟨q, x, rfl⟩
      · rw [climbD_nil h2]
        exact rclimb_bad A A' b.length c 0 c' _ _ w (.inr (.inr ⟨by omega, rfl⟩)) (by unfold maxLen; omega)
      · rw [List.concat_eq_append] at *
        have t4 : ((n : Int) == 1) = false := beq_false_of_ne (by omega)
        have hlen : (q ++ [x]).length = q.length + 1 := by simp
        have t5 : ((q.length : Int) + 1 == 0) = false := beq_false_of_ne (by omega)
        have hh := hp_lt h2
        have hh1 := hp_pos n
        have F := Lib.hid (fun w => half_any n w h2 (by omega))
        rw [hlen] at hpc hpm
        have sh := slicei_hi A' (q.length + 1) c' q.length (by omega) (by omega)
        obtain ⟨hx32, bx, ox, eA, hbx, hrow⟩ := HI1.out q.length x (by simp)
        subst eA
        have r0 : rowOf w1 bx (ox + q.length * 32) 32 = some (x.map bv).toArray := rowOf_eq (by simp [hx32]) hrow
        have HIq := Lib.hid (show IdsAt w1 (some ⟨bx, ox, none⟩) q by
          have := HI1.out.front q.length
          rwa [List.take_left' rfl] at this)
        rw [hlen]
        have X1 := Lib.hid (show (Tryd.prog.info? 26).map (·.size) = some ((x.map bv).toArray).size by simp only [List.size_toArray, List.length_map, hx32]; kernel_rfl)
        have X2 := Lib.hid (show ZId.size = ((x.map bv).toArray).size by simp only [List.size_toArray, List.length_map, hx32]; rfl)
        have X3 := Lib.hid (bvs_one x)
        have HX32 := Lib.hid hx32
        by_cases hkh : k < hp n
        · have ce := climbD_low h2 hkh hn (leaf := b) (p := q) (x := x)
          have IH := Lib.hid (fun (w : World) (h1 : IdsAt w (some ⟨bx, ox, none⟩) q) (h2 : Bts w A b) => ih (hp n) k q (some ⟨bx, ox, none⟩) c' w (by omega) (by omega) (by omega) (by omega) (by omega) h1 h2)
          have hy32 : ((climbD b k (hp n) q).getD (zeros 32)).length = 32 := getD_len32
          obtain ⟨o, ho⟩ : ∃ o, o = climbD b k (hp n) q := ⟨_, rfl⟩
          rw [← ho] at ce hy32 IH
          rw [ce]
          obtain ⟨y, hy⟩ : ∃ y, y = o.getD (zeros 32) := ⟨_, rfl⟩
          obtain ⟨ob, hob⟩ : ∃ ob, ob = o.isSome := ⟨_, rfl⟩
          have er : (o.map fun d => nodeD d x) = if ob = true then some (nodeD y x) else none := by
            rw [hob, hy]; cases o <;> rfl
          have ea : ansV o = .tuple #[.agg (y.map bv).toArray, .bool ob] := by rw [hy, hob]; rfl
          rw [er]
          rw [ea] at IH
          rw [← hy] at hy32
          have D1 := Lib.hid (show (Tryd.prog.info? 26).map (·.size) = some ((y.map bv).toArray).size by simp only [List.size_toArray, List.length_map, hy32]; kernel_rfl)
          have D2 := Lib.hid (show ZId.size = ((y.map bv).toArray).size by simp only [List.size_toArray, List.length_map, hy32]; rfl)
          have D3 := Lib.hid (bvs_one y)
          have J := Lib.hid (fun (w : World) => rnode_any y x w hy32 hx32)
          have HY32 := Lib.hid hy32
          have hkI : decide ((k : Int) < (hp n : Int)) = true := by rw [decide_eq_true_eq]; omega
          clear ce ih er ea ho hy hob hx32 hy32 HI1 hlen hrow hb1 hz1 hI hB
          generalize hp n = h at *
          go_enter Tryd.func16, Tryd.ntmps16
          go_upto_region 1 with fail
          rw [← hw1]
          clear hw1
          go_upto_region 8 with (first
            | (go_at_call 26; refine (F.out _).mono ?_; rintro e w' ⟨rfl, hw⟩; rw [hw]; clear hw w')
            | (refine wpList_store_row rfl _ _ _ rfl w1.heap.size (x.map bv).toArray rfl rfl 26 _ (heap_alloc_new w1 _) X1.out X2.out X3.out ?_; rw [World.setRow_alloc_new])
            | (refine wpList_store_row rfl _ _ _ rfl (w.heap.size + 1) (x.map bv).toArray rfl rfl 26 _ (by rw [← hs1]; exact heap_alloc_new w1 _) X1.out X2.out X3.out ?_; rw [← hs1, World.setRow_alloc_new]))
          obtain ⟨w2, hw2⟩ : ∃ w2, w2 = w1.alloc (.cells (x.map bv).toArray 26) := ⟨_, rfl⟩
          have h12 : Below w1.heap.size w1 w2 := by rw [hw2]; exact (Below.refl _ _).alloc (Nat.le_refl _) _
          have HB2 := Lib.hid (HB1.out.trans (h12.mono HB1.out.size))
          have HZ2 := Lib.hid (heap_below h12 HZ1.out)
          have HI2 := Lib.hid (HIq.out.below h12)
          have HX2 := Lib.hid (HX1.out.below h12)
          have RX2 := Lib.hid (show w2.heap[w.heap.size + 1]? = some (.cells (x.map bv).toArray 26 (0, 0)) by rw [hw2, ← hs1]; exact heap_alloc_new w1 _)
          have hs2 : w2.heap.size = w.heap.size + 2 := by rw [hw2]; simp [hs1]
          rw [← hw2]
          clear hw2 h12 r0 hs1
          go_upto_region 9 with (first
            | (go_at_call 16; refine (IH.out _ HI2.out HX2.out).mono ?_; rintro e w3 ⟨rfl, hb3⟩; have HB3 := Lib.hid hb3; clear hb3)
            | (refine wpList_store_row rfl _ _ _ rfl w3.heap.size (y.map bv).toArray rfl rfl 26 _ (heap_alloc_new w3 _) D1.out D2.out D3.out ?_; rw [World.setRow_alloc_new]))
          obtain ⟨w4, hw4⟩ : ∃ w4, w4 = w3.alloc (.cells (y.map bv).toArray 26) := ⟨_, rfl⟩
          have h34 : Below w3.heap.size w3 w4 := by rw [hw4]; exact (Below.refl _ _).alloc (Nat.le_refl _) _
          have h24 := HB3.out.trans (h34.mono HB3.out.size)
          have HB4 := Lib.hid (HB2.out.trans (h24.mono HB2.out.size))
          have HZ4 := Lib.hid (heap_below h24 HZ2.out)
          have r1 : rowOf w4 w3.heap.size 0 32 = some (y.map bv).toArray := rowOf_id HY32.out (by rw [hw4]; exact heap_alloc_new w3 _)
          have r2 : rowOf w4 (w.heap.size + 1) 0 32 = some (x.map bv).toArray := rowOf_id HX32.out (heap_below h24 RX2.out)
          rw [← hw4]
          clear hw4 h34 h24
          cases ob with
          | true =>
            obtain ⟨C, hC⟩ : ∃ C, C = ((nodeD y x).map bv).toArray := ⟨_, rfl⟩
            have hC32 : C.size = 32 := by rw [hC]; simp [nodeD_len]
            have H3 := Lib.hid (show C.all (·.oneCell') = true by rw [hC]; exact bvs_one _)
            have H1 := Lib.hid (show (Tryd.prog.info? 26).map (·.size) = some C.size by rw [hC32]; kernel_rfl)
            have H2 := Lib.hid (show ZId.size = C.size by rw [hC32]; rfl)
            rw [← hC] at J
            have ea : ansV (some (nodeD y x)) = .tuple #[.agg C, .bool true] := by rw [hC]; rfl
            have EA := Lib.hid ea
            clear hC hC32 ea
            go_wp2_with (first
              | (go_at_call 27; refine (J.out _).mono ?_; rintro e w5 ⟨rfl, hb5⟩; have HB5 := Lib.hid (HB4.out.trans (hb5.mono HB4.out.size)); have HZ5 := Lib.hid (heap_below hb5 HZ4.out); clear hb5)
              | (refine wpList_store_row rfl _ _ _ rfl w.heap.size C rfl rfl _ ZId HZ5.out H1.out H2.out H3.out ?_))
            have hA2 := setRow_heap w5 w.heap.size ZId C 26 (0, 0) HZ5.out
            refine bodyPost_ret (v := .tuple #[.agg C, .bool true]) ?_ rfl ⟨by rw [EA.out], below_setRow HB5.out (Nat.le_refl _) C⟩
            exact results_two Tryd.results16 _ _ w.heap.size _ C (0, 0) _ _ rfl rfl hA2 Tryd.underlying26 rfl H1.out
          | false =>
            have H1 := Lib.hid info_z
            have H3 := Lib.hid (show ZId.all (·.oneCell') = true by kernel_rfl)
            go_wp2_with (refine wpList_store_row rfl _ _ _ rfl w.heap.size ZId rfl rfl _ ZId HZ4.out H1.out rfl H3.out ?_)
            have hA2 := setRow_heap w4 w.heap.size ZId ZId 26 (0, 0) HZ4.out
            refine bodyPost_ret (v := .tuple #[.agg ZId, .bool false]) ?_ rfl ⟨rfl, below_setRow HB4.out (Nat.le_refl _) ZId⟩
            exact results_two Tryd.results16 _ _ w.heap.size _ ZId (0, 0) _ _ rfl rfl hA2 Tryd.underlying26 rfl H1.out
        · have ce := climbD_high h2 hk hkh hn (leaf := b) (p := q) (x := x)
          have IH := Lib.hid (fun (w : World) (h1 : IdsAt w (some ⟨bx, ox, none⟩) q) (h2 : Bts w A b) => ih (n - hp n) (k - hp n) q (some ⟨bx, ox, none⟩) c' w (by omega) (by omega) (by omega) (by omega) (by omega) h1 h2)
          have hy32 : ((climbD b (k - hp n) (n - hp n) q).getD (zeros 32)).length = 32 := getD_len32
          obtain ⟨o, ho⟩ : ∃ o, o = climbD b (k - hp n) (n - hp n) q := ⟨_, rfl⟩
          rw [← ho] at ce hy32 IH
          rw [ce]
          obtain ⟨y, hy⟩ : ∃ y, y = o.getD (zeros 32) := ⟨_, rfl⟩
          obtain ⟨ob, hob⟩ : ∃ ob, ob = o.isSome := ⟨_, rfl⟩
          have er : (o.map fun d => nodeD x d) = if ob = true then some (nodeD x y) else none := by
            rw [hob, hy]; cases o <;> rfl
          have ea : ansV o = .tuple #[.agg (y.map bv).toArray, .bool ob] := by rw [hy, hob]; rfl
          rw [er]
          rw [ea] at IH
          rw [← hy] at hy32
          have D1 := Lib.hid (show (Tryd.prog.info? 26).map (·.size) = some ((y.map bv).toArray).size by simp only [List.size_toArray, List.length_map, hy32]; kernel_rfl)
          have D2 := Lib.hid (show ZId.size = ((y.map bv).toArray).size by simp only [List.size_toArray, List.length_map, hy32]; rfl)
          have D3 := Lib.hid (bvs_one y)
          have J := Lib.hid (fun (w : World) => rnode_any x y w hx32 hy32)
          have HY32 := Lib.hid hy32
          have hkI : decide ((k : Int) < (hp n : Int)) = false := by rw [decide_eq_false_iff_not]; omega
          have s1 : ((k - hp n : Nat) : Int) = (k : Int) - (hp n : Int) := by omega
          have s2 : ((n - hp n : Nat) : Int) = (n : Int) - (hp n : Int) := by omega
          rw [s1, s2] at IH
          clear s1 s2
          clear ce ih er ea ho hy hob hx32 hy32 HI1 hlen hrow hb1 hz1 hI hB
          generalize hp n = h at *
          go_enter Tryd.func16, Tryd.ntmps16
          go_upto_region 1 with fail
          rw [← hw1]
          clear hw1
          go_upto_region 12 with (first
            | (go_at_call 26; refine (F.out _).mono ?_; rintro e w' ⟨rfl, hw⟩; rw [hw]; clear hw w')
            | (refine wpList_store_row rfl _ _ _ rfl w1.heap.size (x.map bv).toArray rfl rfl 26 _ (heap_alloc_new w1 _) X1.out X2.out X3.out ?_; rw [World.setRow_alloc_new])
            | (refine wpList_store_row rfl _ _ _ rfl (w.heap.size + 1) (x.map bv).toArray rfl rfl 26 _ (by rw [← hs1]; exact heap_alloc_new w1 _) X1.out X2.out X3.out ?_; rw [← hs1, World.setRow_alloc_new]))
          obtain ⟨w2, hw2⟩ : ∃ w2, w2 = w1.alloc (.cells (x.map bv).toArray 26) := ⟨_, rfl⟩
          have h12 : Below w1.heap.size w1 w2 := by rw [hw2]; exact (Below.refl _ _).alloc (Nat.le_refl _) _
          have HB2 := Lib.hid (HB1.out.trans (h12.mono HB1.out.size))
          have HZ2 := Lib.hid (heap_below h12 HZ1.out)
          have HI2 := Lib.hid (HIq.out.below h12)
          have HX2 := Lib.hid (HX1.out.below h12)
          have RX2 := Lib.hid (show w2.heap[w.heap.size + 1]? = some (.cells (x.map bv).toArray 26 (0, 0)) by rw [hw2, ← hs1]; exact heap_alloc_new w1 _)
          have hs2 : w2.heap.size = w.heap.size + 2 := by rw [hw2]; simp [hs1]
          rw [← hw2]
          clear hw2 h12 r0 hs1
          go_upto_region 13 with (first
            | (go_at_call 16; refine (IH.out _ HI2.out HX2.out).mono ?_; rintro e w3 ⟨rfl, hb3⟩; have HB3 := Lib.hid hb3; clear hb3)
            | (refine wpList_store_row rfl _ _ _ rfl w3.heap.size (y.map bv).toArray rfl rfl 26 _ (heap_alloc_new w3 _) D1.out D2.out D3.out ?_; rw [World.setRow_alloc_new]))
          obtain ⟨w4, hw4⟩ : ∃ w4, w4 = w3.alloc (.cells (y.map bv).toArray 26) := ⟨_, rfl⟩
          have h34 : Below w3.heap.size w3 w4 := by rw [hw4]; exact (Below.refl _ _).alloc (Nat.le_refl _) _
          have h24 := HB3.out.trans (h34.mono HB3.out.size)
          have HB4 := Lib.hid (HB2.out.trans (h24.mono HB2.out.size))
          have HZ4 := Lib.hid (heap_below h24 HZ2.out)
          have r1 : rowOf w4 w3.heap.size 0 32 = some (y.map bv).toArray := rowOf_id HY32.out (by rw [hw4]; exact heap_alloc_new w3 _)
          have r2 : rowOf w4 (w.heap.size + 1) 0 32 = some (x.map bv).toArray := rowOf_id HX32.out (heap_below h24 RX2.out)
          rw [← hw4]
          clear hw4 h34 h24
          cases ob with
          | true =>
            obtain ⟨C, hC⟩ : ∃ C, C = ((nodeD x y).map bv).toArray := ⟨_, rfl⟩
            have hC32 : C.size = 32 := by rw [hC]; simp [nodeD_len]
            have H3 := Lib.hid (show C.all (·.oneCell') = true by rw [hC]; exact bvs_one _)
            have H1 := Lib.hid (show (Tryd.prog.info? 26).map (·.size) = some C.size by rw [hC32]; kernel_rfl)
            have H2 := Lib.hid (show ZId.size = C.size by rw [hC32]; rfl)
            rw [← hC] at J
            have ea : ansV (some (nodeD x y)) = .tuple #[.agg C, .bool true] := by rw [hC]; rfl
            have EA := Lib.hid ea
            clear hC hC32 ea
            go_wp2_with (first
              | (go_at_call 27; refine (J.out _).mono ?_; rintro e w5 ⟨rfl, hb5⟩; have HB5 := Lib.hid (HB4.out.trans (hb5.mono HB4.out.size)); have HZ5 := Lib.hid (heap_below hb5 HZ4.out); clear hb5)
              | (refine wpList_store_row rfl _ _ _ rfl w.heap.size C rfl rfl _ ZId HZ5.out H1.out H2.out H3.out ?_))
            have hA2 := setRow_heap w5 w.heap.size ZId C 26 (0, 0) HZ5.out
            refine bodyPost_ret (v := .tuple #[.agg C, .bool true]) ?_ rfl ⟨by rw [EA.out], below_setRow HB5.out (Nat.le_refl _) C⟩
            exact results_two Tryd.results16 _ _ w.heap.size _ C (0, 0) _ _ rfl rfl hA2 Tryd.underlying26 rfl H1.out
          | false =>
            have H1 := Lib.hid info_z
            have H3 := Lib.hid (show ZId.all (·.oneCell') = true by kernel_rfl)
            go_wp2_with (refine wpList_store_row rfl _ _ _ rfl w.heap.size ZId rfl rfl _ ZId HZ4.out H1.out rfl H3.out ?_)
            have hA2 := setRow_heap w4 w.heap.size ZId ZId 26 (0, 0) HZ4.out
            refine bodyPost_ret (v := .tuple #[.agg ZId, .bool false]) ?_ rfl ⟨rfl, below_setRow HB4.out (Nat.le_refl _) ZId⟩
            exact results_two Tryd.results16 _ _ w.heap.size _ ZId (0, 0) _ _ rfl rfl hA2 Tryd.underlying26 rfl H1.out
end Go.Proofs.YtppkjlmnnpfcfaaDoor
