/- 'TagOwn': its walk. -/
import Derived.Test.YtnhakcmnpmlopaaDoorTgM
import Derived.Deep.RegionLaw
import Derived.Deep.DrawnRows
import Derived.StillTailTactics
set_option linter.unusedVariables false
namespace Go.Proofs.YtnhakcmnpmlopaaDoor
open Go.RowKit
attribute [local go_sem ↓] loadAt_id
attribute [local go_sem] rowOf_drew rowOf_drewN run_idLoad
theorem xor_byte (p q : Int) : ∃ y : B8, bits .xor .u8 p q = (y.toNat : Int) :=
  ⟨BitVec.ofInt 8 p ^^^ BitVec.ofInt 8 q, by
    unfold bits
    rw [IntKind.wrap_u8]
    have := (BitVec.ofInt 8 p ^^^ BitVec.ofInt 8 q).isLt
    show (((BitVec.ofInt 8 p ^^^ BitVec.ofInt 8 q).toNat : Nat) : Int) % 256 = _
    omega⟩
theorem own_capn {w : World} {B n g cap : Nat} {l : List Value} (h : w.ownsRow B 5 1 (.slice (some ⟨g, 0, none⟩) n cap) n l) : n ≤ cap := by
  rcases h.2 with ⟨e, _⟩ | ⟨g', cap', cur, e, _, _, hc, _⟩
  · cases e
  · injection e with e1 e2 e3; subst e3; exact hc
set_option maxRecDepth 100000 in
set_option maxHeartbeats 8000000 in
theorem own_any (A A' : Option Addr) (c c' : Nat) (n m at' bt : Nat) (key b : List B8) (hn : key.length = n) (hm : b.length = m) (w : World) (hK : Bts w A key) (hA : A = none → c = 0) (hc : n ≤ c) (hB : Bts w A' b) (hA' : A' = none → c' = 0) (hc' : m ≤ c') (hat : at' < 256) (hbt : bt < 256) (hG : Glob w) :
    Calls Tryd.prog 5 #[.slice A n c, .slice A' m c', .int .u8 at', .int .u8 bt] w fun e w' => e = .returned (.bool true) ∧ Below w.heap.size w w' := by
  have HK := Lib.hid hK
  have HX := Lib.hid hB
  have HG := Lib.hid hG
  have HA := Lib.hid hA
  have HA' := Lib.hid hA'
  have HN := Lib.hid hn
  have HM := Lib.hid hm
  have AW := Lib.hid (awake_any w hG)
  obtain ⟨i0, hi, hz0, hz1, hz2⟩ := info_parts info_u8
  clear hK hB hG hA hA' hn hm
  by_cases q0 : n < 1
  · have t0 : decide ((n : Int) < 1) = true := by rw [decide_eq_true_eq]; omega
    go_enter Tryd.func5, Tryd.ntmps5
    go_wp2_with (go_at_call 7; refine AW.out.mono ?_; rintro e w2 ⟨rfl, hb2⟩; have HB2 := Lib.hid hb2; clear hb2)
    go_ret
    exact ⟨rfl, HB2.out⟩
  have t0 : decide ((n : Int) < 1) = false := by rw [decide_eq_false_iff_not]; omega
  by_cases q1 : 64 < n
  · have t1 : decide (64 < (n : Int)) = true := by rw [decide_eq_true_eq]; omega
    go_enter Tryd.func5, Tryd.ntmps5
    go_wp2_with (go_at_call 7; refine AW.out.mono ?_; rintro e w2 ⟨rfl, hb2⟩; have HB2 := Lib.hid hb2; clear hb2)
    go_ret
    exact ⟨rfl, HB2.out⟩
  have t1 : decide (64 < (n : Int)) = false := by rw [decide_eq_false_iff_not]; omega
  by_cases q2 : m < 1
  · have t2 : decide ((m : Int) < 1) = true := by rw [decide_eq_true_eq]; omega
    go_enter Tryd.func5, Tryd.ntmps5
    go_wp2_with (go_at_call 7; refine AW.out.mono ?_; rintro e w2 ⟨rfl, hb2⟩; have HB2 := Lib.hid hb2; clear hb2)
    go_ret
    exact ⟨rfl, HB2.out⟩
  have t2 : decide ((m : Int) < 1) = false := by rw [decide_eq_false_iff_not]; omega
  by_cases q3 : 100 < m
  · have t3 : decide (100 < (m : Int)) = true := by rw [decide_eq_true_eq]; omega
    go_enter Tryd.func5, Tryd.ntmps5
    go_wp2_with (go_at_call 7; refine AW.out.mono ?_; rintro e w2 ⟨rfl, hb2⟩; have HB2 := Lib.hid hb2; clear hb2)
    go_ret
    exact ⟨rfl, HB2.out⟩
  have t3 : decide (100 < (m : Int)) = false := by rw [decide_eq_false_iff_not]; omega
  go_enter Tryd.func5, Tryd.ntmps5
  go_upto_region 3 with fail
  clear t0 t1 t2 t3
  go_step
  refine wpList_empty (o := ⟨some 31, _, _, _, _, _⟩) rfl 5 (fun w => by kernel_rfl) ?_
  intro v0 w0 g1 g2
  have hown0 := Lib.hid g1
  have hb0 : Below w.heap.size w w0 := by rw [g2]; exact (Below.refl _ _).alloc (Nat.le_refl _) _
  have hs0 : w.heap.size ≤ w0.heap.size := hb0.size
  have HB0 := Lib.hid hb0
  clear g1 g2 hb0
  iterate 3 go_step
  refine wpList_append_any (o := ⟨some 33, _, _, _, _, _⟩) rfl _ _ 22 rfl w.heap.size 5 i0 (.int .u8 0) 1 Tryd.underlying22 hi hz0 hz1 hz2 rfl v0 0 [] rfl hown0.out A n c (key.map bv) rfl HA.out (by rw [List.length_map, HN.out]) (HK.out.below HB0.out) (bv_one key) ?_ ?_ ?_ ?_
  · unfold maxLen; omega
  · omega
  · omega
  intro v1 w1 g1 g2
  rw [Nat.zero_add, List.nil_append] at g1
  obtain ⟨gk, ck, rfl, gka, gkb⟩ := g1.form (by omega)
  have HO1 := Lib.hid g1
  have HB1 := Lib.hid (HB0.out.grown g2 (by omega) (fun k hk => (hown0.out.lt k hk).1))
  clear g1 g2 hown0 HB0
  have HXw1 := Lib.hid (HX.out.below HB1.out)
  refine wpList_empty (o := ⟨some 34, _, _, _, _, _⟩) rfl 5 (fun w => by kernel_rfl) ?_
  intro v0 wz g1 g2
  have hown0 := Lib.hid g1
  have hb0 : Below w1.heap.size w1 wz := by rw [g2]; exact (Below.refl _ _).alloc (Nat.le_refl _) _
  have hs0 : w1.heap.size ≤ wz.heap.size := hb0.size
  have HB0 := Lib.hid hb0
  clear g1 g2 hb0
  iterate 3 go_step
  refine wpList_append_any (o := ⟨some 36, _, _, _, _, _⟩) rfl _ _ 22 rfl w1.heap.size 5 i0 (.int .u8 0) 1 Tryd.underlying22 hi hz0 hz1 hz2 rfl v0 0 [] rfl hown0.out A' m c' (b.map bv) rfl HA'.out (by rw [List.length_map, HM.out]) (HXw1.out.below HB0.out) (bv_one b) ?_ ?_ ?_ ?_
  · unfold maxLen; omega
  · omega
  · omega
  intro v1 w2 g1 g2
  rw [Nat.zero_add, List.nil_append] at g1
  obtain ⟨gc, cc, rfl, gca, gcb⟩ := g1.form (by omega)
  have HO2 := Lib.hid g1
  have HB12 := Lib.hid (HB0.out.grown g2 (by omega) (fun k hk => (hown0.out.lt k hk).1))
  clear g1 g2 hown0 HB0
  have hgk1 := (HO1.out.lt gk rfl).2
  have HO1b := Lib.hid (own_below HO1.out HB12.out)
  have HO2b := Lib.hid (own_more HO2.out (base' := w.heap.size) HB1.out.size)
  have hgc1 := (HO2.out.lt gc rfl).1
  have HB2 := Lib.hid (HB1.out.trans (HB12.out.mono HB1.out.size))
  clear HO1 HO2 HB1 HB12 HXw1
  go_upto_region 4 with fail
  obtain ⟨i, hi'⟩ : ∃ i, i = at' % n := ⟨_, rfl⟩
  obtain ⟨k, hk'⟩ : ∃ k, k = at' % m := ⟨_, rfl⟩
  obtain ⟨r, hr'⟩ : ∃ r, r = bt % 8 := ⟨_, rfl⟩
  have hil : i < n := by rw [hi']; exact Nat.mod_lt _ (by omega)
  have hkl : k < m := by rw [hk']; exact Nat.mod_lt _ (by omega)
  have e1 : IntKind.i64.wrap (at' : Int) = (at' : Int) := IntWalk.i64_in _ (by omega)
  have e2 : (at' : Int).tmod (n : Int) = (i : Int) := by rw [Int.tmod_eq_emod_of_nonneg (by omega), hi']; omega
  have e2' : (at' : Int).tmod (m : Int) = (k : Int) := by rw [Int.tmod_eq_emod_of_nonneg (by omega), hk']; omega
  have e3 : IntKind.i64.wrap (bt : Int) = (bt : Int) := IntWalk.i64_in _ (by omega)
  have e4 : (bt : Int).tmod 8 = (r : Int) := by rw [Int.tmod_eq_emod_of_nonneg (by omega), hr']; omega
  have hi0 : (0 : Int) ≤ (i : Int) := by omega
  have hi9 : (i : Int) < (n : Int) := by omega
  have hk0 : (0 : Int) ≤ (k : Int) := by omega
  have hk9 : (k : Int) < (m : Int) := by omega
  have hr0 : (0 : Int) ≤ (r : Int) := by omega
  have hr9 : (r : Int) < 8 := by omega
  obtain ⟨xk, hxk⟩ : ∃ x, key[i]? = some x := ⟨_, List.getElem?_eq_getElem (by rw [HN.out]; exact hil)⟩
  obtain ⟨xc, hxc⟩ : ∃ x, b[k]? = some x := ⟨_, List.getElem?_eq_getElem (by rw [HM.out]; exact hkl)⟩
  have c0' : w2.cell? ⟨gk, i, none⟩ = some (.int .u8 (xk.toNat : Int)) := by
    rw [HO1b.out.cellAt i (by omega), List.getElem?_map, hxk]; rfl
  have z0' := HO1b.out.frozenAt i
  clear hi' hk' hr' hxk
  have hn0 : ¬ n = 0 := by omega
  have hm0 : ¬ m = 0 := by omega
  go_still_tail 20, (by kernel_rfl)
  change wpList _ _ _ _ _ w2.drew
  go_upto_region 5 with fail
  obtain ⟨y, hy⟩ := xor_byte (xk.toNat : Int) (2 ^ r % 256)
  rw [hy]
  generalize bits .xor .u8 (xk.toNat : Int) (2 ^ r % 256) = zz at *
  have st := HO1b.out.stored i (bv y)
  obtain ⟨K1, hK1⟩ : ∃ K1, K1 = key.set i y := ⟨_, rfl⟩
  have HK1n := Lib.hid (show K1.length = n by rw [hK1, List.length_set, HN.out])
  obtain ⟨w3, hw3⟩ : ∃ z, z = (w2.setCell ⟨gk, i, none⟩ (.int .u8 (y.toNat : Int))).drew := ⟨_, rfl⟩
  have HO1c := Lib.hid (show w3.ownsRow w.heap.size 5 1 (.slice (some ⟨gk, 0, none⟩) n ck) n (K1.map bv) by
    rw [hw3, hK1, List.map_set]; exact st.1.drew)
  have HO2c := Lib.hid (show w3.ownsRow w.heap.size 5 1 (.slice (some ⟨gc, 0, none⟩) m cc) m (b.map bv) by
    rw [hw3]; exact (HO2b.out.kept st.2 (.inr (by show (some gc : Option Nat) ≠ some gk; intro e; injection e with e; omega))).drew)
  have HB3 := Lib.hid (show Below w.heap.size w w3 by rw [hw3]; exact (HB2.out.grown st.2 HB2.out.size (fun k hk => (HO1b.out.lt k hk).1)).drew)
  have c1' : w3.cell? ⟨gc, k, none⟩ = some (.int .u8 (xc.toNat : Int)) := by
    rw [HO2c.out.cellAt k (by omega), List.getElem?_map, hxc]; rfl
  have z1' := HO2c.out.frozenAt k
  rw [← hw3]
  clear hw3 st hy hK1 c0' z0' HO1b HO2b HB2 hxc
  go_still_tail 20, (by kernel_rfl)
  change wpList _ _ _ _ _ w3.drew
  go_upto_region 6 with fail
  obtain ⟨y, hy⟩ := xor_byte (xc.toNat : Int) (2 ^ r % 256)
  rw [hy]
  generalize bits .xor .u8 (xc.toNat : Int) (2 ^ r % 256) = zz at *
  have st := HO2c.out.stored k (bv y)
  obtain ⟨B1, hB1⟩ : ∃ B1, B1 = b.set k y := ⟨_, rfl⟩
  have HB1n := Lib.hid (show B1.length = m by rw [hB1, List.length_set, HM.out])
  obtain ⟨w4, hw4⟩ : ∃ z, z = (w3.setCell ⟨gc, k, none⟩ (.int .u8 (y.toNat : Int))).drew := ⟨_, rfl⟩
  have HO2d := Lib.hid (show w4.ownsRow w.heap.size 5 1 (.slice (some ⟨gc, 0, none⟩) m cc) m (B1.map bv) by
    rw [hw4, hB1, List.map_set]; exact st.1.drew)
  have HO1d := Lib.hid (show w4.ownsRow w.heap.size 5 1 (.slice (some ⟨gk, 0, none⟩) n ck) n (K1.map bv) by
    rw [hw4]; exact (HO1c.out.kept st.2 (.inr (by show (some gk : Option Nat) ≠ some gc; intro e; injection e with e; omega))).drew)
  have HB4 := Lib.hid (show Below w.heap.size w w4 by rw [hw4]; exact (HB3.out.grown st.2 HB3.out.size (fun k hk => (HO2c.out.lt k hk).1)).drew)
  have hck := own_capn HO1d.out
  have hcc := own_capn HO2d.out
  have HK4 := Lib.hid (HK.out.below HB4.out)
  have HX4 := Lib.hid (HX.out.below HB4.out)
  have HG4 := Lib.hid (glob_below HG.out HB4.out (Nat.le_refl _))
  have HKk4 := Lib.hid (own_bts HO1d.out)
  have HXc4 := Lib.hid (own_bts HO2d.out)
  rw [← hw4]
  clear hw4 st hy hB1 c1' z1' HO1c HO2c HB3 HO1d HO2d HK HX HG e1 e2 e2' e3 e4 hi0 hi9 hk0 hk9 hr0 hr9 hn0 hm0 hgk1 hgc1 gka gkb gca gcb hil hkl AW
  obtain ⟨XL, hXL⟩ : ∃ XL, XL = (tagD key b).map bv := ⟨_, rfl⟩
  have hX32 : XL.toArray.size = 32 := by rw [hXL]; simp [tagD_len]
  have HXL := Lib.hid (show XL.length = 32 by rw [hXL, List.length_map, tagD_len])
  have H3 := Lib.hid (show XL.toArray.all (·.oneCell') = true by rw [hXL]; exact bvs_one _)
  have H1 := Lib.hid (show (Tryd.prog.info? 24).map (·.size) = some XL.toArray.size by rw [hX32]; kernel_rfl)
  have H2 := Lib.hid (show ZId.size = XL.toArray.size by rw [hX32]; rfl)
  obtain ⟨KA, hKA⟩ : ∃ X, X = ((tagD K1 b).map bv).toArray := ⟨_, rfl⟩
  obtain ⟨BA, hBA⟩ : ∃ X, X = ((tagD key B1).map bv).toArray := ⟨_, rfl⟩
  obtain ⟨rk, hrk⟩ : ∃ r, r = decide (tagD K1 b = tagD key b) := ⟨_, rfl⟩
  obtain ⟨rc, hrc⟩ : ∃ r, r = decide (tagD key B1 = tagD key b) := ⟨_, rfl⟩
  have eqK : ∀ w, (Op.equalIn 10000 24 (.agg KA) (.agg XL.toArray)).run Tryd.prog w = .ok rk w := fun w => by
    rw [hKA, hXL, eq_id _ _ (tagD_len _ _) (tagD_len _ _) w, hrk]
  have eqB : ∀ w, (Op.equalIn 10000 24 (.agg BA) (.agg XL.toArray)).run Tryd.prog w = .ok rc w := fun w => by
    rw [hBA, hXL, eq_id _ _ (tagD_len _ _) (tagD_len _ _) w, hrc]
  have RX := Lib.hid (fun (w4 : World) hK hB => rtag_at A A' c c' n m key b HN.out HM.out w4 hK HA.out hc hB HA'.out hc' (by omega) (by omega))
  have RK := Lib.hid (fun (w4 : World) hK hB => rtag_at (some ⟨gk, 0, none⟩) A' ck c' n m K1 b HK1n.out HM.out w4 hK (fun h => by cases h) hck hB HA'.out hc' (by omega) (by omega))
  have RC := Lib.hid (fun (w4 : World) hK hB => rtag_at A (some ⟨gc, 0, none⟩) c cc n m key B1 HN.out HB1n.out w4 hK HA.out hc hB (fun h => by cases h) hcc (by omega) (by omega))
  have IK := Lib.hid (fun (w4 : World) hK hB hG => tagIs_any (some ⟨gk, 0, none⟩) A' ck c' n m K1 b (tagD key b) HK1n.out HM.out (tagD_len _ _) w4 hK hck hB hc' hG (by omega) (by omega))
  have IB := Lib.hid (fun (w4 : World) hK hB hG => tagIs_any A (some ⟨gc, 0, none⟩) c cc n m key B1 (tagD key b) HN.out HB1n.out (tagD_len _ _) w4 hK hc hB hcc hG (by omega) (by omega))
  have IQo := Lib.hid (fun (w4 : World) hK hB hG => tagIs_any A A' c c' n m key b (tagD key b) HN.out HM.out (tagD_len _ _) w4 hK hc hB hc' hG (by omega) (by omega))
  rw [← hXL] at RX
  rw [← hKA] at RK
  rw [← hBA] at RC
  rw [← hXL, ← hrk] at IK
  rw [← hXL, ← hrc] at IB
  rw [← hXL, show decide (tagD key b = tagD key b) = true by simp] at IQo
  have HXX := Lib.hid hXL
  clear hXL hX32 hKA hBA hrk hrc HA HA'
  go_wp2_with (go_at_call 8; refine stop ?_)
  unfold Stop
  refine (RX.out w4 HK4.out HX4.out).mono ?_
  rintro e w5 ⟨rfl, hb3⟩
  have hba : Below w5.heap.size w5 (w5.alloc (.cells ZId 24)) := (Below.refl _ _).alloc (Nat.le_refl _) _
  have HZ := Lib.hid (show (w5.alloc (.cells ZId 24)).heap[w5.heap.size]? = some (.cells ZId 24 (0, 0)) from heap_alloc_new _ _)
  have HB46 := Lib.hid (below_setRow (hb3.trans (hba.mono hb3.size)) hb3.size XL.toArray)
  clear hb3 hba
  go_wp2_with (refine wpList_store_row rfl _ _ _ rfl w5.heap.size XL.toArray rfl rfl _ ZId HZ.out H1.out H2.out H3.out ?_; refine stop ?_)
  unfold Stop
  obtain ⟨w6, hw6⟩ : ∃ w6, w6 = (w5.alloc (.cells ZId 24)).setRow w5.heap.size XL.toArray := ⟨_, rfl⟩
  change wpList _ _ _ _ _ ((w5.alloc (.cells ZId 24)).setRow w5.heap.size XL.toArray)
  rw [← hw6] at HB46 ⊢
  have HR11 := Lib.hid (show w6.drew.heap[w5.heap.size]? = some (.cells XL.toArray 24 (0, 0)) by show w6.heap[_]? = _; rw [hw6]; exact setRow_heap _ w5.heap.size ZId XL.toArray _ _ HZ.out)
  have HK6 := Lib.hid (show Bts w6.drew A key from HK4.out.below HB46.out.drew)
  have HX6 := Lib.hid (show Bts w6.drew A' b from HX4.out.below HB46.out.drew)
  have HKk6 := Lib.hid (show Bts w6.drew (some ⟨gk, 0, none⟩) K1 from HKk4.out.below HB46.out.drew)
  have HXc6 := Lib.hid (show Bts w6.drew (some ⟨gc, 0, none⟩) B1 from HXc4.out.below HB46.out.drew)
  have HG6 := Lib.hid (show Glob w6.drew from glob_below (w' := w6) HG4.out HB46.out (Nat.le_refl _))
  have HB6 := Lib.hid (HB4.out.trans (HB46.out.mono HB4.out.size))
  have AW := Lib.hid (fun (w4 : World) hG => awake_any w4 hG)
  clear hw6 HZ HB46 HK4 HX4 HKk4 HXc4 HG4 HB4 RX
  go_wp2_with fail
  cases rk
  · cases rc
    · refine wp_region_rel 114 Stp [.one ?_, .one ?_, .one ?_, .one ?_, .one ?_, .one ?_, .one ?_, .one ?_, .one ?_, .one ?_, .one ?_, .one ?_] (by kernel_rfl) (by kernel_rfl) rfl (by kernel_rfl) Stp.refl Stp.trans trivial ?main
      case main =>
      iterate 2
        refine wpR_one (A' := ?_) Stp.refl (by rfl) _ rfl 114 (by rfl) (by rfl) ?_ ?_ ?_
        rotate_left 1
        · simp only [Act.put, List.setIfInBounds_toArray, List.set_cons_zero, List.set_cons_succ]; rfl
        · intro w1 hs hf K hK
          go_big_quiet_op
          first
            | go_big_quiet_on
            | (refine ⟨_, fun _ _ => rfl, ?_⟩; go_big_quiet_on)
          rfl
      refine wpR_one (A' := ?_) Stp.refl (by rfl) _ rfl 114 (by rfl) (by rfl) ?_ ?_ ?_
      rotate_left 1
      · simp only [Act.put, List.setIfInBounds_toArray, List.set_cons_zero, List.set_cons_succ]; rfl
      · intro w1 hs hf K hK
        go_big_quiet_op
        apply Exists.intro
        refine ⟨fun w4 h2 => ?_, ?_⟩
        · refine (RK.out w4 (bts_stp (bts_stp HKk6.out hs) h2) (bts_stp (bts_stp HX6.out hs) h2)).mono ?_
          rintro e w3 ⟨rfl, h3⟩
          exact ⟨rfl, Stp.trans _ _ _ h2 h3⟩
        · go_big_quiet_on
          rfl
      refine wpR_one (A' := ?_) Stp.refl (by rfl) _ rfl 114 (by rfl) (by rfl) ?_ ?_ ?_
      rotate_left 1
      · simp only [Act.put, List.setIfInBounds_toArray, List.set_cons_zero, List.set_cons_succ]; rfl
      · intro w1 hs hf K hK
        refine cls_load 24 (.tmp 11) rfl (w5.heap.size) (0) rfl (XL) _ (fun w2 h2 => range_row (heap_below h2 (heap_below hs HR11.out))) Tryd.underlying24 rfl (by rw [HXL.out]; kernel_rfl) ?_
        refine hK _ ?_
        simp only [Act.put, List.setIfInBounds_toArray, List.set_cons_zero, List.set_cons_succ]
        rfl
      iterate 2
        refine wpR_one (A' := ?_) Stp.refl (by rfl) _ rfl 114 (by rfl) (by rfl) ?_ ?_ ?_
        rotate_left 1
        · simp only [Act.put, List.setIfInBounds_toArray, List.set_cons_zero, List.set_cons_succ]; rfl
        · intro w1 hs hf K hK
          go_big_quiet_op
          first
            | go_big_quiet_on
            | (refine ⟨_, fun _ _ => rfl, ?_⟩; go_big_quiet_on)
          rfl
      iterate 2
        refine wpR_one (A' := ?_) Stp.refl (by rfl) _ rfl 114 (by rfl) (by rfl) ?_ ?_ ?_
        rotate_left 1
        · simp only [Act.put, List.setIfInBounds_toArray, List.set_cons_zero, List.set_cons_succ]; rfl
        · intro w1 hs hf K hK
          go_big_quiet_op
          first
            | go_big_quiet_on
            | (refine ⟨_, fun _ _ => rfl, ?_⟩; go_big_quiet_on)
          rfl
      refine wpR_one (A' := ?_) Stp.refl (by rfl) _ rfl 114 (by rfl) (by rfl) ?_ ?_ ?_
      rotate_left 1
      · simp only [Act.put, List.setIfInBounds_toArray, List.set_cons_zero, List.set_cons_succ]; rfl
      · intro w1 hs hf K hK
        go_big_quiet_op
        apply Exists.intro
        refine ⟨fun w4 h2 => ?_, ?_⟩
        · refine (RC.out w4 (bts_stp (bts_stp HK6.out hs) h2) (bts_stp (bts_stp HXc6.out hs) h2)).mono ?_
          rintro e w3 ⟨rfl, h3⟩
          exact ⟨rfl, Stp.trans _ _ _ h2 h3⟩
        · go_big_quiet_on
          rfl
      refine wpR_one (A' := ?_) Stp.refl (by rfl) _ rfl 114 (by rfl) (by rfl) ?_ ?_ ?_
      rotate_left 1
      · simp only [Act.put, List.setIfInBounds_toArray, List.set_cons_zero, List.set_cons_succ]; rfl
      · intro w1 hs hf K hK
        refine cls_load 24 (.tmp 11) rfl (w5.heap.size) (0) rfl (XL) _ (fun w2 h2 => range_row (heap_below h2 (heap_below hs HR11.out))) Tryd.underlying24 rfl (by rw [HXL.out]; kernel_rfl) ?_
        refine hK _ ?_
        simp only [Act.put, List.setIfInBounds_toArray, List.set_cons_zero, List.set_cons_succ]
        rfl
      iterate 1
        refine wpR_one (A' := ?_) Stp.refl (by rfl) _ rfl 114 (by rfl) (by rfl) ?_ ?_ ?_
        rotate_left 1
        · simp only [Act.put, List.setIfInBounds_toArray, List.set_cons_zero, List.set_cons_succ]; rfl
        · intro w1 hs hf K hK
          go_big_quiet_op
          first
            | go_big_quiet_on
            | (refine ⟨_, fun _ _ => rfl, ?_⟩; go_big_quiet_on)
          rfl
      iterate 1
        refine wpR_one (A' := ?_) Stp.refl (by rfl) _ rfl 114 (by rfl) (by rfl) ?_ ?_ ?_
        rotate_left 1
        · simp only [Act.put, List.setIfInBounds_toArray, List.set_cons_zero, List.set_cons_succ]; rfl
        · intro w1 hs hf K hK
          go_big_quiet_op
          first
            | go_big_quiet_on
            | (refine ⟨_, fun _ _ => rfl, ?_⟩; go_big_quiet_on)
          rfl
      intro w9 hs hf
      have h69 : Below w6.heap.size w6 w9 := (Below.refl _ _).drew.trans hs
      have HB9 := Lib.hid (HB6.out.trans (h69.mono HB6.out.size))
      have HG9 := Lib.hid (glob_stp HG6.out hs)
      have HK9 := Lib.hid (bts_stp HK6.out hs)
      have HX9 := Lib.hid (bts_stp HX6.out hs)
      have HKk9 := Lib.hid (bts_stp HKk6.out hs)
      have HXc9 := Lib.hid (bts_stp HXc6.out hs)
      have HR9 := Lib.hid (heap_below (w := w6.drew) hs HR11.out)
      have r9 : rowOf w9 w5.heap.size 0 32 = some XL.toArray := by
        rw [HXX.out]
        refine rowOf_id (t := 24) (fr := (0, 0)) (tagD_len _ _) ?_
        rw [← HXX.out]; exact HR9.out
      clear hs hf h69
      go_wp2_with (go_at_call 10; refine stop ?_)
      unfold Stop
      refine (IK.out w9 HKk9.out HX9.out HG9.out).mono ?_
      rintro e wa ⟨rfl, hb⟩
      have HBwa := Lib.hid (HB9.out.trans (hb.mono HB9.out.size))
      have HKwa := Lib.hid (HK9.out.below hb)
      have HXwa := Lib.hid (HX9.out.below hb)
      have HXcwa := Lib.hid (HXc9.out.below hb)
      have HGwa := Lib.hid (glob_below HG9.out hb (Nat.le_refl _))
      have HRwa := Lib.hid (heap_below hb HR9.out)
      have rwa : rowOf wa w5.heap.size 0 32 = some XL.toArray := by
        rw [HXX.out]
        refine rowOf_id (t := 24) (fr := (0, 0)) (tagD_len _ _) ?_
        rw [← HXX.out]; exact HRwa.out
      clear hb
      go_wp2_with (go_at_call 10; refine stop ?_)
      unfold Stop
      refine (IB.out wa HKwa.out HXcwa.out HGwa.out).mono ?_
      rintro e wb ⟨rfl, hb⟩
      have HBwb := Lib.hid (HBwa.out.trans (hb.mono HBwa.out.size))
      have HKwb := Lib.hid (HKwa.out.below hb)
      have HXwb := Lib.hid (HXwa.out.below hb)
      have HXcwb := Lib.hid (HXcwa.out.below hb)
      have HGwb := Lib.hid (glob_below HGwa.out hb (Nat.le_refl _))
      have HRwb := Lib.hid (heap_below hb HRwa.out)
      have rwb : rowOf wb w5.heap.size 0 32 = some XL.toArray := by
        rw [HXX.out]
        refine rowOf_id (t := 24) (fr := (0, 0)) (tagD_len _ _) ?_
        rw [← HXX.out]; exact HRwb.out
      clear hb
      go_wp2_with (go_at_call 10; refine stop ?_)
      unfold Stop
      refine (IQo.out wb HKwb.out HXwb.out HGwb.out).mono ?_
      rintro e wc ⟨rfl, hb⟩
      have HBwc := Lib.hid (HBwb.out.trans (hb.mono HBwb.out.size))
      have HKwc := Lib.hid (HKwb.out.below hb)
      have HXwc := Lib.hid (HXwb.out.below hb)
      have HXcwc := Lib.hid (HXcwb.out.below hb)
      have HGwc := Lib.hid (glob_below HGwb.out hb (Nat.le_refl _))
      have HRwc := Lib.hid (heap_below hb HRwb.out)
      have rwc : rowOf wc w5.heap.size 0 32 = some XL.toArray := by
        rw [HXX.out]
        refine rowOf_id (t := 24) (fr := (0, 0)) (tagD_len _ _) ?_
        rw [← HXX.out]; exact HRwc.out
      clear hb
      go_wp2_with (go_at_call 7; refine (AW.out wc HGwc.out).mono ?_; rintro e wd ⟨rfl, hb8⟩; have HB8 := Lib.hid (HBwc.out.trans (hb8.mono HBwc.out.size)); clear hb8)
      go_ret
      exact ⟨rfl, HB8.out⟩
    · refine wp_region_rel 114 Stp [.one ?_, .one ?_, .one ?_, .one ?_, .one ?_, .one ?_, .one ?_, .one ?_, .one ?_, .one ?_, .one ?_, .one ?_] (by kernel_rfl) (by kernel_rfl) rfl (by kernel_rfl) Stp.refl Stp.trans trivial ?main
      case main =>
      iterate 2
        refine wpR_one (A' := ?_) Stp.refl (by rfl) _ rfl 114 (by rfl) (by rfl) ?_ ?_ ?_
        rotate_left 1
        · simp only [Act.put, List.setIfInBounds_toArray, List.set_cons_zero, List.set_cons_succ]; rfl
        · intro w1 hs hf K hK
          go_big_quiet_op
          first
            | go_big_quiet_on
            | (refine ⟨_, fun _ _ => rfl, ?_⟩; go_big_quiet_on)
          rfl
      refine wpR_one (A' := ?_) Stp.refl (by rfl) _ rfl 114 (by rfl) (by rfl) ?_ ?_ ?_
      rotate_left 1
      · simp only [Act.put, List.setIfInBounds_toArray, List.set_cons_zero, List.set_cons_succ]; rfl
      · intro w1 hs hf K hK
        go_big_quiet_op
        apply Exists.intro
        refine ⟨fun w4 h2 => ?_, ?_⟩
        · refine (RK.out w4 (bts_stp (bts_stp HKk6.out hs) h2) (bts_stp (bts_stp HX6.out hs) h2)).mono ?_
          rintro e w3 ⟨rfl, h3⟩
          exact ⟨rfl, Stp.trans _ _ _ h2 h3⟩
        · go_big_quiet_on
          rfl
      refine wpR_one (A' := ?_) Stp.refl (by rfl) _ rfl 114 (by rfl) (by rfl) ?_ ?_ ?_
      rotate_left 1
      · simp only [Act.put, List.setIfInBounds_toArray, List.set_cons_zero, List.set_cons_succ]; rfl
      · intro w1 hs hf K hK
        refine cls_load 24 (.tmp 11) rfl (w5.heap.size) (0) rfl (XL) _ (fun w2 h2 => range_row (heap_below h2 (heap_below hs HR11.out))) Tryd.underlying24 rfl (by rw [HXL.out]; kernel_rfl) ?_
        refine hK _ ?_
        simp only [Act.put, List.setIfInBounds_toArray, List.set_cons_zero, List.set_cons_succ]
        rfl
      iterate 2
        refine wpR_one (A' := ?_) Stp.refl (by rfl) _ rfl 114 (by rfl) (by rfl) ?_ ?_ ?_
        rotate_left 1
        · simp only [Act.put, List.setIfInBounds_toArray, List.set_cons_zero, List.set_cons_succ]; rfl
        · intro w1 hs hf K hK
          go_big_quiet_op
          first
            | go_big_quiet_on
            | (refine ⟨_, fun _ _ => rfl, ?_⟩; go_big_quiet_on)
          rfl
      iterate 2
        refine wpR_one (A' := ?_) Stp.refl (by rfl) _ rfl 114 (by rfl) (by rfl) ?_ ?_ ?_
        rotate_left 1
        · simp only [Act.put, List.setIfInBounds_toArray, List.set_cons_zero, List.set_cons_succ]; rfl
        · intro w1 hs hf K hK
          go_big_quiet_op
          first
            | go_big_quiet_on
            | (refine ⟨_, fun _ _ => rfl, ?_⟩; go_big_quiet_on)
          rfl
      refine wpR_one (A' := ?_) Stp.refl (by rfl) _ rfl 114 (by rfl) (by rfl) ?_ ?_ ?_
      rotate_left 1
      · simp only [Act.put, List.setIfInBounds_toArray, List.set_cons_zero, List.set_cons_succ]; rfl
      · intro w1 hs hf K hK
        go_big_quiet_op
        apply Exists.intro
        refine ⟨fun w4 h2 => ?_, ?_⟩
        · refine (RC.out w4 (bts_stp (bts_stp HK6.out hs) h2) (bts_stp (bts_stp HXc6.out hs) h2)).mono ?_
          rintro e w3 ⟨rfl, h3⟩
          exact ⟨rfl, Stp.trans _ _ _ h2 h3⟩
        · go_big_quiet_on
          rfl
      refine wpR_one (A' := ?_) Stp.refl (by rfl) _ rfl 114 (by rfl) (by rfl) ?_ ?_ ?_
      rotate_left 1
      · simp only [Act.put, List.setIfInBounds_toArray, List.set_cons_zero, List.set_cons_succ]; rfl
      · intro w1 hs hf K hK
        refine cls_load 24 (.tmp 11) rfl (w5.heap.size) (0) rfl (XL) _ (fun w2 h2 => range_row (heap_below h2 (heap_below hs HR11.out))) Tryd.underlying24 rfl (by rw [HXL.out]; kernel_rfl) ?_
        refine hK _ ?_
        simp only [Act.put, List.setIfInBounds_toArray, List.set_cons_zero, List.set_cons_succ]
        rfl
      iterate 1
        refine wpR_one (A' := ?_) Stp.refl (by rfl) _ rfl 114 (by rfl) (by rfl) ?_ ?_ ?_
        rotate_left 1
        · simp only [Act.put, List.setIfInBounds_toArray, List.set_cons_zero, List.set_cons_succ]; rfl
        · intro w1 hs hf K hK
          go_big_quiet_op
          first
            | go_big_quiet_on
            | (refine ⟨_, fun _ _ => rfl, ?_⟩; go_big_quiet_on)
          rfl
      iterate 1
        refine wpR_one (A' := ?_) Stp.refl (by rfl) _ rfl 114 (by rfl) (by rfl) ?_ ?_ ?_
        rotate_left 1
        · simp only [Act.put, List.setIfInBounds_toArray, List.set_cons_zero, List.set_cons_succ]; rfl
        · intro w1 hs hf K hK
          go_big_quiet_op
          first
            | go_big_quiet_on
            | (refine ⟨_, fun _ _ => rfl, ?_⟩; go_big_quiet_on)
          rfl
      intro w9 hs hf
      have h69 : Below w6.heap.size w6 w9 := (Below.refl _ _).drew.trans hs
      have HB9 := Lib.hid (HB6.out.trans (h69.mono HB6.out.size))
      have HG9 := Lib.hid (glob_stp HG6.out hs)
      clear hs hf h69
      go_wp2_with (go_at_call 7; refine (AW.out w9 HG9.out).mono ?_; rintro e wa ⟨rfl, hb8⟩; have HB8 := Lib.hid (HB9.out.trans (hb8.mono HB9.out.size)); clear hb8)
      go_ret
      exact ⟨rfl, HB8.out⟩
  · refine wp_region_rel 114 Stp [.one ?_, .one ?_, .one ?_, .one ?_, .one ?_, .one ?_, .one undef, .one undef, .one undef, .one undef, .one undef, .one ?_] (by kernel_rfl) (by kernel_rfl) rfl (by kernel_rfl) Stp.refl Stp.trans trivial ?main
    case main =>
    iterate 2
      refine wpR_one (A' := ?_) Stp.refl (by rfl) _ rfl 114 (by rfl) (by rfl) ?_ ?_ ?_
      rotate_left 1
      · simp only [Act.put, List.setIfInBounds_toArray, List.set_cons_zero, List.set_cons_succ]; rfl
      · intro w1 hs hf K hK
        go_big_quiet_op
        first
          | go_big_quiet_on
          | (refine ⟨_, fun _ _ => rfl, ?_⟩; go_big_quiet_on)
        rfl
    refine wpR_one (A' := ?_) Stp.refl (by rfl) _ rfl 114 (by rfl) (by rfl) ?_ ?_ ?_
    rotate_left 1
    · simp only [Act.put, List.setIfInBounds_toArray, List.set_cons_zero, List.set_cons_succ]; rfl
    · intro w1 hs hf K hK
      go_big_quiet_op
      apply Exists.intro
      refine ⟨fun w4 h2 => ?_, ?_⟩
      · refine (RK.out w4 (bts_stp (bts_stp HKk6.out hs) h2) (bts_stp (bts_stp HX6.out hs) h2)).mono ?_
        rintro e w3 ⟨rfl, h3⟩
        exact ⟨rfl, Stp.trans _ _ _ h2 h3⟩
      · go_big_quiet_on
        rfl
    refine wpR_one (A' := ?_) Stp.refl (by rfl) _ rfl 114 (by rfl) (by rfl) ?_ ?_ ?_
    rotate_left 1
    · simp only [Act.put, List.setIfInBounds_toArray, List.set_cons_zero, List.set_cons_succ]; rfl
    · intro w1 hs hf K hK
      refine cls_load 24 (.tmp 11) rfl (w5.heap.size) (0) rfl (XL) _ (fun w2 h2 => range_row (heap_below h2 (heap_below hs HR11.out))) Tryd.underlying24 rfl (by rw [HXL.out]; kernel_rfl) ?_
      refine hK _ ?_
      simp only [Act.put, List.setIfInBounds_toArray, List.set_cons_zero, List.set_cons_succ]
      rfl
    iterate 2
      refine wpR_one (A' := ?_) Stp.refl (by rfl) _ rfl 114 (by rfl) (by rfl) ?_ ?_ ?_
      rotate_left 1
      · simp only [Act.put, List.setIfInBounds_toArray, List.set_cons_zero, List.set_cons_succ]; rfl
      · intro w1 hs hf K hK
        go_big_quiet_op
        first
          | go_big_quiet_on
          | (refine ⟨_, fun _ _ => rfl, ?_⟩; go_big_quiet_on)
        rfl
    iterate 5
      refine wpR_skip (A' := ?_) (by rfl) ?_ ?_
      rotate_left 1
      · simp only [Act.put, List.setIfInBounds_toArray, List.set_cons_zero, List.set_cons_succ]; rfl
    iterate 1
      refine wpR_one (A' := ?_) Stp.refl (by rfl) _ rfl 114 (by rfl) (by rfl) ?_ ?_ ?_
      rotate_left 1
      · simp only [Act.put, List.setIfInBounds_toArray, List.set_cons_zero, List.set_cons_succ]; rfl
      · intro w1 hs hf K hK
        go_big_quiet_op
        first
          | go_big_quiet_on
          | (refine ⟨_, fun _ _ => rfl, ?_⟩; go_big_quiet_on)
        rfl
    intro w9 hs hf
    have h69 : Below w6.heap.size w6 w9 := (Below.refl _ _).drew.trans hs
    have HB9 := Lib.hid (HB6.out.trans (h69.mono HB6.out.size))
    have HG9 := Lib.hid (glob_stp HG6.out hs)
    clear hs hf h69
    go_wp2_with (go_at_call 7; refine (AW.out w9 HG9.out).mono ?_; rintro e wa ⟨rfl, hb8⟩; have HB8 := Lib.hid (HB9.out.trans (hb8.mono HB9.out.size)); clear hb8)
    go_ret
    exact ⟨rfl, HB8.out⟩
theorem own_law (A : Option Addr) (c : Nat) (key : List B8) (A' : Option Addr) (c' : Nat) (b : List B8) (x y : Nat) (w : World) (hK : Sl w w.heap.size A (key.map bv)) (hm : key.length ≤ maxLen) (hA : A = none → c = 0) (hc : key.length ≤ c) (hB : Sl w w.heap.size A' (b.map bv)) (hm' : b.length ≤ maxLen) (hA' : A' = none → c' = 0) (hc' : b.length ≤ c') (hx : x < 256) (hy : y < 256) (hG : Glob w) :
    Calls Tryd.prog 5 #[.slice A key.length c, .slice A' b.length c', .int .u8 x, .int .u8 y] w fun e w' => e = .returned (.bool true) ∧ Below w.heap.size w w' := own_any A A' c c' _ _ x y key b rfl rfl w (sl_bts hK) hA hc (sl_bts hB) hA' hc' hx hy hG
end Go.Proofs.YtnhakcmnpmlopaaDoor
