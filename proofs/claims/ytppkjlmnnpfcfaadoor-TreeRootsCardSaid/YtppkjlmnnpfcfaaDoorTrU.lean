/- The walk of 'TreeRoots'. -/
import Derived.Test.YtppkjlmnnpfcfaaDoorTrT
set_option linter.unusedVariables false
namespace Go.Proofs.YtppkjlmnnpfcfaaDoor
open Go.RowKit
attribute [local go_sem ↓] loadAt_id
attribute [local go_sem] rowOf_drew rowOf_drewN run_idLoad
set_option maxRecDepth 100000 in
set_option maxHeartbeats 8000000 in
theorem roots_any (A : Option Addr) (c : Nat) (ls : List (List B8)) (A' : Option Addr) (c' : Nat) (b : List B8) (z : Int) (w : World) (hL : LstN w A ls) (hA : A = none → c = 0) (hc : ls.length ≤ c) (hm : ls.length ≤ maxLen)
    (hB : Bts w A' b) (hA' : A' = none → c' = 0) (hc' : b.length ≤ c') (hm' : b.length ≤ maxLen) (hG : Glob w) :
    Calls Tryd.prog 7 #[.slice A ls.length c, .slice A' b.length c', .int .i64 z] w fun e w' => e = .returned (.bool true) ∧ Below w.heap.size w w' := by
  have HG := Lib.hid hG
  have HL := Lib.hid hL
  have HA := Lib.hid hA
  have HX := Lib.hid hB
  have GR := Lib.hid (great_any A c ls w hL hm)
  unfold maxLen at hm hm'
  obtain ⟨j0, hj, hj0, hj1, hj2⟩ := info_parts info_sl
  clear hG hL hA hB
  go_enter Tryd.func7, Tryd.ntmps7
  go_wp2_with (go_at_call 8; refine stop ?_)
  unfold Stop
  refine GR.out.mono ?_
  rintro e w' ⟨⟨r, rfl, hr⟩, hw⟩
  rw [hw]
  clear hw w' GR
  cases r with
  | true =>
    clear hr
    go_wp2_with (go_at_call 9; refine (awake_any _ HG.out).mono ?_; rintro e w' ⟨rfl, hb4⟩)
    go_ret
    exact ⟨rfl, hb4⟩
  | false =>
    obtain ⟨h40, h60'⟩ := hr rfl
    clear hr
    by_cases hb60 : 60 < b.length
    · have t0 : decide ((60 : Int) < (b.length : Int)) = true := by rw [decide_eq_true_eq]; omega
      clear h60'
      go_wp2_with (go_at_call 9; refine (awake_any _ HG.out).mono ?_; rintro e w' ⟨rfl, hb4⟩)
      go_ret
      exact ⟨rfl, hb4⟩
    have t0 : decide ((60 : Int) < (b.length : Int)) = false := by rw [decide_eq_false_iff_not]; omega
    have h60 : ∀ xs ∈ ls, xs.length ≤ 1000000 := fun xs hx => by have := h60' xs hx; omega
    have hmore : ∀ xs ∈ ls ++ [b], xs.length ≤ 1000000 := fun xs hx => by
      rcases List.mem_append.1 hx with hx | hx
      · exact h60 xs hx
      · obtain rfl := List.mem_singleton.1 hx; omega
    have H60 := Lib.hid h60
    have R1 := Lib.hid (root_any ls.length ls (Nat.le_refl _) (by omega) h60 A c w HL.out.lst hc HG.out)
    have R2 := Lib.hid (fun w (hL : LstN w A ls) => rroot_any ls.length ls (Nat.le_refl _) (by omega) h60 A c w hL hc HA.out)
    have M1 := Lib.hid (fun g cg w (hL : LstN w (some ⟨g, 0, none⟩) (ls ++ [b])) (hcg : ls.length + 1 ≤ cg) hG => root_any (ls.length + 1) (ls ++ [b]) (by simp) (by simp; omega) hmore (some ⟨g, 0, none⟩) cg w hL.lst (by simp; omega) hG)
    have M2 := Lib.hid (fun g cg w (hL : LstN w (some ⟨g, 0, none⟩) (ls ++ [b])) (hcg : ls.length + 1 ≤ cg) => rroot_any (ls.length + 1) (ls ++ [b]) (by simp) (by simp; omega) hmore (some ⟨g, 0, none⟩) cg w hL (by simp; omega) (fun h => by cases h))
    have lm : (ls ++ [b]).length = ls.length + 1 := by simp
    rw [lm] at M1 M2
    obtain ⟨R, hR⟩ : ∃ R, R = rootD ls := ⟨_, rfl⟩
    obtain ⟨M, hM⟩ : ∃ M, M = rootD (ls ++ [b]) := ⟨_, rfl⟩
    have hR32 : R.length = 32 := by rw [hR]; exact rootD_len _
    have hM32 : M.length = 32 := by rw [hM]; exact rootD_len _
    have HRR := Lib.hid hR
    rw [← hR] at R1 R2
    rw [← hM] at M1 M2
    have D1 := Lib.hid (show (Tryd.prog.info? 26).map (·.size) = some ((R.map bv).toArray).size by simp only [List.size_toArray, List.length_map, hR32]; kernel_rfl)
    have D2 := Lib.hid (show ZId.size = ((R.map bv).toArray).size by simp only [List.size_toArray, List.length_map, hR32]; rfl)
    have D3 := Lib.hid (bvs_one R)
    have X1 := Lib.hid (show (Tryd.prog.info? 26).map (·.size) = some (R.map bv).length by rw [List.length_map, hR32]; kernel_rfl)
    have eMR := fun w => eq_id M R hM32 hR32 w
    have eRM := fun w => eq_id R M hR32 hM32 w
    have HR32 := Lib.hid hR32
    clear hR hM lm hmore h60 h60' hM32
    go_upto_region 4 with (first
      | (go_at_call 10; refine R1.out.mono ?_; rintro e w1 ⟨rfl, hb⟩; have HB1 := Lib.hid hb; clear hb)
      | (refine wpList_store_row rfl _ _ _ rfl w1.heap.size (R.map bv).toArray rfl rfl 26 _ (heap_alloc_new w1 _) D1.out D2.out D3.out ?_; rw [World.setRow_alloc_new]))
    obtain ⟨w2, hw2⟩ : ∃ w2, w2 = w1.alloc (.cells (R.map bv).toArray 26) := ⟨_, rfl⟩
    have h12 : Below w1.heap.size w1 w2 := by rw [hw2]; exact (Below.refl _ _).alloc (Nat.le_refl _) _
    have HB2 := Lib.hid (HB1.out.trans (h12.mono HB1.out.size))
    have HL2 := Lib.hid (HL.out.below HB2.out)
    have HX2 := Lib.hid (HX.out.below HB2.out)
    have HG2 := Lib.hid (glob_below HG.out HB2.out (Nat.le_refl _))
    have HR2 := Lib.hid (show w2.heap[w1.heap.size]? = some (.cells (R.map bv).toArray 26 (0, 0)) by rw [hw2]; exact heap_alloc_new w1 _)
    have hs2 : w1.heap.size < w2.heap.size := by rw [hw2]; simp
    rw [← hw2]
    clear hw2 h12 HB1
    generalize w1.heap.size = g7 at *
    obtain ⟨vs, hvl, hvc⟩ := vl_of HL2.out
    have HVL := Lib.hid hvl
    have HVC := Lib.hid hvc
    have hvlen := hvl.1
    clear hvl hvc
    go_step
    refine wpList_empty (o := ⟨some 22, _, _, _, _, _⟩) rfl 32 (fun w => by kernel_rfl) ?_
    intro v0 w3 g1 g2
    have b3 : Below w2.heap.size w2 w3 := by rw [g2]; exact (Below.refl _ _).alloc (Nat.le_refl _) _
    have HO3 := Lib.hid g1
    have HB3 := Lib.hid b3
    have hs3 : w2.heap.size ≤ w3.heap.size := b3.size
    clear g1 g2 b3
    iterate 3 go_step
    refine wpList_append_any (o := ⟨some 24, _, _, _, _, _⟩) rfl _ _ 22 rfl w2.heap.size 32 j0 (.slice none 0 0) 24 Tryd.underlying22 hj hj0 hj1 hj2 rfl v0 0 [] rfl HO3.out A ls.length c vs rfl HA.out hvlen (fun j u hu => by
      obtain ⟨ad, e, h1⟩ := HVC.out j u hu
      exact ⟨ad, e, (HB3.out.cell (World.block_lt_of_cell? w2 _ h1)).trans h1⟩) HVL.out.one_cell ?_ ?_ ?_ ?_
    · unfold maxLen; omega
    · omega
    · omega
    intro v1 w4 g1 g2
    rw [Nat.zero_add, List.nil_append] at g1
    have HO4 := Lib.hid g1
    have HB4 := Lib.hid (HB3.out.grown g2 (by omega) (fun k hk => (HO3.out.lt k hk).1))
    have hs4 : w2.heap.size ≤ w4.heap.size := HB4.out.size
    clear g1 g2 HO3
    go_wp2_with (at_builtin; refine stop ?_)
    unfold Stop
    have ha : Below w4.heap.size w4 (w4.alloc (.cells #[.slice A' b.length c'] 32)) := (Below.refl _ _).alloc (Nat.le_refl _) _
    have HO5 := Lib.hid (own_below HO4.out ha)
    have HB5 := Lib.hid (HB4.out.trans (ha.mono hs4))
    clear ha
    refine wpList_append_any (o := ⟨some 27, _, _, _, _, _⟩) rfl _ _ 22 rfl w2.heap.size 32 j0 (.slice none 0 0) 24 Tryd.underlying22 hj hj0 hj1 hj2 rfl v1 ls.length vs rfl HO5.out (some ⟨w4.heap.size, 0, none⟩) 1 1 [.slice A' b.length c'] rfl (fun h => by cases h) rfl (fun j u hu => by
      refine ⟨_, rfl, ?_⟩
      match j, hu with
      | 0, hu =>
        obtain rfl : Value.slice A' b.length c' = u := by simpa using hu
        show World.cell? _ ⟨w4.heap.size, 0, none⟩ = _
        rw [cell_of_row _ _ _ _ _ _ (heap_alloc_new w4 _)]; rfl) (fun u hu => by obtain rfl := List.mem_singleton.1 hu; rfl) ?_ ?_ ?_ ?_
    · unfold maxLen; omega
    · omega
    · simp; omega
    intro v2 w5 g1 g2
    obtain ⟨g, cg, rfl, hg1, hg2⟩ := World.ownsRow.form g1 (by omega)
    have hcg := own_cap g1
    have HB6 := Lib.hid (HB5.out.grown g2 (by simp; omega) (fun k hk => (HO5.out.lt k hk).1))
    have HM6 := Lib.hid (lstn_of_own g1 (((HVL.out.below HB6.out)).append (VL.one A' c' b (HX2.out.below HB6.out) hc' hA')))
    have HL6 := Lib.hid (HL2.out.below HB6.out)
    have HX6 := Lib.hid (HX2.out.below HB6.out)
    have HG6 := Lib.hid (glob_below HG2.out HB6.out (Nat.le_refl _))
    have HR6 := Lib.hid (heap_below HB6.out HR2.out)
    have HB7 := Lib.hid (HB2.out.trans (HB6.out.mono HB2.out.size))
    have hs5 : w2.heap.size ≤ w5.heap.size := HB6.out.size
    clear g1 g2 HO4 HO5 HB3 HB4 HB5 HVC HVL hvlen hs3 hs4 hg1
    go_wp2_with (go_at_call 11; refine stop ?_)
    unfold Stop
    refine (M2.out g cg w5 HM6.out hcg).mono ?_
    rintro e w6 ⟨rfl, hb⟩
    have HB8 := Lib.hid hb
    clear hb
    go_wp2_with (go_at_call 11; refine stop ?_)
    unfold Stop
    refine (R2.out w6 (HL6.out.below HB8.out)).mono ?_
    rintro e w7 ⟨rfl, hb⟩
    have H57 := HB8.out.trans (hb.mono HB8.out.size)
    have HB9 := Lib.hid (HB7.out.trans (H57.mono HB7.out.size))
    have HL9 := Lib.hid (HL6.out.below H57)
    have HX9 := Lib.hid (HX6.out.below H57)
    have HM9 := Lib.hid (HM6.out.below H57)
    have HG9 := Lib.hid (glob_below HG6.out H57 (Nat.le_refl _))
    have HR9 := Lib.hid (heap_below H57 HR6.out)
    clear hb H57 HB8 HX6 HL6 HM6 HG6 HR6
    by_cases hq : M = R
    · have q1 : ∀ w, (Op.equalIn 10000 26 (.agg (M.map bv).toArray) (.agg (R.map bv).toArray)).run Tryd.prog w = .ok true w := fun w => by rw [eMR w, hq]; simp
      clear eMR eRM hq
      go_wp2_with (go_at_call 9; refine (awake_any _ HG9.out).mono ?_; rintro e w' ⟨rfl, hb4⟩)
      go_ret
      exact ⟨rfl, HB9.out.trans (hb4.mono HB9.out.size)⟩
    have q1 : ∀ w, (Op.equalIn 10000 26 (.agg (M.map bv).toArray) (.agg (R.map bv).toArray)).run Tryd.prog w = .ok false w := fun w => by rw [eMR w]; simp [hq]
    have q2 : ∀ w, (Op.equalIn 10000 26 (.agg (R.map bv).toArray) (.agg (M.map bv).toArray)).run Tryd.prog w = .ok false w := fun w => by rw [eRM w]; simp; exact fun h => hq h.symm
    clear eMR eRM hq
    go_upto_region 7 with fail
    have HM10 := Lib.hid (show LstN w7.drew (some ⟨g, 0, none⟩) (ls ++ [b]) from HM9.out)
    have HG10 := Lib.hid (show Glob w7.drew from HG9.out)
    have RR := Lib.hid (show w7.drew.rangeAt g7 0 (R.map bv) from range_row (show w7.drew.heap[g7]? = _ from HR9.out))
    have RL := Lib.hid (show g7 < w7.drew.heap.size from lt_of_block HR9.out)
    refine wp_region_rel 93 Stp [.one ?_, .one ?_, .one ?_, .one ?_] (by kernel_rfl) (by kernel_rfl) rfl (by kernel_rfl) Stp.refl Stp.trans trivial ?main
    case main =>
    refine wpR_one (A' := ?_) Stp.refl (by rfl) _ rfl 93 (by rfl) (by rfl) ?_ ?_ ?_
    rotate_left 1
    · simp only [Act.put, List.setIfInBounds_toArray, List.set_cons_zero, List.set_cons_succ]; rfl
    · intro w1 hs hf K hK
      refine cls_load 26 (.tmp 7) rfl (g7) (0) rfl (R.map bv) _ (fun w4 h2 => range_below (range_below RR.out hs RL.out) h2 (Nat.lt_of_lt_of_le RL.out (Below.size hs))) Tryd.underlying26 rfl X1.out ?_
      refine hK _ ?_
      simp only [Act.put, List.setIfInBounds_toArray, List.set_cons_zero, List.set_cons_succ]
      rfl
    iterate 1
      refine wpR_one (A' := ?_) Stp.refl (by rfl) _ rfl 93 (by rfl) (by rfl) ?_ ?_ ?_
      rotate_left 1
      · simp only [Act.put, List.setIfInBounds_toArray, List.set_cons_zero, List.set_cons_succ]; rfl
      · intro w1 hs hf K hK
        go_big_quiet_op
        first
          | go_big_quiet_on
          | (refine ⟨_, fun _ _ => rfl, ?_⟩; go_big_quiet_on)
        rfl
    refine wpR_one (A' := ?_) Stp.refl (by rfl) _ rfl 93 (by rfl) (by rfl) ?_ ?_ ?_
    rotate_left 1
    · simp only [Act.put, List.setIfInBounds_toArray, List.set_cons_zero, List.set_cons_succ]; rfl
    · intro w1 hs hf K hK
      have hg1 := Lib.hid (glob_stp HG10.out hs)
      have hm1 := Lib.hid (show LstN w1 (some ⟨g, 0, none⟩) (ls ++ [b]) from HM10.out.below hs)
      go_big_quiet_op
      apply Exists.intro
      refine ⟨fun w4 h2 => ?_, ?_⟩
      · refine (M1.out g cg w4 (hm1.out.below h2) hcg (glob_stp hg1.out h2)).mono ?_
        rintro e w3 ⟨rfl, h3⟩
        exact ⟨rfl, Stp.trans _ _ _ h2 h3⟩
      · go_big_quiet_on
        rfl
    iterate 1
      refine wpR_one (A' := ?_) Stp.refl (by rfl) _ rfl 93 (by rfl) (by rfl) ?_ ?_ ?_
      rotate_left 1
      · simp only [Act.put, List.setIfInBounds_toArray, List.set_cons_zero, List.set_cons_succ]; rfl
      · intro w1 hs hf K hK
        go_big_quiet_op
        first
          | go_big_quiet_on
          | (refine ⟨_, fun _ _ => rfl, ?_⟩; go_big_quiet_on)
        rfl
    intro w8 hs hf
    have HB11 := Lib.hid (stp_start hs HB9.out)
    have HL11 := Lib.hid (show LstN w8 A ls from HL9.out.below (stp_start hs (Below.refl _ _)))
    have HX11 := Lib.hid (show Bts w8 A' b from HX9.out.below (stp_start hs (Below.refl _ _)))
    have HG11 := Lib.hid (glob_stp HG10.out hs)
    have HR11 := Lib.hid (heap_below (stp_start hs (Below.refl _ _)) HR9.out)
    clear hs hf HM10 HG10 RR RL HM9 HX9 HL9 HG9 HR9 q1
    by_cases h1 : ls.length < 1
    · have t1 : decide ((ls.length : Int) < 1) = true := by rw [decide_eq_true_eq]; omega
      go_wp2_with (go_at_call 9; refine (awake_any _ HG11.out).mono ?_; rintro e w' ⟨rfl, hb4⟩)
      go_ret
      exact ⟨rfl, HB11.out.trans (hb4.mono HB11.out.size)⟩
    have t1 : decide ((ls.length : Int) < 1) = false := by rw [decide_eq_false_iff_not]; omega
    have P1 := Lib.hid (fun w => pick_any z ls.length w (by omega) (by omega))
    go_upto_region 12 with (go_at_call 18; refine (P1.out _).mono ?_; rintro e w' ⟨⟨k, hk, rfl⟩, hw⟩; rw [hw]; clear hw w')
    obtain ⟨us, hvl, hvc⟩ := vl_of HL11.out
    have HVL := Lib.hid hvl
    have HVC := Lib.hid hvc
    have hvlen := hvl.1
    clear hvl hvc P1
    go_step
    refine wpList_empty (o := ⟨some 46, _, _, _, _, _⟩) rfl 32 (fun w => by kernel_rfl) ?_
    intro v3 w9 g1 g2
    have b3 : Below w8.heap.size w8 w9 := by rw [g2]; exact (Below.refl _ _).alloc (Nat.le_refl _) _
    have HO3 := Lib.hid g1
    have HB3 := Lib.hid b3
    have hs3 : w8.heap.size ≤ w9.heap.size := b3.size
    clear g1 g2 b3
    iterate 3 go_step
    refine wpList_append_any (o := ⟨some 48, _, _, _, _, _⟩) rfl _ _ 22 rfl w8.heap.size 32 j0 (.slice none 0 0) 24 Tryd.underlying22 hj hj0 hj1 hj2 rfl v3 0 [] rfl HO3.out A ls.length c us rfl HA.out hvlen (fun j u hu => by
      obtain ⟨ad, e, h1⟩ := HVC.out j u hu
      exact ⟨ad, e, (HB3.out.cell (World.block_lt_of_cell? w8 _ h1)).trans h1⟩) HVL.out.one_cell ?_ ?_ ?_ ?_
    · unfold maxLen; omega
    · omega
    · omega
    intro v4 w10 g1 g2
    rw [Nat.zero_add, List.nil_append] at g1
    obtain ⟨g6, c6, rfl, hg3, hg4⟩ := World.ownsRow.form g1 (by omega)
    have hcg6 := own_cap g1
    have HO4 := Lib.hid g1
    have HB4 := Lib.hid (HB3.out.grown g2 (by omega) (fun k hk => (HO3.out.lt k hk).1))
    have hs4 : w8.heap.size ≤ w10.heap.size := HB4.out.size
    clear g1 g2 HO3 HVC
    have hku : us[k]? = some (us[k]'(by omega)) := List.getElem?_eq_getElem (by omega)
    have c0' : w10.cell? ⟨g6, k, none⟩ = some (us[k]'(by omega)) := by rw [HO4.out.cellAt k (by omega), hku]
    have z0' := HO4.out.frozenAt k
    generalize (us[k]'(by omega)) = uk at c0'
    clear hku
    go_upto_region 14 with fail
    obtain ⟨w11, hw11⟩ : ∃ w11, w11 = w10.setCell ⟨g6, k, none⟩ (.slice A' b.length c') := ⟨_, rfl⟩
    have st := HO4.out.stored k (.slice A' b.length c')
    rw [← hw11] at st
    have h811 : Below w8.heap.size w8 w11 := HB4.out.grown st.2 hs4 (fun k hk => (HO4.out.lt k hk).1)
    have HS11 := Lib.hid (lstn_of_own st.1 ((HVL.out.below h811).set k A' c' b (HX11.out.below h811) hc' hA'))
    have HB12 := Lib.hid (HB11.out.trans (h811.mono HB11.out.size))
    have HL12 := Lib.hid (HL11.out.below h811)
    have HX12 := Lib.hid (HX11.out.below h811)
    have HG12 := Lib.hid (glob_below HG11.out h811 (Nat.le_refl _))
    have HR12 := Lib.hid (heap_below h811 HR11.out)
    rw [← hw11]
    clear hw11 st h811 HO4 HB4 HVL c0' z0' HL11 HX11 HG11 HR11 HB11 hs3 hs4 hvlen
    obtain ⟨x, hx⟩ : ∃ x, ls[k]? = some x := ⟨_, List.getElem?_eq_getElem hk⟩
    obtain ⟨ad, Ak, ck, eA, hcx, hck, hAk, hbx⟩ := HL12.out k x hx
    have hx60 := H60.out x (List.mem_of_getElem? hx)
    have BY := Lib.hid (rbytes_any A' Ak c' ck w11.heap.size w11.heap.size b x w11 HX12.out.sl hbx.sl (by unfold maxLen; omega) (by unfold maxLen; omega))
    obtain ⟨sm, hsm⟩ : ∃ sm, sm = decide (b = x) := ⟨_, rfl⟩
    rw [← hsm] at BY
    have hset : sm = true → ls.set k b = ls := fun h => by
      rw [hsm] at h
      have e := of_decide_eq_true h
      exact set_same (by rw [e]; exact hx)
    have HX32 := HR32.out
    have l60 : ∀ xs ∈ ls.set k b, xs.length ≤ 1000000 := fun xs hxs => by
      rcases List.mem_or_eq_of_mem_set hxs with h | h
      · exact H60.out xs h
      · rw [h]; omega
    have ls1 : (ls.set k b).length = ls.length := by simp
    have ld1 : (ls.drop 1).length = ls.length - 1 := by simp
    have hslk : ∀ w, (Instr.slice 22 (.slice A ls.length c) (some (.int .i64 1)) none none).run Tryd.prog w = .ok (.slice (cutA A c 1) (ls.length - 1) (c - 1)) w := fun w => slicel_lo A ls.length c 1 (by omega) w
    have S1 := Lib.hid (fun w (hL : LstN w (some ⟨g6, 0, none⟩) (ls.set k b)) hG => root_any ls.length (ls.set k b) (by simp) (by simp; omega) l60 (some ⟨g6, 0, none⟩) c6 w hL.lst (by simp; omega) hG)
    have S2 := Lib.hid (fun w (hL : LstN w (some ⟨g6, 0, none⟩) (ls.set k b)) => rroot_any ls.length (ls.set k b) (by simp) (by simp; omega) l60 (some ⟨g6, 0, none⟩) c6 w hL (by simp; omega) (fun h => by cases h))
    have T1 := Lib.hid (fun w (hL : LstN w A ls) hG => root_any ls.length (ls.drop 1) (by simp) (by simp; omega) (fun xs hx => H60.out xs (List.mem_of_mem_drop hx)) (cutA A c 1) (c - 1) w (hL.lst.cut c 1 hc) (by simp; omega) hG)
    have T2 := Lib.hid (fun w (hL : LstN w A ls) => rroot_any ls.length (ls.drop 1) (by simp) (by simp; omega) (fun xs hx => H60.out xs (List.mem_of_mem_drop hx)) (cutA A c 1) (c - 1) w (hL.cut c 1 hc) (by simp; omega) (cutA_none HA.out))
    rw [ls1] at S1 S2
    rw [ld1] at T1 T2
    obtain ⟨X, hX⟩ : ∃ X, X = rootD (ls.set k b) := ⟨_, rfl⟩
    obtain ⟨T, hT⟩ : ∃ T, T = rootD (ls.drop 1) := ⟨_, rfl⟩
    have hX32 : X.length = 32 := by rw [hX]; exact rootD_len _
    have hT32 : T.length = 32 := by rw [hT]; exact rootD_len _
    have hXR : sm = true → X = R := fun h => by rw [hX, HRR.out, hset h]
    rw [← hX] at S1 S2
    rw [← hT] at T1 T2
    have eXR := fun w => eq_id X R hX32 HX32 w
    have eTR := fun w => eq_id T R hT32 HX32 w
    have nTR := fun w => neq_id T R hT32 HX32 w
    have SL := Lib.hid hslk
    clear hx hX hT hset l60 ls1 ld1 hsm hbx hck hAk hX32 hT32 HX32 hx60 hslk
    subst eA
    go_wp2_with (go_at_call 19; refine stop ?_)
    unfold Stop
    refine BY.out.mono ?_
    rintro e w' ⟨rfl, n, hw⟩
    rw [hw]
    clear hw w' BY hcx
    obtain ⟨w12, hw12⟩ : ∃ w12, w12 = w11.drewN n := ⟨_, rfl⟩
    have hdr : Below w11.heap.size w11 w12 := by rw [hw12]; exact below_drewN (Below.refl _ _)
    have HB13 := Lib.hid (HB12.out.trans (hdr.mono HB12.out.size))
    have HL13 := Lib.hid (HL12.out.below hdr)
    have HS13 := Lib.hid (HS11.out.below hdr)
    have HG13 := Lib.hid (glob_below HG12.out hdr (Nat.le_refl _))
    have HR13 := Lib.hid (heap_below hdr HR12.out)
    rw [← hw12]
    clear hw12 hdr HB12 HL12 HX12 HG12 HR12 HS11
    go_wp2_with (go_at_call 11; refine stop ?_)
    unfold Stop
    refine (S2.out w12 HS13.out).mono ?_
    rintro e w13 ⟨rfl, hb⟩
    have HBa := Lib.hid hb
    clear hb
    go_wp2_with (go_at_call 11; refine stop ?_)
    unfold Stop
    refine (R2.out w13 (HL13.out.below HBa.out)).mono ?_
    rintro e w14 ⟨rfl, hb⟩
    have H24 := HBa.out.trans (hb.mono HBa.out.size)
    have HB14 := Lib.hid (HB13.out.trans (H24.mono HB13.out.size))
    have HL14 := Lib.hid (HL13.out.below H24)
    have HS14 := Lib.hid (HS13.out.below H24)
    have HG14 := Lib.hid (glob_below HG13.out H24 (Nat.le_refl _))
    have HR14 := Lib.hid (heap_below H24 HR13.out)
    clear hb H24 HBa HB13 HL13 HS13 HG13 HR13 S2
    by_cases hbad : sm = false ∧ X = R
    · obtain ⟨rfl, hq⟩ := hbad
      have q3 : ∀ w, (Op.equalIn 10000 26 (.agg (X.map bv).toArray) (.agg (R.map bv).toArray)).run Tryd.prog w = .ok true w := fun w => by rw [eXR w, hq]; simp
      clear eXR eTR nTR hq hXR
      go_wp2_with (go_at_call 9; refine (awake_any _ HG14.out).mono ?_; rintro e w' ⟨rfl, hb4⟩)
      go_ret
      exact ⟨rfl, HB14.out.trans (hb4.mono HB14.out.size)⟩
    have q3 : ∀ w, (Op.equalIn 10000 26 (.agg (X.map bv).toArray) (.agg (R.map bv).toArray)).run Tryd.prog w = .ok sm w := fun w => by
      rw [eXR w]
      cases sm with
      | true => rw [hXR rfl]; simp
      | false => rw [decide_eq_false (fun h => hbad ⟨rfl, h⟩)]
    clear eXR hXR hbad
    have sl := SL.out
    cases sm with
    | true =>
      go_wp2_with (go_at_call 11; refine stop ?_)
      unfold Stop
      refine (T2.out w14 HL14.out).mono ?_
      rintro e w15 ⟨rfl, hb⟩
      have HBa := Lib.hid hb
      clear hb
      go_wp2_with (go_at_call 11; refine stop ?_)
      unfold Stop
      refine (R2.out w15 (HL14.out.below HBa.out)).mono ?_
      rintro e w16 ⟨rfl, hb⟩
      have H24 := HBa.out.trans (hb.mono HBa.out.size)
      have HB16 := Lib.hid (HB14.out.trans (H24.mono HB14.out.size))
      have HG16 := Lib.hid (glob_below HG14.out H24 (Nat.le_refl _))
      have HL16 := Lib.hid (show LstN w16.drew _ ls from HL14.out.below H24.drew)
      have HS16 := Lib.hid (show LstN w16.drew _ (ls.set k b) from HS14.out.below H24.drew)
      have HR16 := heap_below H24 HR14.out
      have RR := Lib.hid (show w16.drew.rangeAt g7 0 (R.map bv) from range_row (show w16.drew.heap[g7]? = _ from HR16))
      have RL := Lib.hid (show g7 < w16.drew.heap.size from lt_of_block HR16)
      clear hb H24 HBa HB14 HL14 HS14 HG14 HR14 HR16
      by_cases hq : T = R
      · have q4 : ∀ w, (Op.equalIn 10000 26 (.agg (T.map bv).toArray) (.agg (R.map bv).toArray)).run Tryd.prog w = .ok true w := fun w => by rw [eTR w, hq]; simp
        clear eTR nTR hq
        go_wp2_with (go_at_call 9; refine (awake_any _ HG16.out).mono ?_; rintro e w' ⟨rfl, hb4⟩)
        go_ret
        exact ⟨rfl, HB16.out.trans (hb4.mono HB16.out.size)⟩
      have q4 : ∀ w, (Op.equalIn 10000 26 (.agg (T.map bv).toArray) (.agg (R.map bv).toArray)).run Tryd.prog w = .ok false w := fun w => by rw [eTR w]; simp [hq]
      have q5 : ∀ w, (binOp .neq 26 (.agg (T.map bv).toArray) (.agg (R.map bv).toArray)).run Tryd.prog w = .ok (.bool true) w := fun w => by rw [nTR w]; simp [hq]
      clear eTR nTR hq
      go_upto_region 17 with fail
      have HG17 := Lib.hid (show Glob w16.drew from HG16.out)
      refine wp_region_rel 93 Stp [.one ?_, .one ?_, .one ?_, .one ?_, .one ?_, .one ?_, .one ?_, .one ?_, .one ?_, .one ?_, .one ?_, .one ?_, .one ?_, .one ?_, .one ?_, .one ?_, .one ?_] (by kernel_rfl) (by kernel_rfl) rfl (by kernel_rfl) Stp.refl Stp.trans trivial ?main
      case main =>
      iterate 1
        refine wpR_one (A' := ?_) Stp.refl (by rfl) _ rfl 93 (by rfl) (by rfl) ?_ ?_ ?_
        rotate_left 1
        · simp only [Act.put, List.setIfInBounds_toArray, List.set_cons_zero, List.set_cons_succ]; rfl
        · intro w1 hs hf K hK
          go_big_quiet_op
          first
            | go_big_quiet_on
            | (refine ⟨_, fun _ _ => rfl, ?_⟩; go_big_quiet_on)
          rfl
      refine wpR_one (A' := ?_) Stp.refl (by rfl) _ rfl 93 (by rfl) (by rfl) ?_ ?_ ?_
      rotate_left 1
      · simp only [Act.put, List.setIfInBounds_toArray, List.set_cons_zero, List.set_cons_succ]; rfl
      · intro w1 hs hf K hK
        have hg1 := Lib.hid (glob_stp HG17.out hs)
        have hl1 := Lib.hid (show LstN w1 _ ls from HL16.out.below hs)
        have hm1 := Lib.hid (show LstN w1 _ (ls.set k b) from HS16.out.below hs)
        go_big_quiet_op
        apply Exists.intro
        refine ⟨fun w4 h2 => ?_, ?_⟩
        · refine (S1.out w4 (hm1.out.below h2) (glob_stp hg1.out h2)).mono ?_
          rintro e w3 ⟨rfl, h3⟩
          exact ⟨rfl, Stp.trans _ _ _ h2 h3⟩
        · go_big_quiet_on
          rfl
      refine wpR_one (A' := ?_) Stp.refl (by rfl) _ rfl 93 (by rfl) (by rfl) ?_ ?_ ?_
      rotate_left 1
      · simp only [Act.put, List.setIfInBounds_toArray, List.set_cons_zero, List.set_cons_succ]; rfl
      · intro w1 hs hf K hK
        refine cls_load 26 (.tmp 7) rfl (g7) (0) rfl (R.map bv) _ (fun w4 h2 => range_below (range_below RR.out hs RL.out) h2 (Nat.lt_of_lt_of_le RL.out (Below.size hs))) Tryd.underlying26 rfl X1.out ?_
        refine hK _ ?_
        simp only [Act.put, List.setIfInBounds_toArray, List.set_cons_zero, List.set_cons_succ]
        rfl
      iterate 6
        refine wpR_one (A' := ?_) Stp.refl (by rfl) _ rfl 93 (by rfl) (by rfl) ?_ ?_ ?_
        rotate_left 1
        · simp only [Act.put, List.setIfInBounds_toArray, List.set_cons_zero, List.set_cons_succ]; rfl
        · intro w1 hs hf K hK
          go_big_quiet_op
          first
            | go_big_quiet_on
            | (refine ⟨_, fun _ _ => rfl, ?_⟩; go_big_quiet_on)
          rfl
      refine wpR_one (A' := ?_) Stp.refl (by rfl) _ rfl 93 (by rfl) (by rfl) ?_ ?_ ?_
      rotate_left 1
      · simp only [Act.put, List.setIfInBounds_toArray, List.set_cons_zero, List.set_cons_succ]; rfl
      · intro w1 hs hf K hK
        have hg1 := Lib.hid (glob_stp HG17.out hs)
        have hl1 := Lib.hid (show LstN w1 _ ls from HL16.out.below hs)
        have hm1 := Lib.hid (show LstN w1 _ (ls.set k b) from HS16.out.below hs)
        go_big_quiet_op
        apply Exists.intro
        refine ⟨fun w4 h2 => ?_, ?_⟩
        · refine (T1.out w4 (hl1.out.below h2) (glob_stp hg1.out h2)).mono ?_
          rintro e w3 ⟨rfl, h3⟩
          exact ⟨rfl, Stp.trans _ _ _ h2 h3⟩
        · go_big_quiet_on
          rfl
      refine wpR_one (A' := ?_) Stp.refl (by rfl) _ rfl 93 (by rfl) (by rfl) ?_ ?_ ?_
      rotate_left 1
      · simp only [Act.put, List.setIfInBounds_toArray, List.set_cons_zero, List.set_cons_succ]; rfl
      · intro w1 hs hf K hK
        refine cls_load 26 (.tmp 7) rfl (g7) (0) rfl (R.map bv) _ (fun w4 h2 => range_below (range_below RR.out hs RL.out) h2 (Nat.lt_of_lt_of_le RL.out (Below.size hs))) Tryd.underlying26 rfl X1.out ?_
        refine hK _ ?_
        simp only [Act.put, List.setIfInBounds_toArray, List.set_cons_zero, List.set_cons_succ]
        rfl
      iterate 3
        refine wpR_one (A' := ?_) Stp.refl (by rfl) _ rfl 93 (by rfl) (by rfl) ?_ ?_ ?_
        rotate_left 1
        · simp only [Act.put, List.setIfInBounds_toArray, List.set_cons_zero, List.set_cons_succ]; rfl
        · intro w1 hs hf K hK
          go_big_quiet_op
          first
            | go_big_quiet_on
            | (refine ⟨_, fun _ _ => rfl, ?_⟩; go_big_quiet_on)
          rfl
      refine wpR_one (A' := ?_) Stp.refl (by rfl) _ rfl 93 (by rfl) (by rfl) ?_ ?_ ?_
      rotate_left 1
      · simp only [Act.put, List.setIfInBounds_toArray, List.set_cons_zero, List.set_cons_succ]; rfl
      · intro w1 hs hf K hK
        have hg1 := Lib.hid (glob_stp HG17.out hs)
        have hl1 := Lib.hid (show LstN w1 _ ls from HL16.out.below hs)
        have hm1 := Lib.hid (show LstN w1 _ (ls.set k b) from HS16.out.below hs)
        go_big_quiet_op
        apply Exists.intro
        refine ⟨fun w4 h2 => ?_, ?_⟩
        · refine (awake_any w4 (glob_stp hg1.out h2)).mono ?_
          rintro e w3 ⟨rfl, h3⟩
          exact ⟨rfl, Stp.trans _ _ _ h2 h3⟩
        · go_big_quiet_on
          rfl
      iterate 2
        refine wpR_one (A' := ?_) Stp.refl (by rfl) _ rfl 93 (by rfl) (by rfl) ?_ ?_ ?_
        rotate_left 1
        · simp only [Act.put, List.setIfInBounds_toArray, List.set_cons_zero, List.set_cons_succ]; rfl
        · intro w1 hs hf K hK
          go_big_quiet_op
          first
            | go_big_quiet_on
            | (refine ⟨_, fun _ _ => rfl, ?_⟩; go_big_quiet_on)
          rfl
      intro w18 hs hf
      have HS := Lib.hid (stp_start hs HB16.out)
      clear hs hf
      go_wp2_with fail
      go_ret
      exact ⟨rfl, HS.out⟩
    | false =>
      go_wp2_with (go_at_call 11; refine stop ?_)
      unfold Stop
      refine (T2.out w14 HL14.out).mono ?_
      rintro e w15 ⟨rfl, hb⟩
      have HBa := Lib.hid hb
      clear hb
      go_wp2_with (go_at_call 11; refine stop ?_)
      unfold Stop
      refine (R2.out w15 (HL14.out.below HBa.out)).mono ?_
      rintro e w16 ⟨rfl, hb⟩
      have H24 := HBa.out.trans (hb.mono HBa.out.size)
      have HB16 := Lib.hid (HB14.out.trans (H24.mono HB14.out.size))
      have HG16 := Lib.hid (glob_below HG14.out H24 (Nat.le_refl _))
      have HL16 := Lib.hid (show LstN w16.drew _ ls from HL14.out.below H24.drew)
      have HS16 := Lib.hid (show LstN w16.drew _ (ls.set k b) from HS14.out.below H24.drew)
      have HR16 := heap_below H24 HR14.out
      have RR := Lib.hid (show w16.drew.rangeAt g7 0 (R.map bv) from range_row (show w16.drew.heap[g7]? = _ from HR16))
      have RL := Lib.hid (show g7 < w16.drew.heap.size from lt_of_block HR16)
      clear hb H24 HBa HB14 HL14 HS14 HG14 HR14 HR16
      by_cases hq : T = R
      · have q4 : ∀ w, (Op.equalIn 10000 26 (.agg (T.map bv).toArray) (.agg (R.map bv).toArray)).run Tryd.prog w = .ok true w := fun w => by rw [eTR w, hq]; simp
        clear eTR nTR hq
        go_wp2_with (go_at_call 9; refine (awake_any _ HG16.out).mono ?_; rintro e w' ⟨rfl, hb4⟩)
        go_ret
        exact ⟨rfl, HB16.out.trans (hb4.mono HB16.out.size)⟩
      have q4 : ∀ w, (Op.equalIn 10000 26 (.agg (T.map bv).toArray) (.agg (R.map bv).toArray)).run Tryd.prog w = .ok false w := fun w => by rw [eTR w]; simp [hq]
      have q5 : ∀ w, (binOp .neq 26 (.agg (T.map bv).toArray) (.agg (R.map bv).toArray)).run Tryd.prog w = .ok (.bool true) w := fun w => by rw [nTR w]; simp [hq]
      clear eTR nTR hq
      go_upto_region 17 with fail
      have HG17 := Lib.hid (show Glob w16.drew from HG16.out)
      refine wp_region_rel 93 Stp [.one ?_, .one ?_, .one ?_, .one ?_, .one ?_, .one ?_, .one ?_, .one ?_, .one ?_, .one ?_, .one ?_, .one ?_, .one ?_, .one ?_, .one ?_, .one ?_, .one ?_] (by kernel_rfl) (by kernel_rfl) rfl (by kernel_rfl) Stp.refl Stp.trans trivial ?main
      case main =>
      iterate 1
        refine wpR_one (A' := ?_) Stp.refl (by rfl) _ rfl 93 (by rfl) (by rfl) ?_ ?_ ?_
        rotate_left 1
        · simp only [Act.put, List.setIfInBounds_toArray, List.set_cons_zero, List.set_cons_succ]; rfl
        · intro w1 hs hf K hK
          go_big_quiet_op
          first
            | go_big_quiet_on
            | (refine ⟨_, fun _ _ => rfl, ?_⟩; go_big_quiet_on)
          rfl
      refine wpR_one (A' := ?_) Stp.refl (by rfl) _ rfl 93 (by rfl) (by rfl) ?_ ?_ ?_
      rotate_left 1
      · simp only [Act.put, List.setIfInBounds_toArray, List.set_cons_zero, List.set_cons_succ]; rfl
      · intro w1 hs hf K hK
        have hg1 := Lib.hid (glob_stp HG17.out hs)
        have hl1 := Lib.hid (show LstN w1 _ ls from HL16.out.below hs)
        have hm1 := Lib.hid (show LstN w1 _ (ls.set k b) from HS16.out.below hs)
        go_big_quiet_op
        apply Exists.intro
        refine ⟨fun w4 h2 => ?_, ?_⟩
        · refine (S1.out w4 (hm1.out.below h2) (glob_stp hg1.out h2)).mono ?_
          rintro e w3 ⟨rfl, h3⟩
          exact ⟨rfl, Stp.trans _ _ _ h2 h3⟩
        · go_big_quiet_on
          rfl
      refine wpR_one (A' := ?_) Stp.refl (by rfl) _ rfl 93 (by rfl) (by rfl) ?_ ?_ ?_
      rotate_left 1
      · simp only [Act.put, List.setIfInBounds_toArray, List.set_cons_zero, List.set_cons_succ]; rfl
      · intro w1 hs hf K hK
        refine cls_load 26 (.tmp 7) rfl (g7) (0) rfl (R.map bv) _ (fun w4 h2 => range_below (range_below RR.out hs RL.out) h2 (Nat.lt_of_lt_of_le RL.out (Below.size hs))) Tryd.underlying26 rfl X1.out ?_
        refine hK _ ?_
        simp only [Act.put, List.setIfInBounds_toArray, List.set_cons_zero, List.set_cons_succ]
        rfl
      iterate 6
        refine wpR_one (A' := ?_) Stp.refl (by rfl) _ rfl 93 (by rfl) (by rfl) ?_ ?_ ?_
        rotate_left 1
        · simp only [Act.put, List.setIfInBounds_toArray, List.set_cons_zero, List.set_cons_succ]; rfl
        · intro w1 hs hf K hK
          go_big_quiet_op
          first
            | go_big_quiet_on
            | (refine ⟨_, fun _ _ => rfl, ?_⟩; go_big_quiet_on)
          rfl
      refine wpR_one (A' := ?_) Stp.refl (by rfl) _ rfl 93 (by rfl) (by rfl) ?_ ?_ ?_
      rotate_left 1
      · simp only [Act.put, List.setIfInBounds_toArray, List.set_cons_zero, List.set_cons_succ]; rfl
      · intro w1 hs hf K hK
        have hg1 := Lib.hid (glob_stp HG17.out hs)
        have hl1 := Lib.hid (show LstN w1 _ ls from HL16.out.below hs)
        have hm1 := Lib.hid (show LstN w1 _ (ls.set k b) from HS16.out.below hs)
        go_big_quiet_op
        apply Exists.intro
        refine ⟨fun w4 h2 => ?_, ?_⟩
        · refine (T1.out w4 (hl1.out.below h2) (glob_stp hg1.out h2)).mono ?_
          rintro e w3 ⟨rfl, h3⟩
          exact ⟨rfl, Stp.trans _ _ _ h2 h3⟩
        · go_big_quiet_on
          rfl
      refine wpR_one (A' := ?_) Stp.refl (by rfl) _ rfl 93 (by rfl) (by rfl) ?_ ?_ ?_
      rotate_left 1
      · simp only [Act.put, List.setIfInBounds_toArray, List.set_cons_zero, List.set_cons_succ]; rfl
      · intro w1 hs hf K hK
        refine cls_load 26 (.tmp 7) rfl (g7) (0) rfl (R.map bv) _ (fun w4 h2 => range_below (range_below RR.out hs RL.out) h2 (Nat.lt_of_lt_of_le RL.out (Below.size hs))) Tryd.underlying26 rfl X1.out ?_
        refine hK _ ?_
        simp only [Act.put, List.setIfInBounds_toArray, List.set_cons_zero, List.set_cons_succ]
        rfl
      iterate 3
        refine wpR_one (A' := ?_) Stp.refl (by rfl) _ rfl 93 (by rfl) (by rfl) ?_ ?_ ?_
        rotate_left 1
        · simp only [Act.put, List.setIfInBounds_toArray, List.set_cons_zero, List.set_cons_succ]; rfl
        · intro w1 hs hf K hK
          go_big_quiet_op
          first
            | go_big_quiet_on
            | (refine ⟨_, fun _ _ => rfl, ?_⟩; go_big_quiet_on)
          rfl
      refine wpR_one (A' := ?_) Stp.refl (by rfl) _ rfl 93 (by rfl) (by rfl) ?_ ?_ ?_
      rotate_left 1
      · simp only [Act.put, List.setIfInBounds_toArray, List.set_cons_zero, List.set_cons_succ]; rfl
      · intro w1 hs hf K hK
        have hg1 := Lib.hid (glob_stp HG17.out hs)
        have hl1 := Lib.hid (show LstN w1 _ ls from HL16.out.below hs)
        have hm1 := Lib.hid (show LstN w1 _ (ls.set k b) from HS16.out.below hs)
        go_big_quiet_op
        apply Exists.intro
        refine ⟨fun w4 h2 => ?_, ?_⟩
        · refine (awake_any w4 (glob_stp hg1.out h2)).mono ?_
          rintro e w3 ⟨rfl, h3⟩
          exact ⟨rfl, Stp.trans _ _ _ h2 h3⟩
        · go_big_quiet_on
          rfl
      iterate 2
        refine wpR_one (A' := ?_) Stp.refl (by rfl) _ rfl 93 (by rfl) (by rfl) ?_ ?_ ?_
        rotate_left 1
        · simp only [Act.put, List.setIfInBounds_toArray, List.set_cons_zero, List.set_cons_succ]; rfl
        · intro w1 hs hf K hK
          go_big_quiet_op
          first
            | go_big_quiet_on
            | (refine ⟨_, fun _ _ => rfl, ?_⟩; go_big_quiet_on)
          rfl
      intro w18 hs hf
      have HS := Lib.hid (stp_start hs HB16.out)
      clear hs hf
      go_wp2_with fail
      go_ret
      exact ⟨rfl, HS.out⟩
theorem roots_law (A : Option Addr) (c : Nat) (ls : List (List B8)) (A' : Option Addr) (c' : Nat) (b : List B8) (z : Int) (w : World) (hL : LstN w A ls) (hm : ls.length ≤ maxLen) (hA : A = none → c = 0) (hc : ls.length ≤ c)
    (hB : Sl w w.heap.size A' (b.map bv)) (hm' : b.length ≤ maxLen) (hA' : A' = none → c' = 0) (hc' : b.length ≤ c') {p : Prop} (_ : p) (hG : Glob w) :
    Calls Tryd.prog 7 #[.slice A ls.length c, .slice A' b.length c', .int .i64 z] w fun e w' => e = .returned (.bool true) ∧ Below w.heap.size w w' :=
  roots_any A c ls A' c' b z w hL hA hc hm (Bts.of_sl hB) hA' hc' hm' hG
end Go.Proofs.YtppkjlmnnpfcfaaDoor
