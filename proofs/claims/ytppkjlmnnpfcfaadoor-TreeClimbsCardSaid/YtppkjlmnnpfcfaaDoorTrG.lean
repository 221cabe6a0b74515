/- The document's Root. -/
import Derived.Test.YtppkjlmnnpfcfaaDoorTrF
set_option linter.unusedVariables false
namespace Go.Proofs.YtppkjlmnnpfcfaaDoor
open Go.RowKit
theorem LstN.front {w : World} {A : Option Addr} {ls : List (List B8)} (h : LstN w A ls) (n : Nat) : LstN w A (ls.take n) := fun i xs hi => by
  rw [List.getElem?_take] at hi
  split at hi
  · exact h i xs hi
  · cases hi
theorem LstN.cut {w : World} {A : Option Addr} {ls : List (List B8)} (h : LstN w A ls) (cap n : Nat) (hc : ls.length ≤ cap) : LstN w (cutA A cap n) (ls.drop n) := fun i xs hi => by
  rw [List.getElem?_drop] at hi
  obtain ⟨ad, Ai, ci, rfl, hcl, h1, h2, h3⟩ := h (n + i) xs hi
  have hlt := (List.getElem?_eq_some_iff.1 hi).1
  refine ⟨ad.add n, Ai, ci, ?_, by rw [add_add]; exact hcl, h1, h2, h3⟩
  unfold cutA
  rw [if_neg (by omega)]; rfl
theorem cutA_none {A : Option Addr} {c n : Nat} (hA : A = none → c = 0) (h : cutA A c n = none) : c - n = 0 := by
  unfold cutA at h
  split at h
  · omega
  · cases A with
    | none => have := hA rfl; omega
    | some a => cases h
theorem lstn_stp {w w' : World} {A : Option Addr} {ls : List (List B8)} (h : LstN w A ls) (hs : Stp w w') : LstN w' A ls := h.below hs
set_option maxRecDepth 100000 in
set_option maxHeartbeats 2000000 in
theorem rroot_small (ls : List (List B8)) (h2 : ¬ 2 ≤ ls.length) (h60 : ∀ xs ∈ ls, xs.length ≤ 1000000) (A : Option Addr) (c : Nat) (w : World) (hL : LstN w A ls) (hc : ls.length ≤ c) (hA : A = none → c = 0) :
    Calls Tryd.prog 11 #[.slice A ls.length c] w fun e w' => e = .returned (.agg ((rootD ls).map bv).toArray) ∧ Below w.heap.size w w' := by
  obtain ⟨C, hC⟩ : ∃ C, C = ((rootD ls).map bv).toArray := ⟨_, rfl⟩
  have hC32 : C.size = 32 := by rw [hC]; simp [rootD_len]
  have H3 := Lib.hid (show C.all (·.oneCell') = true by rw [hC]; exact bvs_one _)
  have H1 := Lib.hid (show (Tryd.prog.info? 26).map (·.size) = some C.size by rw [hC32]; kernel_rfl)
  have H2 := Lib.hid (show ZId.size = C.size by rw [hC32]; rfl)
  obtain ⟨w1, hw1⟩ : ∃ w1, w1 = w.alloc (.cells ZId 26) := ⟨_, rfl⟩
  have hs1 : w1.heap.size = w.heap.size + 1 := by rw [hw1]; simp
  have hb1 : Below w.heap.size w w1 := by rw [hw1]; exact (Below.refl _ _).alloc (Nat.le_refl _) _
  have hz1 : w1.heap[w.heap.size]? = some (.cells ZId 26 (0, 0)) := by rw [hw1]; exact heap_alloc_new w _
  have HB1 := Lib.hid hb1
  have HZ1 := Lib.hid hz1
  have HL1 := hL.below hb1
  rw [← hC]
  rcases ls with _ | ⟨x, _ | ⟨y, l⟩⟩
  · rw [rootD_nil] at hC
    obtain ⟨w2, hw2⟩ : ∃ w2, w2 = w1.alloc (.cells #[.int .u8 0] 5) := ⟨_, rfl⟩
    have hb2 : Below w1.heap.size w1 w2 := by rw [hw2]; exact (Below.refl _ _).alloc (Nat.le_refl _) _
    have ho : w2.ownsRow 0 5 1 (.slice (some ⟨w1.heap.size, 0, none⟩) 1 1) 1 ([0].map bv) := by
      have := own_new w1 0 5 [bv 0] 1 rfl (by omega) (by unfold maxLen; omega)
      rw [hw2]; exact this
    have U := Lib.hid (of_any (some ⟨w1.heap.size, 0, none⟩) 1 [0] w2 (own_bts ho) (fun h => by cases h) (by decide) (by decide))
    rw [← hC, hs1] at U
    have HB2 := Lib.hid (hb1.trans (hb2.mono hb1.size))
    have HZ2 := Lib.hid (heap_below hb2 hz1)
    clear hb1 hz1 hL hC hC32 ho hb2
    go_enter Tryd.func11, Tryd.ntmps11
    go_upto_region 2 with fail
    rw [← hw1]
    clear hw1
    go_wp2_with (go_at_call 24; refine stop ?_)
    unfold Stop
    rw [← hw2]
    refine U.out.mono ?_
    rintro e w3 ⟨rfl, hb3⟩
    have HA := Lib.hid (heap_below hb3 HZ2.out)
    have HB3 := Lib.hid (HB2.out.trans (hb3.mono HB2.out.size))
    clear hb3
    go_wp2_with (refine wpList_store_row rfl _ _ _ rfl w.heap.size C rfl rfl _ ZId HA.out H1.out H2.out H3.out ?_)
    have hA2 := setRow_heap w3 w.heap.size ZId C 26 (0, 0) HA.out
    refine bodyPost_ret (v := .agg C) ?_ rfl ⟨rfl, below_setRow HB3.out (Nat.le_refl _) C⟩
    exact results_cell_row Tryd.results11 _ _ w.heap.size _ C (0, 0) _ rfl hA2 Tryd.underlying26 rfl H1.out
  · rw [rootD_one] at hC
    obtain ⟨ad, Ai, ci, rfl, hcl, hci, hAi, hbt⟩ := HL1 0 x rfl
    have e0 : ad.add 0 = ad := by unfold Addr.add; simp
    rw [e0] at hcl
    have h60' := h60 x (by simp)
    have R := Lib.hid (rleaf_any Ai ci x w1 hbt hAi hci (by omega))
    rw [← hC] at R
    clear hb1 hz1 hL hC hC32 hbt HL1 h60 hc hA hAi
    go_enter Tryd.func11, Tryd.ntmps11
    go_upto_region 4 with fail
    rw [← hw1]
    clear hw1
    go_wp2_with (go_at_call 25; refine stop ?_)
    unfold Stop
    refine R.out.mono ?_
    rintro e w2 ⟨rfl, hb3⟩
    have HA := Lib.hid (heap_below hb3 HZ1.out)
    have HB3 := Lib.hid (HB1.out.trans (hb3.mono HB1.out.size))
    clear hb3
    go_wp2_with (refine wpList_store_row rfl _ _ _ rfl w.heap.size C rfl rfl _ ZId HA.out H1.out H2.out H3.out ?_)
    have hA2 := setRow_heap w2 w.heap.size ZId C 26 (0, 0) HA.out
    refine bodyPost_ret (v := .agg C) ?_ rfl ⟨rfl, below_setRow HB3.out (Nat.le_refl _) C⟩
    exact results_cell_row Tryd.results11 _ _ w.heap.size _ C (0, 0) _ rfl hA2 Tryd.underlying26 rfl H1.out
  · simp at h2
set_option maxRecDepth 100000 in
set_option maxHeartbeats 2000000 in
theorem rroot_any : ∀ (N : Nat) (ls : List (List B8)), ls.length ≤ N → ls.length ≤ 1000000 → (∀ xs ∈ ls, xs.length ≤ 1000000) → ∀ (A : Option Addr) (c : Nat) (w : World), LstN w A ls → ls.length ≤ c → (A = none → c = 0) →
    Calls Tryd.prog 11 #[.slice A ls.length c] w fun e w' => e = .returned (.agg ((rootD ls).map bv).toArray) ∧ Below w.heap.size w w' := by
  intro N
  induction N with
  | zero =>
    intro ls hN hm h60 A c w hL hc hA
    exact rroot_small ls (by omega) h60 A c w hL hc hA
  | succ N ih =>
    intro ls hN hm h60 A c w hL hc hA
    by_cases h2 : 2 ≤ ls.length
    · have hh := hp_lt h2
      have hh1 := hp_pos ls.length
      have F := Lib.hid (fun w => half_any ls.length w h2 (by omega))
      have eR := rootD_more h2
      have sh := slicel_hi A ls.length c (hp ls.length) (by omega) hc
      have sl := slicel_lo A ls.length c (hp ls.length) (by omega)
      have lk : (ls.take (hp ls.length)).length = hp ls.length := by simp; omega
      have ld : (ls.drop (hp ls.length)).length = ls.length - hp ls.length := by simp
      have R1 := Lib.hid (fun (w : World) (hL : LstN w A ls) => ih (ls.take (hp ls.length)) (by omega) (by omega) (fun xs hx => h60 xs (List.mem_of_mem_take hx)) A c w (hL.front _) (by omega) hA)
      have R2 := Lib.hid (fun (w : World) (hL : LstN w A ls) => ih (ls.drop (hp ls.length)) (by omega) (by omega) (fun xs hx => h60 xs (List.mem_of_mem_drop hx)) (cutA A c (hp ls.length)) (c - hp ls.length) w (hL.cut c _ hc) (by omega) (cutA_none hA))
      rw [lk] at R1
      rw [ld] at R2
      have J := Lib.hid (fun w => rnode_any (rootD (ls.take (hp ls.length))) (rootD (ls.drop (hp ls.length))) w (rootD_len _) (rootD_len _))
      rw [← eR] at J
      obtain ⟨C1, hC1⟩ : ∃ C, C = ((rootD (ls.take (hp ls.length))).map bv).toArray := ⟨_, rfl⟩
      obtain ⟨C2, hC2⟩ : ∃ C, C = ((rootD (ls.drop (hp ls.length))).map bv).toArray := ⟨_, rfl⟩
      obtain ⟨C, hC⟩ : ∃ C, C = ((rootD ls).map bv).toArray := ⟨_, rfl⟩
      have hC32 : C.size = 32 := by rw [hC]; simp [rootD_len]
      have H3 := Lib.hid (show C.all (·.oneCell') = true by rw [hC]; exact bvs_one _)
      have H1 := Lib.hid (show (Tryd.prog.info? 26).map (·.size) = some C.size by rw [hC32]; kernel_rfl)
      have H2 := Lib.hid (show ZId.size = C.size by rw [hC32]; rfl)
      rw [← hC1] at R1 J
      rw [← hC2] at R2 J
      rw [← hC] at J ⊢
      have HL := Lib.hid hL
      have HA := Lib.hid hA
      clear hC hC1 hC2 hC32 eR lk ld hL hA ih h60 hN
      generalize hp ls.length = h at *
      go_enter Tryd.func11, Tryd.ntmps11
      go_wp2_with (go_at_call 26; refine (F.out _).mono ?_; rintro e w' ⟨rfl, rfl⟩)
      obtain ⟨w1, hw1⟩ : ∃ w1, w1 = w.alloc (.cells ZId 26) := ⟨_, rfl⟩
      have hb1 : Below w.heap.size w w1 := by rw [hw1]; exact (Below.refl _ _).alloc (Nat.le_refl _) _
      have hz1 : w1.heap[w.heap.size]? = some (.cells ZId 26 (0, 0)) := by rw [hw1]; exact heap_alloc_new w _
      have HB1 := Lib.hid hb1
      have HZ1 := Lib.hid hz1
      have HL1 := Lib.hid (show LstN w1.drew A ls from HL.out.below hb1.drew)
      rw [← hw1]
      clear hb1 hz1 hw1
      refine wp_region_rel_tail 9 28 (by kernel_rfl) (by kernel_rfl) Stp [.one ?_, .one ?_, .one ?_, .one ?_, .one ?_, .one ?_, .one ?_, .one ?_, .one ?_] (by kernel_rfl) rfl (by kernel_rfl) Stp.refl Stp.trans trivial ?main
      case main =>
      simp only [List.take_succ_cons, List.take_zero, List.drop_succ_cons, List.drop_zero]
      iterate 3
        refine wpR_one (A' := ?_) Stp.refl (by rfl) _ rfl 28 (by rfl) (by rfl) ?_ ?_ ?_
        rotate_left 1
        · simp only [Act.put, List.setIfInBounds_toArray, List.set_cons_zero, List.set_cons_succ]; rfl
        · intro w1 hs hf K hK
          go_big_quiet_op
          first
            | go_big_quiet_on
            | (refine ⟨_, fun _ _ => rfl, ?_⟩; go_big_quiet_on)
          rfl
      refine wpR_one (A' := ?_) Stp.refl (by rfl) _ rfl 28 (by rfl) (by rfl) ?_ ?_ ?_
      rotate_left 1
      · simp only [Act.put, List.setIfInBounds_toArray, List.set_cons_zero, List.set_cons_succ]; rfl
      · intro w1 hs hf K hK
        have hl1 := Lib.hid (lstn_stp HL1.out hs)
        go_big_quiet_op
        apply Exists.intro
        refine ⟨fun w2 h2 => ?_, ?_⟩
        · refine (R1.out w2 (lstn_stp hl1.out h2)).mono ?_
          rintro e w3 ⟨rfl, h3⟩
          exact ⟨rfl, Stp.trans _ _ _ h2 h3⟩
        · go_big_quiet_on
          rfl
      iterate 3
        refine wpR_one (A' := ?_) Stp.refl (by rfl) _ rfl 28 (by rfl) (by rfl) ?_ ?_ ?_
        rotate_left 1
        · simp only [Act.put, List.setIfInBounds_toArray, List.set_cons_zero, List.set_cons_succ]; rfl
        · intro w1 hs hf K hK
          go_big_quiet_op
          first
            | go_big_quiet_on
            | (refine ⟨_, fun _ _ => rfl, ?_⟩; go_big_quiet_on)
          rfl
      refine wpR_one (A' := ?_) Stp.refl (by rfl) _ rfl 28 (by rfl) (by rfl) ?_ ?_ ?_
      rotate_left 1
      · simp only [Act.put, List.setIfInBounds_toArray, List.set_cons_zero, List.set_cons_succ]; rfl
      · intro w1 hs hf K hK
        have hl1 := Lib.hid (lstn_stp HL1.out hs)
        go_big_quiet_op
        apply Exists.intro
        refine ⟨fun w2 h2 => ?_, ?_⟩
        · refine (R2.out w2 (lstn_stp hl1.out h2)).mono ?_
          rintro e w3 ⟨rfl, h3⟩
          exact ⟨rfl, Stp.trans _ _ _ h2 h3⟩
        · go_big_quiet_on
          rfl
      refine wpR_one (A' := ?_) Stp.refl (by rfl) _ rfl 28 (by rfl) (by rfl) ?_ ?_ ?_
      rotate_left 1
      · simp only [Act.put, List.setIfInBounds_toArray, List.set_cons_zero, List.set_cons_succ]; rfl
      · intro w1 hs hf K hK
        have hl1 := Lib.hid (lstn_stp HL1.out hs)
        go_big_quiet_op
        apply Exists.intro
        refine ⟨fun w2 h2 => ?_, ?_⟩
        · refine (J.out w2).mono ?_
          rintro e w3 ⟨rfl, h3⟩
          exact ⟨rfl, Stp.trans _ _ _ h2 h3⟩
        · go_big_quiet_on
          rfl
      intro w9 hs hf
      have HB9 := Lib.hid (stp_start hs HB1.out)
      have HZ9 := Lib.hid (heap_below hs HZ1.out)
      clear hs hf
      go_wp2_with (refine wpList_store_row rfl _ _ _ rfl w.heap.size C rfl rfl _ ZId HZ9.out H1.out H2.out H3.out ?_)
      have hA2 := setRow_heap w9 w.heap.size ZId C 26 (0, 0) HZ9.out
      refine bodyPost_ret (v := .agg C) ?_ rfl ⟨rfl, below_setRow HB9.out (Nat.le_refl _) C⟩
      exact results_cell_row Tryd.results11 _ _ w.heap.size _ C (0, 0) _ rfl hA2 Tryd.underlying26 rfl H1.out
    · exact rroot_small ls h2 h60 A c w hL hc hA
end Go.Proofs.YtppkjlmnnpfcfaaDoor
