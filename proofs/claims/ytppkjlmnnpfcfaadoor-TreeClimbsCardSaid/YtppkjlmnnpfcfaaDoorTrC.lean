/- The code's Root. -/
import Derived.Test.YtppkjlmnnpfcfaaDoorTrB
set_option linter.unusedVariables false
namespace Go.Proofs.YtppkjlmnnpfcfaaDoor
open Go.RowKit
theorem size_sl (w : World) : (sizeOf 32).run Tryd.prog w = .ok 1 w := by kernel_rfl
theorem slicel_hi (A : Option Addr) (len cap n : Nat) (h : n ≤ len) (hc : len ≤ cap) (w : World) : (Instr.slice 22 (.slice A len cap) none (some (.int .i64 (n : Int))) none).run Tryd.prog w = .ok (.slice A n cap) w := by
  rw [run_slice_h (P := Tryd.prog) w 22 A len cap (by kernel_rfl) .i64 (n : Int) (by omega) (by omega)]
  rw [show Tryd.prog.elem 22 = 32 by kernel_rfl, size_sl]
  simp [Result.andThen, sliced, Addr.add]
theorem slicel_lo (A : Option Addr) (len cap n : Nat) (h : n ≤ len) (w : World) : (Instr.slice 22 (.slice A len cap) (some (.int .i64 (n : Int))) none none).run Tryd.prog w = .ok (.slice (cutA A cap n) (len - n) (cap - n)) w := by
  rw [run_slice_l (P := Tryd.prog) w 22 A len cap (by kernel_rfl) .i64 (n : Int) (by omega) (by omega)]
  rw [show Tryd.prog.elem 22 = 32 by kernel_rfl, size_sl]
  simp [Result.andThen, sliced, cutA]
theorem Lst.front {w : World} {A : Option Addr} {ls : List (List B8)} (h : Lst w A ls) (n : Nat) : Lst w A (ls.take n) := fun i xs hi => by
  rw [List.getElem?_take] at hi
  split at hi
  · exact h i xs hi
  · cases hi
theorem Lst.cut {w : World} {A : Option Addr} {ls : List (List B8)} (h : Lst w A ls) (cap n : Nat) (hc : ls.length ≤ cap) : Lst w (cutA A cap n) (ls.drop n) := fun i xs hi => by
  rw [List.getElem?_drop] at hi
  obtain ⟨ad, Ai, ci, rfl, hcl, h1, h2⟩ := h (n + i) xs hi
  have hlt := (List.getElem?_eq_some_iff.1 hi).1
  refine ⟨ad.add n, Ai, ci, ?_, by rw [add_add]; exact hcl, h1, h2⟩
  unfold cutA
  rw [if_neg (by omega)]; rfl
theorem under_zero : underB 0 [] = [0] := rfl
set_option maxRecDepth 100000 in
set_option maxHeartbeats 2000000 in
theorem root_small (ls : List (List B8)) (h2 : ¬ 2 ≤ ls.length) (h60 : ∀ xs ∈ ls, xs.length ≤ 1000000) (A : Option Addr) (c : Nat) (w : World) (hL : Lst w A ls) (hc : ls.length ≤ c) (hG : Glob w) :
    Calls Tryd.prog 10 #[.slice A ls.length c] w fun e w' => e = .returned (.agg ((rootD ls).map bv).toArray) ∧ Below w.heap.size w w' := by
  obtain ⟨C, hC⟩ : ∃ C, C = ((rootD ls).map bv).toArray := ⟨_, rfl⟩
  have hC32 : C.size = 32 := by rw [hC]; simp [rootD_len]
  have H3 := Lib.hid (show C.all (·.oneCell') = true by rw [hC]; exact bvs_one _)
  have H1 := Lib.hid (show (Tryd.prog.info? 26).map (·.size) = some C.size by rw [hC32]; kernel_rfl)
  have H2 := Lib.hid (show ZId.size = C.size by rw [hC32]; rfl)
  obtain ⟨w1, hw1⟩ : ∃ w1, w1 = w.alloc (.cells ZId 26) := ⟨_, rfl⟩
  have hb1 : Below w.heap.size w w1 := by rw [hw1]; exact (Below.refl _ _).alloc (Nat.le_refl _) _
  have hz1 : w1.heap[w.heap.size]? = some (.cells ZId 26 (0, 0)) := by rw [hw1]; exact heap_alloc_new w _
  have HB1 := Lib.hid hb1
  have HZ1 := Lib.hid hz1
  have HG1 := Lib.hid (show Glob w1 from hG.below hb1 hG.1)
  have HL1 := hL.below hb1
  rw [← hC]
  rcases ls with _ | ⟨x, _ | ⟨y, l⟩⟩
  · have U := Lib.hid (under_any 0 none 0 [] w1 (fun i xs hi => by simp at hi) HG1.out (by decide) (by decide))
    rw [under_zero] at U
    rw [rootD_nil] at hC
    rw [← hC] at U
    clear hb1 hz1 hL hG hC hC32
    go_enter Tryd.func10, Tryd.ntmps10
    go_wp2_with (go_at_call 20; refine stop ?_)
    unfold Stop
    rw [← hw1]
    refine U.out.mono ?_
    rintro e w2 ⟨rfl, hb3⟩
    have HA := Lib.hid (heap_below hb3 HZ1.out)
    have HB3 := Lib.hid (HB1.out.trans (hb3.mono HB1.out.size))
    clear hb3
    go_wp2_with (refine wpList_store_row rfl _ _ _ rfl w.heap.size C rfl rfl _ ZId HA.out H1.out H2.out H3.out ?_)
    have hA2 := setRow_heap w2 w.heap.size ZId C 26 (0, 0) HA.out
    refine bodyPost_ret (v := .agg C) ?_ rfl ⟨rfl, below_setRow HB3.out (Nat.le_refl _) C⟩
    exact results_cell_row Tryd.results10 _ _ w.heap.size _ C (0, 0) _ rfl hA2 Tryd.underlying26 rfl H1.out
  · rw [rootD_one] at hC
    obtain ⟨ad, Ai, ci, rfl, hcl, hci, hbt⟩ := HL1 0 x rfl
    have e0 : ad.add 0 = ad := by unfold Addr.add; simp
    rw [e0] at hcl
    have h60' := h60 x (by simp)
    have R := Lib.hid (rootOfOne_any Ai ci x w1 hbt hci HG1.out (by omega))
    rw [← hC] at R
    clear hb1 hz1 hL hG hC hC32 hbt HL1 h60 hc
    go_enter Tryd.func10, Tryd.ntmps10
    go_upto_region 5 with fail
    rw [← hw1]
    clear hw1
    go_wp2_with (go_at_call 21; refine stop ?_)
    unfold Stop
    refine R.out.mono ?_
    rintro e w2 ⟨rfl, hb3⟩
    have HA := Lib.hid (heap_below hb3 HZ1.out)
    have HB3 := Lib.hid (HB1.out.trans (hb3.mono HB1.out.size))
    clear hb3
    go_wp2_with (refine wpList_store_row rfl _ _ _ rfl w.heap.size C rfl rfl _ ZId HA.out H1.out H2.out H3.out ?_)
    have hA2 := setRow_heap w2 w.heap.size ZId C 26 (0, 0) HA.out
    refine bodyPost_ret (v := .agg C) ?_ rfl ⟨rfl, below_setRow HB3.out (Nat.le_refl _) C⟩
    exact results_cell_row Tryd.results10 _ _ w.heap.size _ C (0, 0) _ rfl hA2 Tryd.underlying26 rfl H1.out
  · simp at h2
set_option maxRecDepth 100000 in
set_option maxHeartbeats 2000000 in
theorem root_any : ∀ (N : Nat) (ls : List (List B8)), ls.length ≤ N → ls.length ≤ 1000000 → (∀ xs ∈ ls, xs.length ≤ 1000000) → ∀ (A : Option Addr) (c : Nat) (w : World), Lst w A ls → ls.length ≤ c → Glob w →
    Calls Tryd.prog 10 #[.slice A ls.length c] w fun e w' => e = .returned (.agg ((rootD ls).map bv).toArray) ∧ Below w.heap.size w w' := by
  intro N
  induction N with
  | zero =>
    intro ls hN hm h60 A c w hL hc hG
    exact root_small ls (by omega) h60 A c w hL hc hG
  | succ N ih =>
    intro ls hN hm h60 A c w hL hc hG
    by_cases h2 : 2 ≤ ls.length
    · have hh := hp_lt h2
      have hh1 := hp_pos ls.length
      have F := Lib.hid (fun w => firstOnes_any ls.length w h2 (by omega))
      have eR := rootD_more h2
      have sh := slicel_hi A ls.length c (hp ls.length) (by omega) hc
      have sl := slicel_lo A ls.length c (hp ls.length) (by omega)
      have lk : (ls.take (hp ls.length)).length = hp ls.length := by simp; omega
      have ld : (ls.drop (hp ls.length)).length = ls.length - hp ls.length := by simp
      have R1 := Lib.hid (fun (w : World) (hL : Lst w A ls) (hG : Glob w) => ih (ls.take (hp ls.length)) (by omega) (by omega) (fun xs hx => h60 xs (List.mem_of_mem_take hx)) A c w (hL.front _) (by omega) hG)
      have R2 := Lib.hid (fun (w : World) (hL : Lst w A ls) (hG : Glob w) => ih (ls.drop (hp ls.length)) (by omega) (by omega) (fun xs hx => h60 xs (List.mem_of_mem_drop hx)) (cutA A c (hp ls.length)) (c - hp ls.length) w (hL.cut c _ hc) (by omega) hG)
      rw [lk] at R1
      rw [ld] at R2
      have J := Lib.hid (fun w hG => joined_any (rootD (ls.take (hp ls.length))) (rootD (ls.drop (hp ls.length))) w (rootD_len _) (rootD_len _) hG)
      rw [← eR] at J
      obtain ⟨C1, hC1⟩ : ∃ C, C = ((rootD (ls.take (hp ls.length))).map bv).toArray := ⟨_, rfl⟩
      obtain ⟨C2, hC2⟩ : ∃ C, C = ((rootD (ls.drop (hp ls.length))).map bv).toArray := ⟨_, rfl⟩
      obtain ⟨C, hC⟩ : ∃ C, C = ((rootD ls).map bv).toArray := ⟨_, rfl⟩
      have hC32 : C.size = 32 := by rw [hC]; simp [rootD_len]
      have H3 := Lib.hid (show C.all (·.oneCell') = true by rw [hC]; exact bvs_one _)
      have H1 := Lib.hid (show (Tryd.prog.info? 26).map (·.size) = some C.size by rw [hC32]; kernel_rfl)
      have H2 := Lib.hid (show ZId.size = C.size by rw [hC32]; rfl)
      rw [← hC1] at R1 J
      rw [← hC2] at R2 J
      rw [← hC] at J ⊢
      have HL := Lib.hid hL
      have HG := Lib.hid hG
      clear hC hC1 hC2 hC32 eR lk ld hL hG ih h60 hN
      generalize hp ls.length = h at *
      go_enter Tryd.func10, Tryd.ntmps10
      go_wp2_with (go_at_call 22; refine (F.out _).mono ?_; rintro e w' ⟨rfl, rfl⟩)
      obtain ⟨w1, hw1⟩ : ∃ w1, w1 = w.alloc (.cells ZId 26) := ⟨_, rfl⟩
      have hb1 : Below w.heap.size w w1 := by rw [hw1]; exact (Below.refl _ _).alloc (Nat.le_refl _) _
      have hz1 : w1.heap[w.heap.size]? = some (.cells ZId 26 (0, 0)) := by rw [hw1]; exact heap_alloc_new w _
      have HB1 := Lib.hid hb1
      have HZ1 := Lib.hid hz1
      have HL1 := Lib.hid (show Lst w1.drew A ls from HL.out.below hb1.drew)
      have HG1 := Lib.hid (show Glob w1.drew from HG.out.below hb1.drew HG.out.1)
      rw [← hw1]
      clear hb1 hz1 hw1
      refine wp_region_rel_tail 9 27 (by kernel_rfl) (by kernel_rfl) Stp [.one ?_, .one ?_, .one ?_, .one ?_, .one ?_, .one ?_, .one ?_, .one ?_, .one ?_] (by kernel_rfl) rfl (by kernel_rfl) Stp.refl Stp.trans trivial ?main
      case main =>
      simp only [List.take_succ_cons, List.take_zero, List.drop_succ_cons, List.drop_zero]
      iterate 3
        refine wpR_one (A' := ?_) Stp.refl (by rfl) _ rfl 27 (by rfl) (by rfl) ?_ ?_ ?_
        rotate_left 1
        · simp only [Act.put, List.setIfInBounds_toArray, List.set_cons_zero, List.set_cons_succ]; rfl
        · intro w1 hs hf K hK
          go_big_quiet_op
          first
            | go_big_quiet_on
            | (refine ⟨_, fun _ _ => rfl, ?_⟩; go_big_quiet_on)
          rfl
      refine wpR_one (A' := ?_) Stp.refl (by rfl) _ rfl 27 (by rfl) (by rfl) ?_ ?_ ?_
      rotate_left 1
      · simp only [Act.put, List.setIfInBounds_toArray, List.set_cons_zero, List.set_cons_succ]; rfl
      · intro w1 hs hf K hK
        have hg1 := Lib.hid (glob_stp HG1.out hs)
        have hl1 := Lib.hid (lst_stp HL1.out hs)
        go_big_quiet_op
        apply Exists.intro
        refine ⟨fun w2 h2 => ?_, ?_⟩
        · refine (R1.out w2 (lst_stp hl1.out h2) (glob_stp hg1.out h2)).mono ?_
          rintro e w3 ⟨rfl, h3⟩
          exact ⟨rfl, Stp.trans _ _ _ h2 h3⟩
        · go_big_quiet_on
          rfl
      iterate 3
        refine wpR_one (A' := ?_) Stp.refl (by rfl) _ rfl 27 (by rfl) (by rfl) ?_ ?_ ?_
        rotate_left 1
        · simp only [Act.put, List.setIfInBounds_toArray, List.set_cons_zero, List.set_cons_succ]; rfl
        · intro w1 hs hf K hK
          go_big_quiet_op
          first
            | go_big_quiet_on
            | (refine ⟨_, fun _ _ => rfl, ?_⟩; go_big_quiet_on)
          rfl
      refine wpR_one (A' := ?_) Stp.refl (by rfl) _ rfl 27 (by rfl) (by rfl) ?_ ?_ ?_
      rotate_left 1
      · simp only [Act.put, List.setIfInBounds_toArray, List.set_cons_zero, List.set_cons_succ]; rfl
      · intro w1 hs hf K hK
        have hg1 := Lib.hid (glob_stp HG1.out hs)
        have hl1 := Lib.hid (lst_stp HL1.out hs)
        go_big_quiet_op
        apply Exists.intro
        refine ⟨fun w2 h2 => ?_, ?_⟩
        · refine (R2.out w2 (lst_stp hl1.out h2) (glob_stp hg1.out h2)).mono ?_
          rintro e w3 ⟨rfl, h3⟩
          exact ⟨rfl, Stp.trans _ _ _ h2 h3⟩
        · go_big_quiet_on
          rfl
      refine wpR_one (A' := ?_) Stp.refl (by rfl) _ rfl 27 (by rfl) (by rfl) ?_ ?_ ?_
      rotate_left 1
      · simp only [Act.put, List.setIfInBounds_toArray, List.set_cons_zero, List.set_cons_succ]; rfl
      · intro w1 hs hf K hK
        have hg1 := Lib.hid (glob_stp HG1.out hs)
        have hl1 := Lib.hid (lst_stp HL1.out hs)
        go_big_quiet_op
        apply Exists.intro
        refine ⟨fun w2 h2 => ?_, ?_⟩
        · refine (J.out w2 (glob_stp hg1.out h2)).mono ?_
          rintro e w3 ⟨rfl, h3⟩
          exact ⟨rfl, Stp.trans _ _ _ h2 h3⟩
        · go_big_quiet_on
          rfl
      intro w9 hs hf
      have HB9 := Lib.hid (stp_start hs HB1.out)
      have HZ9 := Lib.hid (heap_below hs HZ1.out)
      clear hs hf
      go_wp2_with (refine wpList_store_row rfl _ _ _ rfl w.heap.size C rfl rfl _ ZId HZ9.out H1.out H2.out H3.out ?_)
      have hA2 := setRow_heap w9 w.heap.size ZId C 26 (0, 0) HZ9.out
      refine bodyPost_ret (v := .agg C) ?_ rfl ⟨rfl, below_setRow HB9.out (Nat.le_refl _) C⟩
      exact results_cell_row Tryd.results10 _ _ w.heap.size _ C (0, 0) _ rfl hA2 Tryd.underlying26 rfl H1.out
    · exact root_small ls h2 h60 A c w hL hc hG
end Go.Proofs.YtppkjlmnnpfcfaaDoor
