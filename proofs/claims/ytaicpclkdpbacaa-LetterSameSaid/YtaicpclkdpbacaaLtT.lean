/- The landed letter: Right. -/
import Derived.Test.YtaicpclkdpbacaaLtRX
set_option linter.unusedVariables false
set_option linter.unusedSimpArgs false
namespace Go.Proofs.Ytaicpclkdpbacaa
open Go.RowKit
theorem LBx.range {w : World} {g : Nat} {A S : Option Addr} {cA cS : Nat} {l : Ltr} (h : LBx w g A cA S cS l) : w.rangeAt g 0 (ltC A cA S cS l).toList := fun j v hj => by
  rw [cell_of_row w g _ _ _ _ h, Nat.zero_add, ← Array.getElem?_toList]; exact hj
theorem used_at {w : World} {N : Nat → Prop} {A S : Option Addr} {cA cS : Nat} {l : Ltr} (h : LtN w N A cA S cS l) : LtN w N (uA l A) (uc l 3 cA) (uS l S) (uc l 5 cS) (usedL l) := by
  have z0 : i64R 0 := ⟨by decide, by decide⟩
  have e0 : ItN w N none [] := fun i p hi => by simp at hi
  have e1 : BtN w N none 0 [] := ⟨fun j u hu => by simp at hu, fun _ => rfl, by simp⟩
  have e2 : ([] : List Itm).length ≤ maxLen := by simp
  have e3 : ([] : List B8).length ≤ maxLen := by simp
  unfold usedL uA uS uc
  by_cases h1 : l.k = 1
  · rw [h1]; exact ⟨e0, fun _ => rfl, Nat.zero_le _, e2, e1, e3, show i64R 1 from ⟨by decide, by decide⟩, h.t, h.x, h.y, z0⟩
  by_cases h2 : l.k = 2
  · rw [h2]; exact ⟨e0, fun _ => rfl, Nat.zero_le _, e2, e1, e3, show i64R 2 from ⟨by decide, by decide⟩, h.t, z0, z0, z0⟩
  by_cases h3 : l.k = 3
  · rw [h3]; exact ⟨h.its, h.ia, h.ic, h.im, e1, e3, show i64R 3 from ⟨by decide, by decide⟩, h.t, h.x, h.y, h.z⟩
  by_cases h4 : l.k = 4
  · rw [h4]; exact ⟨e0, fun _ => rfl, Nat.zero_le _, e2, e1, e3, show i64R 4 from ⟨by decide, by decide⟩, h.t, h.x, z0, h.z⟩
  by_cases h5 : l.k = 5
  · rw [h5]; exact ⟨e0, fun _ => rfl, Nat.zero_le _, e2, h.b, h.bm, show i64R 5 from ⟨by decide, by decide⟩, h.t, h.x, h.y, z0⟩
  · rw [if_neg h1, if_neg h2, if_neg h3, if_neg h4, if_neg h5, if_neg h3, if_neg h3, if_neg h5, if_neg h5]
    exact ⟨e0, fun _ => rfl, Nat.zero_le _, e2, e1, e3, h.k, h.t, z0, z0, z0⟩
set_option maxRecDepth 100000 in
set_option maxHeartbeats 8000000 in
theorem right_any (A S : Option Addr) (cA cS : Nat) (N : Nat → Prop) (l : Ltr) (w : World) (h : LtN w N A cA S cS l) :
    Calls Try.prog 11 #[ltV A cA S cS l] w fun e w' => e = .returned (.bool (okL l)) ∧ Turn (fun _ => False) w w' := by
  obtain ⟨g, hg⟩ : ∃ g, g = w.heap.size := ⟨_, rfl⟩
  obtain ⟨w0, hw0⟩ : ∃ w0, w0 = w.alloc (.cells (ltC A cA S cS l) 25) := ⟨_, rfl⟩
  have hT0 : Turn (fun _ => False) w w0 := by rw [hw0]; exact (Turn.refl _ _).alloc _
  have hg0 : LBx w0 g A cA S cS l := by rw [hw0, hg]; exact LBx.new _ _ _ _ _ _
  have HGT := Lib.hid (fun (w2 : World) (T : Turn (fun _ => False) w0 w2) => hg0.turn T (fun h => h))
  have CBd := Lib.hid (fun (w2 : World) (T : Turn (fun _ => False) w0 w2) => bounded_any A S cA cS N l w2 ((h.quiet hT0).quiet T))
  have CU := Lib.hid (fun (w2 : World) => used_any A S cA cS l w2)
  have CS := Lib.hid (fun (w2 : World) (T : Turn (fun _ => False) w0 w2) => same_any A S (uA l A) (uS l S) cA cS (uc l 3 cA) (uc l 5 cS) N N l (usedL l) w2 ((h.quiet hT0).quiet T) (used_at ((h.quiet hT0).quiet T)))
  have HT0 := Lib.hid hT0
  have HK := Lib.hid (ok_used l)
  have HGG := Lib.hid hg
  generalize okL l = R at *
  generalize bdB l = B at *
  generalize sameL l (usedL l) = D at *
  generalize usedL l = u at *
  generalize uA l A = A' at *
  generalize uS l S = S' at *
  generalize uc l 3 cA = cA' at *
  generalize uc l 5 cS = cS' at *
  clear h hT0 hg0
  by_cases h1 : 1 ≤ l.k
  rotate_left
  · have g1 : decide ((1 : Int) ≤ l.k) = false := decide_eq_false h1
    have HR := Lib.hid (show false = R by rw [HK.out, g1]; rfl)
    clear h1 HK CBd CU CS
    go_enter Try.func11, Try.ntmps11
    go_upto_region 1 with fail
    change Code.wp _ _ _ _ (w.alloc (.cells (ltC A cA S cS l) 25))
    rw [← hw0, ← hg]
    clear hw0 hg
    refine wp_region_rel 21 Stp [.one ?_, .one ?_, .one ?_, .one ?_, .one undef, .one undef, .one undef, .one ?_, .one ?_, .one undef, .one undef, .one ?_, .one ?_, .one undef, .one undef, .one undef, .one undef, .one ?_, .one ?_] (by kernel_rfl) (by kernel_rfl) rfl (by kernel_rfl) Stp.refl Stp.trans trivial ?main
    case main =>
      iterate 1
        refine wpR_one (A' := ?_) Stp.refl (by rfl) _ rfl 21 (by rfl) (by rfl) ?_ ?_ ?_
        rotate_left 1
        · simp only [Act.put, List.setIfInBounds_toArray, List.set_cons_zero, List.set_cons_succ]; rfl
        · intro w1 hs hf K hK
          go_big_quiet_op
          first
            | go_big_quiet_on
            | (refine ⟨_, fun _ _ => rfl, ?_⟩; go_big_quiet_on)
          rfl
      refine wpR_one (A' := ?_) Stp.refl (by rfl) _ rfl 21 (by rfl) (by rfl) ?_ ?_ ?_
      rotate_left 1
      · simp only [Act.put, List.setIfInBounds_toArray, List.set_cons_zero, List.set_cons_succ]; rfl
      · intro w1 hs hf K hK
        refine cls_load_cell 3 (.tmp 3) rfl ⟨g, 0, none⟩ rfl (.int .i64 l.k) (fun w h => by simp [go_sem, h]) (fun w2 h2 => (HGT.out w2 (Turn.of_below (stp_start (Stp.trans _ _ _ hs h2) (Below.refl _ _)))).cells.1) ?_
        refine hK _ ?_
        simp only [Act.put, List.setIfInBounds_toArray, List.set_cons_zero, List.set_cons_succ]
        rfl
      iterate 2
        refine wpR_one (A' := ?_) Stp.refl (by rfl) _ rfl 21 (by rfl) (by rfl) ?_ ?_ ?_
        rotate_left 1
        · simp only [Act.put, List.setIfInBounds_toArray, List.set_cons_zero, List.set_cons_succ]; rfl
        · intro w1 hs hf K hK
          go_big_quiet_op
          first
            | go_big_quiet_on
            | (refine ⟨_, fun _ _ => rfl, ?_⟩; go_big_quiet_on)
          rfl
      iterate 3
        refine wpR_skip (A' := ?_) (by rfl) ?_ ?_
        rotate_left 1
        · simp only [Act.put, List.setIfInBounds_toArray, List.set_cons_zero, List.set_cons_succ]; rfl
      iterate 2
        refine wpR_one (A' := ?_) Stp.refl (by rfl) _ rfl 21 (by rfl) (by rfl) ?_ ?_ ?_
        rotate_left 1
        · simp only [Act.put, List.setIfInBounds_toArray, List.set_cons_zero, List.set_cons_succ]; rfl
        · intro w1 hs hf K hK
          go_big_quiet_op
          first
            | go_big_quiet_on
            | (refine ⟨_, fun _ _ => rfl, ?_⟩; go_big_quiet_on)
          rfl
      iterate 2
        refine wpR_skip (A' := ?_) (by rfl) ?_ ?_
        rotate_left 1
        · simp only [Act.put, List.setIfInBounds_toArray, List.set_cons_zero, List.set_cons_succ]; rfl
      iterate 2
        refine wpR_one (A' := ?_) Stp.refl (by rfl) _ rfl 21 (by rfl) (by rfl) ?_ ?_ ?_
        rotate_left 1
        · simp only [Act.put, List.setIfInBounds_toArray, List.set_cons_zero, List.set_cons_succ]; rfl
        · intro w1 hs hf K hK
          go_big_quiet_op
          first
            | go_big_quiet_on
            | (refine ⟨_, fun _ _ => rfl, ?_⟩; go_big_quiet_on)
          rfl
      iterate 4
        refine wpR_skip (A' := ?_) (by rfl) ?_ ?_
        rotate_left 1
        · simp only [Act.put, List.setIfInBounds_toArray, List.set_cons_zero, List.set_cons_succ]; rfl
      iterate 2
        refine wpR_one (A' := ?_) Stp.refl (by rfl) _ rfl 21 (by rfl) (by rfl) ?_ ?_ ?_
        rotate_left 1
        · simp only [Act.put, List.setIfInBounds_toArray, List.set_cons_zero, List.set_cons_succ]; rfl
        · intro w1 hs hf K hK
          go_big_quiet_op
          first
            | go_big_quiet_on
            | (refine ⟨_, fun _ _ => rfl, ?_⟩; go_big_quiet_on)
          rfl
      intro w9 hs hf
      have T9 := Lib.hid (show Turn (fun _ => False) w0 w9 from Turn.of_below (stp_start hs (Below.refl _ _)))
      clear hs hf
      go_wp2_with fail
      go_ret
      exact ⟨ret_bool HR.out, HT0.out.trans T9.out (fun _ _ h => h)⟩
  by_cases h2 : l.k ≤ 5
  rotate_left
  · have g1 : decide ((1 : Int) ≤ l.k) = true := decide_eq_true h1
    have g2 : decide (l.k ≤ 5) = false := decide_eq_false h2
    have HR := Lib.hid (show false = R by rw [HK.out, g1, g2]; rfl)
    clear h1 h2 HK CBd CU CS
    go_enter Try.func11, Try.ntmps11
    go_upto_region 1 with fail
    change Code.wp _ _ _ _ (w.alloc (.cells (ltC A cA S cS l) 25))
    rw [← hw0, ← hg]
    clear hw0 hg
    refine wp_region_rel 21 Stp [.one ?_, .one ?_, .one ?_, .one ?_, .one ?_, .one ?_, .one ?_, .one ?_, .one ?_, .one undef, .one undef, .one ?_, .one ?_, .one undef, .one undef, .one undef, .one undef, .one ?_, .one ?_] (by kernel_rfl) (by kernel_rfl) rfl (by kernel_rfl) Stp.refl Stp.trans trivial ?main
    case main =>
      iterate 1
        refine wpR_one (A' := ?_) Stp.refl (by rfl) _ rfl 21 (by rfl) (by rfl) ?_ ?_ ?_
        rotate_left 1
        · simp only [Act.put, List.setIfInBounds_toArray, List.set_cons_zero, List.set_cons_succ]; rfl
        · intro w1 hs hf K hK
          go_big_quiet_op
          first
            | go_big_quiet_on
            | (refine ⟨_, fun _ _ => rfl, ?_⟩; go_big_quiet_on)
          rfl
      refine wpR_one (A' := ?_) Stp.refl (by rfl) _ rfl 21 (by rfl) (by rfl) ?_ ?_ ?_
      rotate_left 1
      · simp only [Act.put, List.setIfInBounds_toArray, List.set_cons_zero, List.set_cons_succ]; rfl
      · intro w1 hs hf K hK
        refine cls_load_cell 3 (.tmp 3) rfl ⟨g, 0, none⟩ rfl (.int .i64 l.k) (fun w h => by simp [go_sem, h]) (fun w2 h2 => (HGT.out w2 (Turn.of_below (stp_start (Stp.trans _ _ _ hs h2) (Below.refl _ _)))).cells.1) ?_
        refine hK _ ?_
        simp only [Act.put, List.setIfInBounds_toArray, List.set_cons_zero, List.set_cons_succ]
        rfl
      iterate 2
        refine wpR_one (A' := ?_) Stp.refl (by rfl) _ rfl 21 (by rfl) (by rfl) ?_ ?_ ?_
        rotate_left 1
        · simp only [Act.put, List.setIfInBounds_toArray, List.set_cons_zero, List.set_cons_succ]; rfl
        · intro w1 hs hf K hK
          go_big_quiet_op
          first
            | go_big_quiet_on
            | (refine ⟨_, fun _ _ => rfl, ?_⟩; go_big_quiet_on)
          rfl
      iterate 1
        refine wpR_one (A' := ?_) Stp.refl (by rfl) _ rfl 21 (by rfl) (by rfl) ?_ ?_ ?_
        rotate_left 1
        · simp only [Act.put, List.setIfInBounds_toArray, List.set_cons_zero, List.set_cons_succ]; rfl
        · intro w1 hs hf K hK
          go_big_quiet_op
          first
            | go_big_quiet_on
            | (refine ⟨_, fun _ _ => rfl, ?_⟩; go_big_quiet_on)
          rfl
      refine wpR_one (A' := ?_) Stp.refl (by rfl) _ rfl 21 (by rfl) (by rfl) ?_ ?_ ?_
      rotate_left 1
      · simp only [Act.put, List.setIfInBounds_toArray, List.set_cons_zero, List.set_cons_succ]; rfl
      · intro w1 hs hf K hK
        refine cls_load_cell 3 (.tmp 7) rfl ⟨g, 0, none⟩ rfl (.int .i64 l.k) (fun w h => by simp [go_sem, h]) (fun w2 h2 => (HGT.out w2 (Turn.of_below (stp_start (Stp.trans _ _ _ hs h2) (Below.refl _ _)))).cells.1) ?_
        refine hK _ ?_
        simp only [Act.put, List.setIfInBounds_toArray, List.set_cons_zero, List.set_cons_succ]
        rfl
      iterate 1
        refine wpR_one (A' := ?_) Stp.refl (by rfl) _ rfl 21 (by rfl) (by rfl) ?_ ?_ ?_
        rotate_left 1
        · simp only [Act.put, List.setIfInBounds_toArray, List.set_cons_zero, List.set_cons_succ]; rfl
        · intro w1 hs hf K hK
          go_big_quiet_op
          first
            | go_big_quiet_on
            | (refine ⟨_, fun _ _ => rfl, ?_⟩; go_big_quiet_on)
          rfl
      iterate 2
        refine wpR_one (A' := ?_) Stp.refl (by rfl) _ rfl 21 (by rfl) (by rfl) ?_ ?_ ?_
        rotate_left 1
        · simp only [Act.put, List.setIfInBounds_toArray, List.set_cons_zero, List.set_cons_succ]; rfl
        · intro w1 hs hf K hK
          go_big_quiet_op
          first
            | go_big_quiet_on
            | (refine ⟨_, fun _ _ => rfl, ?_⟩; go_big_quiet_on)
          rfl
      iterate 2
        refine wpR_skip (A' := ?_) (by rfl) ?_ ?_
        rotate_left 1
        · simp only [Act.put, List.setIfInBounds_toArray, List.set_cons_zero, List.set_cons_succ]; rfl
      iterate 2
        refine wpR_one (A' := ?_) Stp.refl (by rfl) _ rfl 21 (by rfl) (by rfl) ?_ ?_ ?_
        rotate_left 1
        · simp only [Act.put, List.setIfInBounds_toArray, List.set_cons_zero, List.set_cons_succ]; rfl
        · intro w1 hs hf K hK
          go_big_quiet_op
          first
            | go_big_quiet_on
            | (refine ⟨_, fun _ _ => rfl, ?_⟩; go_big_quiet_on)
          rfl
      iterate 4
        refine wpR_skip (A' := ?_) (by rfl) ?_ ?_
        rotate_left 1
        · simp only [Act.put, List.setIfInBounds_toArray, List.set_cons_zero, List.set_cons_succ]; rfl
      iterate 2
        refine wpR_one (A' := ?_) Stp.refl (by rfl) _ rfl 21 (by rfl) (by rfl) ?_ ?_ ?_
        rotate_left 1
        · simp only [Act.put, List.setIfInBounds_toArray, List.set_cons_zero, List.set_cons_succ]; rfl
        · intro w1 hs hf K hK
          go_big_quiet_op
          first
            | go_big_quiet_on
            | (refine ⟨_, fun _ _ => rfl, ?_⟩; go_big_quiet_on)
          rfl
      intro w9 hs hf
      have T9 := Lib.hid (show Turn (fun _ => False) w0 w9 from Turn.of_below (stp_start hs (Below.refl _ _)))
      clear hs hf
      go_wp2_with fail
      go_ret
      exact ⟨ret_bool HR.out, HT0.out.trans T9.out (fun _ _ h => h)⟩
  have g1 : decide ((1 : Int) ≤ l.k) = true := decide_eq_true h1
  have g2 : decide (l.k ≤ 5) = true := decide_eq_true h2
  have HR := Lib.hid (show (B && D) = R by rw [HK.out, g1, g2]; rfl)
  clear h1 h2 HK
  cases B with
  | false =>
    clear CU CS
    have HR := Lib.hid (show false = R from HR.out)
    go_enter Try.func11, Try.ntmps11
    go_upto_region 1 with fail
    change Code.wp _ _ _ _ (w.alloc (.cells (ltC A cA S cS l) 25))
    rw [← hw0, ← hg]
    clear hw0 hg
    refine wp_region_rel 21 Stp [.one ?_, .one ?_, .one ?_, .one ?_, .one ?_, .one ?_, .one ?_, .one ?_, .one ?_, .one ?_, .one ?_, .one ?_, .one ?_, .one undef, .one undef, .one undef, .one undef, .one ?_, .one ?_] (by kernel_rfl) (by kernel_rfl) rfl (by kernel_rfl) Stp.refl Stp.trans trivial ?main
    case main =>
      iterate 1
        refine wpR_one (A' := ?_) Stp.refl (by rfl) _ rfl 21 (by rfl) (by rfl) ?_ ?_ ?_
        rotate_left 1
        · simp only [Act.put, List.setIfInBounds_toArray, List.set_cons_zero, List.set_cons_succ]; rfl
        · intro w1 hs hf K hK
          go_big_quiet_op
          first
            | go_big_quiet_on
            | (refine ⟨_, fun _ _ => rfl, ?_⟩; go_big_quiet_on)
          rfl
      refine wpR_one (A' := ?_) Stp.refl (by rfl) _ rfl 21 (by rfl) (by rfl) ?_ ?_ ?_
      rotate_left 1
      · simp only [Act.put, List.setIfInBounds_toArray, List.set_cons_zero, List.set_cons_succ]; rfl
      · intro w1 hs hf K hK
        refine cls_load_cell 3 (.tmp 3) rfl ⟨g, 0, none⟩ rfl (.int .i64 l.k) (fun w h => by simp [go_sem, h]) (fun w2 h2 => (HGT.out w2 (Turn.of_below (stp_start (Stp.trans _ _ _ hs h2) (Below.refl _ _)))).cells.1) ?_
        refine hK _ ?_
        simp only [Act.put, List.setIfInBounds_toArray, List.set_cons_zero, List.set_cons_succ]
        rfl
      iterate 2
        refine wpR_one (A' := ?_) Stp.refl (by rfl) _ rfl 21 (by rfl) (by rfl) ?_ ?_ ?_
        rotate_left 1
        · simp only [Act.put, List.setIfInBounds_toArray, List.set_cons_zero, List.set_cons_succ]; rfl
        · intro w1 hs hf K hK
          go_big_quiet_op
          first
            | go_big_quiet_on
            | (refine ⟨_, fun _ _ => rfl, ?_⟩; go_big_quiet_on)
          rfl
      iterate 1
        refine wpR_one (A' := ?_) Stp.refl (by rfl) _ rfl 21 (by rfl) (by rfl) ?_ ?_ ?_
        rotate_left 1
        · simp only [Act.put, List.setIfInBounds_toArray, List.set_cons_zero, List.set_cons_succ]; rfl
        · intro w1 hs hf K hK
          go_big_quiet_op
          first
            | go_big_quiet_on
            | (refine ⟨_, fun _ _ => rfl, ?_⟩; go_big_quiet_on)
          rfl
      refine wpR_one (A' := ?_) Stp.refl (by rfl) _ rfl 21 (by rfl) (by rfl) ?_ ?_ ?_
      rotate_left 1
      · simp only [Act.put, List.setIfInBounds_toArray, List.set_cons_zero, List.set_cons_succ]; rfl
      · intro w1 hs hf K hK
        refine cls_load_cell 3 (.tmp 7) rfl ⟨g, 0, none⟩ rfl (.int .i64 l.k) (fun w h => by simp [go_sem, h]) (fun w2 h2 => (HGT.out w2 (Turn.of_below (stp_start (Stp.trans _ _ _ hs h2) (Below.refl _ _)))).cells.1) ?_
        refine hK _ ?_
        simp only [Act.put, List.setIfInBounds_toArray, List.set_cons_zero, List.set_cons_succ]
        rfl
      iterate 1
        refine wpR_one (A' := ?_) Stp.refl (by rfl) _ rfl 21 (by rfl) (by rfl) ?_ ?_ ?_
        rotate_left 1
        · simp only [Act.put, List.setIfInBounds_toArray, List.set_cons_zero, List.set_cons_succ]; rfl
        · intro w1 hs hf K hK
          go_big_quiet_op
          first
            | go_big_quiet_on
            | (refine ⟨_, fun _ _ => rfl, ?_⟩; go_big_quiet_on)
          rfl
      iterate 2
        refine wpR_one (A' := ?_) Stp.refl (by rfl) _ rfl 21 (by rfl) (by rfl) ?_ ?_ ?_
        rotate_left 1
        · simp only [Act.put, List.setIfInBounds_toArray, List.set_cons_zero, List.set_cons_succ]; rfl
        · intro w1 hs hf K hK
          go_big_quiet_op
          first
            | go_big_quiet_on
            | (refine ⟨_, fun _ _ => rfl, ?_⟩; go_big_quiet_on)
          rfl
      refine wpR_one (A' := ?_) Stp.refl (by rfl) _ rfl 21 (by rfl) (by rfl) ?_ ?_ ?_
      rotate_left 1
      · simp only [Act.put, List.setIfInBounds_toArray, List.set_cons_zero, List.set_cons_succ]; rfl
      · intro w1 hs hf K hK
        refine cls_load 25 (.tmp 1) rfl (g) (0) rfl ((ltC A cA S cS l).toList) _ (fun w2 h2 => (HGT.out w2 (Turn.of_below (stp_start (Stp.trans _ _ _ hs h2) (Below.refl _ _)))).range) Try.underlying25 rfl lt_info ?_
        refine hK _ ?_
        simp only [Act.put, List.setIfInBounds_toArray, List.set_cons_zero, List.set_cons_succ]
        rfl
      refine wpR_one (A' := ?_) Stp.refl (by rfl) _ rfl 21 (by rfl) (by rfl) ?_ ?_ ?_
      rotate_left 1
      · simp only [Act.put, List.setIfInBounds_toArray, List.set_cons_zero, List.set_cons_succ]; rfl
      · intro w1 hs hf K hK
        go_big_quiet_op
        apply Exists.intro
        refine ⟨fun w2 h2 => ?_, ?_⟩
        · have T2 := (Turn.of_below (stp_start (Stp.trans _ _ _ hs h2) (Below.refl _ _)))
          refine (CBd.out w2 T2).mono ?_
          rintro e w3 ⟨rfl, t3⟩
          exact ⟨rfl, Stp.trans _ _ _ h2 (turn_stp' t3)⟩
        · go_big_quiet_on
          rfl
      iterate 2
        refine wpR_one (A' := ?_) Stp.refl (by rfl) _ rfl 21 (by rfl) (by rfl) ?_ ?_ ?_
        rotate_left 1
        · simp only [Act.put, List.setIfInBounds_toArray, List.set_cons_zero, List.set_cons_succ]; rfl
        · intro w1 hs hf K hK
          go_big_quiet_op
          first
            | go_big_quiet_on
            | (refine ⟨_, fun _ _ => rfl, ?_⟩; go_big_quiet_on)
          rfl
      iterate 4
        refine wpR_skip (A' := ?_) (by rfl) ?_ ?_
        rotate_left 1
        · simp only [Act.put, List.setIfInBounds_toArray, List.set_cons_zero, List.set_cons_succ]; rfl
      iterate 2
        refine wpR_one (A' := ?_) Stp.refl (by rfl) _ rfl 21 (by rfl) (by rfl) ?_ ?_ ?_
        rotate_left 1
        · simp only [Act.put, List.setIfInBounds_toArray, List.set_cons_zero, List.set_cons_succ]; rfl
        · intro w1 hs hf K hK
          go_big_quiet_op
          first
            | go_big_quiet_on
            | (refine ⟨_, fun _ _ => rfl, ?_⟩; go_big_quiet_on)
          rfl
      intro w9 hs hf
      have T9 := Lib.hid (show Turn (fun _ => False) w0 w9 from Turn.of_below (stp_start hs (Below.refl _ _)))
      clear hs hf
      go_wp2_with fail
      go_ret
      exact ⟨ret_bool HR.out, HT0.out.trans T9.out (fun _ _ h => h)⟩
  | true =>
    have HR := Lib.hid (show D = R from HR.out)
    go_enter Try.func11, Try.ntmps11
    go_upto_region 1 with fail
    change Code.wp _ _ _ _ (w.alloc (.cells (ltC A cA S cS l) 25))
    rw [← hw0, ← hg]
    clear hw0 hg
    refine wp_region_rel 21 Stp [.one ?_, .one ?_, .one ?_, .one ?_, .one ?_, .one ?_, .one ?_, .one ?_, .one ?_, .one ?_, .one ?_, .one ?_, .one ?_, .one ?_, .one ?_, .one ?_, .one ?_, .one ?_, .one ?_] (by kernel_rfl) (by kernel_rfl) rfl (by kernel_rfl) Stp.refl Stp.trans trivial ?main
    case main =>
      iterate 1
        refine wpR_one (A' := ?_) Stp.refl (by rfl) _ rfl 21 (by rfl) (by rfl) ?_ ?_ ?_
        rotate_left 1
        · simp only [Act.put, List.setIfInBounds_toArray, List.set_cons_zero, List.set_cons_succ]; rfl
        · intro w1 hs hf K hK
          go_big_quiet_op
          first
            | go_big_quiet_on
            | (refine ⟨_, fun _ _ => rfl, ?_⟩; go_big_quiet_on)
          rfl
      refine wpR_one (A' := ?_) Stp.refl (by rfl) _ rfl 21 (by rfl) (by rfl) ?_ ?_ ?_
      rotate_left 1
      · simp only [Act.put, List.setIfInBounds_toArray, List.set_cons_zero, List.set_cons_succ]; rfl
      · intro w1 hs hf K hK
        refine cls_load_cell 3 (.tmp 3) rfl ⟨g, 0, none⟩ rfl (.int .i64 l.k) (fun w h => by simp [go_sem, h]) (fun w2 h2 => (HGT.out w2 (Turn.of_below (stp_start (Stp.trans _ _ _ hs h2) (Below.refl _ _)))).cells.1) ?_
        refine hK _ ?_
        simp only [Act.put, List.setIfInBounds_toArray, List.set_cons_zero, List.set_cons_succ]
        rfl
      iterate 2
        refine wpR_one (A' := ?_) Stp.refl (by rfl) _ rfl 21 (by rfl) (by rfl) ?_ ?_ ?_
        rotate_left 1
        · simp only [Act.put, List.setIfInBounds_toArray, List.set_cons_zero, List.set_cons_succ]; rfl
        · intro w1 hs hf K hK
          go_big_quiet_op
          first
            | go_big_quiet_on
            | (refine ⟨_, fun _ _ => rfl, ?_⟩; go_big_quiet_on)
          rfl
      iterate 1
        refine wpR_one (A' := ?_) Stp.refl (by rfl) _ rfl 21 (by rfl) (by rfl) ?_ ?_ ?_
        rotate_left 1
        · simp only [Act.put, List.setIfInBounds_toArray, List.set_cons_zero, List.set_cons_succ]; rfl
        · intro w1 hs hf K hK
          go_big_quiet_op
          first
            | go_big_quiet_on
            | (refine ⟨_, fun _ _ => rfl, ?_⟩; go_big_quiet_on)
          rfl
      refine wpR_one (A' := ?_) Stp.refl (by rfl) _ rfl 21 (by rfl) (by rfl) ?_ ?_ ?_
      rotate_left 1
      · simp only [Act.put, List.setIfInBounds_toArray, List.set_cons_zero, List.set_cons_succ]; rfl
      · intro w1 hs hf K hK
        refine cls_load_cell 3 (.tmp 7) rfl ⟨g, 0, none⟩ rfl (.int .i64 l.k) (fun w h => by simp [go_sem, h]) (fun w2 h2 => (HGT.out w2 (Turn.of_below (stp_start (Stp.trans _ _ _ hs h2) (Below.refl _ _)))).cells.1) ?_
        refine hK _ ?_
        simp only [Act.put, List.setIfInBounds_toArray, List.set_cons_zero, List.set_cons_succ]
        rfl
      iterate 1
        refine wpR_one (A' := ?_) Stp.refl (by rfl) _ rfl 21 (by rfl) (by rfl) ?_ ?_ ?_
        rotate_left 1
        · simp only [Act.put, List.setIfInBounds_toArray, List.set_cons_zero, List.set_cons_succ]; rfl
        · intro w1 hs hf K hK
          go_big_quiet_op
          first
            | go_big_quiet_on
            | (refine ⟨_, fun _ _ => rfl, ?_⟩; go_big_quiet_on)
          rfl
      iterate 2
        refine wpR_one (A' := ?_) Stp.refl (by rfl) _ rfl 21 (by rfl) (by rfl) ?_ ?_ ?_
        rotate_left 1
        · simp only [Act.put, List.setIfInBounds_toArray, List.set_cons_zero, List.set_cons_succ]; rfl
        · intro w1 hs hf K hK
          go_big_quiet_op
          first
            | go_big_quiet_on
            | (refine ⟨_, fun _ _ => rfl, ?_⟩; go_big_quiet_on)
          rfl
      refine wpR_one (A' := ?_) Stp.refl (by rfl) _ rfl 21 (by rfl) (by rfl) ?_ ?_ ?_
      rotate_left 1
      · simp only [Act.put, List.setIfInBounds_toArray, List.set_cons_zero, List.set_cons_succ]; rfl
      · intro w1 hs hf K hK
        refine cls_load 25 (.tmp 1) rfl (g) (0) rfl ((ltC A cA S cS l).toList) _ (fun w2 h2 => (HGT.out w2 (Turn.of_below (stp_start (Stp.trans _ _ _ hs h2) (Below.refl _ _)))).range) Try.underlying25 rfl lt_info ?_
        refine hK _ ?_
        simp only [Act.put, List.setIfInBounds_toArray, List.set_cons_zero, List.set_cons_succ]
        rfl
      refine wpR_one (A' := ?_) Stp.refl (by rfl) _ rfl 21 (by rfl) (by rfl) ?_ ?_ ?_
      rotate_left 1
      · simp only [Act.put, List.setIfInBounds_toArray, List.set_cons_zero, List.set_cons_succ]; rfl
      · intro w1 hs hf K hK
        go_big_quiet_op
        apply Exists.intro
        refine ⟨fun w2 h2 => ?_, ?_⟩
        · have T2 := (Turn.of_below (stp_start (Stp.trans _ _ _ hs h2) (Below.refl _ _)))
          refine (CBd.out w2 T2).mono ?_
          rintro e w3 ⟨rfl, t3⟩
          exact ⟨rfl, Stp.trans _ _ _ h2 (turn_stp' t3)⟩
        · go_big_quiet_on
          rfl
      iterate 2
        refine wpR_one (A' := ?_) Stp.refl (by rfl) _ rfl 21 (by rfl) (by rfl) ?_ ?_ ?_
        rotate_left 1
        · simp only [Act.put, List.setIfInBounds_toArray, List.set_cons_zero, List.set_cons_succ]; rfl
        · intro w1 hs hf K hK
          go_big_quiet_op
          first
            | go_big_quiet_on
            | (refine ⟨_, fun _ _ => rfl, ?_⟩; go_big_quiet_on)
          rfl
      refine wpR_one (A' := ?_) Stp.refl (by rfl) _ rfl 21 (by rfl) (by rfl) ?_ ?_ ?_
      rotate_left 1
      · simp only [Act.put, List.setIfInBounds_toArray, List.set_cons_zero, List.set_cons_succ]; rfl
      · intro w1 hs hf K hK
        refine cls_load 25 (.tmp 1) rfl (g) (0) rfl ((ltC A cA S cS l).toList) _ (fun w2 h2 => (HGT.out w2 (Turn.of_below (stp_start (Stp.trans _ _ _ hs h2) (Below.refl _ _)))).range) Try.underlying25 rfl lt_info ?_
        refine hK _ ?_
        simp only [Act.put, List.setIfInBounds_toArray, List.set_cons_zero, List.set_cons_succ]
        rfl
      refine wpR_one (A' := ?_) Stp.refl (by rfl) _ rfl 21 (by rfl) (by rfl) ?_ ?_ ?_
      rotate_left 1
      · simp only [Act.put, List.setIfInBounds_toArray, List.set_cons_zero, List.set_cons_succ]; rfl
      · intro w1 hs hf K hK
        refine cls_load 25 (.tmp 1) rfl (g) (0) rfl ((ltC A cA S cS l).toList) _ (fun w2 h2 => (HGT.out w2 (Turn.of_below (stp_start (Stp.trans _ _ _ hs h2) (Below.refl _ _)))).range) Try.underlying25 rfl lt_info ?_
        refine hK _ ?_
        simp only [Act.put, List.setIfInBounds_toArray, List.set_cons_zero, List.set_cons_succ]
        rfl
      refine wpR_one (A' := ?_) Stp.refl (by rfl) _ rfl 21 (by rfl) (by rfl) ?_ ?_ ?_
      rotate_left 1
      · simp only [Act.put, List.setIfInBounds_toArray, List.set_cons_zero, List.set_cons_succ]; rfl
      · intro w1 hs hf K hK
        go_big_quiet_op
        apply Exists.intro
        refine ⟨fun w2 h2 => ?_, ?_⟩
        · have T2 := (Turn.of_below (stp_start (Stp.trans _ _ _ hs h2) (Below.refl _ _)))
          refine (CU.out w2).mono ?_
          rintro e w3 ⟨rfl, t3⟩
          exact ⟨rfl, Stp.trans _ _ _ h2 (turn_stp' t3)⟩
        · go_big_quiet_on
          rfl
      refine wpR_one (A' := ?_) Stp.refl (by rfl) _ rfl 21 (by rfl) (by rfl) ?_ ?_ ?_
      rotate_left 1
      · simp only [Act.put, List.setIfInBounds_toArray, List.set_cons_zero, List.set_cons_succ]; rfl
      · intro w1 hs hf K hK
        go_big_quiet_op
        apply Exists.intro
        refine ⟨fun w2 h2 => ?_, ?_⟩
        · have T2 := (Turn.of_below (stp_start (Stp.trans _ _ _ hs h2) (Below.refl _ _)))
          refine (CS.out w2 T2).mono ?_
          rintro e w3 ⟨rfl, t3⟩
          exact ⟨rfl, Stp.trans _ _ _ h2 (turn_stp' t3)⟩
        · go_big_quiet_on
          rfl
      iterate 2
        refine wpR_one (A' := ?_) Stp.refl (by rfl) _ rfl 21 (by rfl) (by rfl) ?_ ?_ ?_
        rotate_left 1
        · simp only [Act.put, List.setIfInBounds_toArray, List.set_cons_zero, List.set_cons_succ]; rfl
        · intro w1 hs hf K hK
          go_big_quiet_op
          first
            | go_big_quiet_on
            | (refine ⟨_, fun _ _ => rfl, ?_⟩; go_big_quiet_on)
          rfl
      intro w9 hs hf
      have T9 := Lib.hid (show Turn (fun _ => False) w0 w9 from Turn.of_below (stp_start hs (Below.refl _ _)))
      clear hs hf
      go_wp2_with fail
      go_ret
      exact ⟨ret_bool HR.out, HT0.out.trans T9.out (fun _ _ h => h)⟩
end Go.Proofs.Ytaicpclkdpbacaa
