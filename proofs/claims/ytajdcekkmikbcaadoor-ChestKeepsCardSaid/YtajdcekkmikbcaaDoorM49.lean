/- Merged: The law's known: it answers; if yes, one of the tries has that turn. -/
import Derived.Test.YtajdcekkmikbcaaDoorM48
namespace Go.Proofs.YtajdcekkmikbcaaDoor
section
set_option linter.unusedVariables false
set_option linter.unusedSimpArgs false
open Go.RowKit
set_option maxRecDepth 100000
theorem lst_front {w : World} {A : Option Addr} {ls : List (List B8)} (h : Lst w A ls) (n : Nat) : Lst w A (ls.take n) := fun i xs hi => by
  rw [List.getElem?_take] at hi
  split at hi
  · exact h i xs hi
  · cases hi
/-- A list of tries: their turns, and their lists of texts. -/
def TryL (w : World) (A : Option Addr) (ts : List (Nat × List (List B8))) : Prop := ∀ (i : Nat) (t : Nat) (l : List (List B8)), ts[i]? = some (t, l) → ∃ bb o Al cl, A = some ⟨bb, o, none⟩ ∧ w.cell? ⟨bb, o + i * 2, none⟩ = some (.int .i64 (t : Int)) ∧ w.cell? ⟨bb, o + i * 2 + 1, none⟩ = some (.slice Al l.length cl) ∧ l.length ≤ cl ∧ Lst w Al l
set_option maxHeartbeats 16000000 in
theorem known_any (w : World) (A : Option Addr) (c : Nat) (ts : List (Nat × List (List B8))) (T half : Nat) (AL : Option Addr) (cL : Nat) (L : List (List B8)) (ht : TryL w A ts) (hm : ts.length ≤ 1000000) (hL : Lst w AL L) (hLm : L.length ≤ 1000000) (hLb : ∀ x ∈ L, x.length ≤ maxLen) (htm : ∀ p ∈ ts, ∀ x ∈ p.2, x.length ≤ maxLen) :
    Calls Tryd.prog 25 #[.slice A ts.length c, cstV T half AL L.length cL] w fun r w' => ∃ v, r = .returned (.bool v) ∧ (v = true → ∃ p ∈ ts, p.1 = T) ∧ Turn (fun _ => False) w w' := by
  obtain ⟨nL, hnL⟩ : ∃ m, m = L.length := ⟨_, rfl⟩
  obtain ⟨nT, hnT⟩ : ∃ m, m = ts.length := ⟨_, rfl⟩
  rw [← hnL, ← hnT]
  obtain ⟨x, hx⟩ : ∃ x, x = w.heap.size := ⟨_, rfl⟩
  obtain ⟨wz, hwz⟩ : ∃ wz, wz = w.alloc (.cells #[.int .i64 T, .int .i64 half, .slice AL nL cL] 33) := ⟨_, rfl⟩
  have tz : Turn (fun _ => False) w wz := by rw [hwz]; exact (Turn.refl _ _).alloc _
  have XB := Lib.hid (show wz.heap[x]? = some (.cells #[.int .i64 T, .int .i64 half, .slice AL nL cL] 33 (0, 0)) by rw [hwz, hx]; exact heap_alloc_new _ _)
  have x0 : wz.cell? ⟨x, 0, none⟩ = some (.int .i64 T) := by rw [cell_of_row _ _ _ _ _ _ XB.out]; rfl
  have x2 : wz.cell? ⟨x, 2, none⟩ = some (.slice AL nL cL) := by rw [cell_of_row _ _ _ _ _ _ XB.out]; rfl
  have HX0 := Lib.hid x0
  have HX2 := Lib.hid x2
  have HWZ := Lib.hid tz
  have HTS := Lib.hid ht
  have HLX := Lib.hid hL
  have HLM := Lib.hid hLm
  have HLB := Lib.hid hLb
  have HTM := Lib.hid htm
  have HNL := Lib.hid hnL
  have HNT := Lib.hid hnT
  have hm' : nT ≤ 1000000 := by omega
  have hl' : nL ≤ 1000000 := by omega
  clear ht hm hL hLm hLb htm hnL hnT tz x0 x2 XB
  go_enter Tryd.func25, Tryd.ntmps25
  go_upto_region 1 with fail
  change Code.wp _ _ _ _ (w.alloc (.cells #[.int .i64 T, .int .i64 half, .slice AL nL cL] 33))
  rw [← hwz, ← hx]
  clear hwz hx
  go_wp2
  go_loopw [5] (fun iv wr => ∃ k : Nat, k ≤ nT ∧ iv = .int .i64 (k : Int) ∧ Turn (fun _ => False) wz wr) (fun iv _ => nT - (intOf iv).toNat)
  case atStart => exact ⟨0, by omega, rfl, Turn.refl _ _⟩
  case round =>
    obtain ⟨k, hk, rfl, ht0⟩ := hrel
    have HT0 := Lib.hid ht0
    clear ht0
    obtain ⟨W5, eW5⟩ : ∃ W5, W5 = wr := ⟨_, rfl⟩
    subst eW5
    by_cases h1 : k < nT
    rotate_left 1
    · have hkl : k = nT := by omega
      have d1 : decide ((k : Int) < (nT : Int)) = false := decide_eq_false (by omega)
      go_wp2
      go_ret
      exact ⟨false, rfl, (fun h => by cases h), HWZ.out.trans HT0.out (fun _ _ h => h)⟩
    have d1 : decide ((k : Int) < (nT : Int)) = true := decide_eq_true (by omega)
    have hin : k < ts.length := by rw [← HNT.out]; exact h1
    obtain ⟨⟨tt, l⟩, hp⟩ : ∃ p, p = ts[k] := ⟨_, rfl⟩
    have hget : ts[k]? = some (tt, l) := by rw [List.getElem?_eq_getElem hin, ← hp]
    obtain ⟨bb, o, Al, cl, rfl, c0, c1, hcl, hll⟩ := HTS.out k tt l hget
    have HM := Lib.hid (show (tt, l) ∈ ts from List.mem_of_getElem? hget)
    have HLL := Lib.hid hll
    obtain ⟨nl, hnl⟩ : ∃ m, m = l.length := ⟨_, rfl⟩
    rw [← hnl] at c1 hcl
    have HNl := Lib.hid hnl
    have x0 := HX0.out
    have x2 := HX2.out
    have HZ := Lib.hid (show ∀ w2 : World, Stp W5.drew w2 → Turn (fun _ => False) wz w2 from fun w2 hs => HT0.out.drew.trans (Turn.of_below hs) (fun _ _ h => h))
    have HW := Lib.hid (show ∀ w2 : World, Stp W5.drew w2 → Turn (fun _ => False) w w2 from fun w2 hs => HWZ.out.trans (HZ.out w2 hs) (fun _ _ h => h))
    have HR := Lib.hid (show ∀ w2 : World, Stp W5.drew w2 → Turn (fun _ => False) W5 w2 from fun w2 hs => ((Turn.refl _ _).drew).trans (Turn.of_below hs) (fun _ _ h => h))
    have k1 : (k : Int) < (nT : Int) := by omega
    have k2 : (0 : Int) ≤ (k : Int) := by omega
    clear hll hnl hp hget hin
    go_upto_region 4 with fail
    by_cases hA : tt = T
    rotate_left 1
    · have e1 : decide ((tt : Int) = (T : Int)) = false := decide_eq_false (by omega)
      have e2 : decide (tt = T) = false := decide_eq_false hA
      have e3 : ((tt : Int) == (T : Int)) = false := beq_false_of_ne (by omega)
      refine wp_region_rel 46 Stp ((.one ?_) :: (.one ?_) :: (.one ?_) :: (.one ?_) :: (.one ?_) :: (.one ?_) :: (.one ?_) :: (.one ?_) :: (.one ?_) :: (.one undef) :: (.one undef) :: (.one undef) :: (.one undef) :: (.one undef) :: (.one undef) :: (.one undef) :: (.one undef) :: (.one undef) :: (.one undef) :: (.one ?_) :: (.one ?_) :: (.one undef) :: (.one undef) :: (.one undef) :: (.one undef) :: (.one undef) :: (.one undef) :: (.one undef) :: (.one undef) :: (.one undef) :: (.one undef) :: (.one undef) :: (.one undef) :: (.one ?_) :: []) (by kernel_rfl) (by kernel_rfl) rfl (by kernel_rfl) Stp.refl Stp.trans trivial ?main
      case main =>
        iterate 4
          refine wpR_one (A' := ?_) Stp.refl (by rfl) _ rfl 46 (by rfl) (by rfl) ?_ ?_ ?_
          rotate_left 1
          · simp only [Act.put, List.setIfInBounds_toArray, List.set_cons_zero, List.set_cons_succ]; rfl
          · intro w1 hs hf K hK
            go_big_quiet_op
            first
              | go_big_quiet_on
              | (refine ⟨_, fun _ _ => rfl, ?_⟩; go_big_quiet_on)
            rfl
        refine wpR_one (A' := ?_) Stp.refl (by rfl) _ rfl 46 (by rfl) (by rfl) ?_ ?_ ?_
        rotate_left 1
        · simp only [Act.put, List.setIfInBounds_toArray, List.set_cons_zero, List.set_cons_succ]; rfl
        · intro w1 hs hf K hK
          refine cls_load_cell 3 (.tmp 15) rfl ⟨bb, o + k * 2, none⟩ rfl (.int .i64 (tt : Int)) (fun w h => by simp [go_sem, h]) (fun w2 h2 => (HW.out w2 (Stp.trans _ _ _ hs h2)).cell (show w.cell? _ = _ from c0) (fun h => h)) ?_
          refine hK _ ?_
          simp only [Act.put, List.setIfInBounds_toArray, List.set_cons_zero, List.set_cons_succ]
          rfl
        iterate 1
          refine wpR_one (A' := ?_) Stp.refl (by rfl) _ rfl 46 (by rfl) (by rfl) ?_ ?_ ?_
          rotate_left 1
          · simp only [Act.put, List.setIfInBounds_toArray, List.set_cons_zero, List.set_cons_succ]; rfl
          · intro w1 hs hf K hK
            go_big_quiet_op
            first
              | go_big_quiet_on
              | (refine ⟨_, fun _ _ => rfl, ?_⟩; go_big_quiet_on)
            rfl
        refine wpR_one (A' := ?_) Stp.refl (by rfl) _ rfl 46 (by rfl) (by rfl) ?_ ?_ ?_
        rotate_left 1
        · simp only [Act.put, List.setIfInBounds_toArray, List.set_cons_zero, List.set_cons_succ]; rfl
        · intro w1 hs hf K hK
          refine cls_load_cell 3 (.tmp 17) rfl ⟨x, 0, none⟩ rfl (.int .i64 (T : Int)) (fun w h => by simp [go_sem, h]) (fun w2 h2 => (HZ.out w2 (Stp.trans _ _ _ hs h2)).cell (show wz.cell? _ = _ from x0) (fun h => h)) ?_
          refine hK _ ?_
          simp only [Act.put, List.setIfInBounds_toArray, List.set_cons_zero, List.set_cons_succ]
          rfl
        iterate 2
          refine wpR_one (A' := ?_) Stp.refl (by rfl) _ rfl 46 (by rfl) (by rfl) ?_ ?_ ?_
          rotate_left 1
          · simp only [Act.put, List.setIfInBounds_toArray, List.set_cons_zero, List.set_cons_succ]; rfl
          · intro w1 hs hf K hK
            go_big_quiet_op
            first
              | go_big_quiet_on
              | (refine ⟨_, fun _ _ => rfl, ?_⟩; go_big_quiet_on)
            rfl
        iterate 10
          refine wpR_skip (A' := ?_) (by rfl) ?_ ?_
          rotate_left 1
          · simp only [Act.put, List.setIfInBounds_toArray, List.set_cons_zero, List.set_cons_succ]; rfl
        iterate 2
          refine wpR_one (A' := ?_) Stp.refl (by rfl) _ rfl 46 (by rfl) (by rfl) ?_ ?_ ?_
          rotate_left 1
          · simp only [Act.put, List.setIfInBounds_toArray, List.set_cons_zero, List.set_cons_succ]; rfl
          · intro w1 hs hf K hK
            go_big_quiet_op
            first
              | go_big_quiet_on
              | (refine ⟨_, fun _ _ => rfl, ?_⟩; go_big_quiet_on)
            rfl
        iterate 12
          refine wpR_skip (A' := ?_) (by rfl) ?_ ?_
          rotate_left 1
          · simp only [Act.put, List.setIfInBounds_toArray, List.set_cons_zero, List.set_cons_succ]; rfl
        iterate 1
          refine wpR_one (A' := ?_) Stp.refl (by rfl) _ rfl 46 (by rfl) (by rfl) ?_ ?_ ?_
          rotate_left 1
          · simp only [Act.put, List.setIfInBounds_toArray, List.set_cons_zero, List.set_cons_succ]; rfl
          · intro w1 hs hf K hK
            go_big_quiet_op
            first
              | go_big_quiet_on
              | (refine ⟨_, fun _ _ => rfl, ?_⟩; go_big_quiet_on)
            rfl
        intro w9 hs hf
        have TT := Lib.hid (HR.out w9 hs)
        clear hs hf
        go_wp2
        go_roundw
        case rel => exact ⟨k + 1, by omega, by go_num, HT0.out.trans TT.out (fun _ _ h => h)⟩
        case measure => simp [intOf]; omega

    have HEQ := Lib.hid hA
    by_cases hB : nL ≤ nl
    rotate_left 1
    · have e1 : decide ((tt : Int) = (T : Int)) = true := decide_eq_true (by omega)
      have e3 : ((tt : Int) == (T : Int)) = true := by rw [hA]; exact beq_self_eq_true _
      have e4 : decide ((nL : Int) ≤ (nl : Int)) = false := decide_eq_false (by omega)
      have e5 : decide (nL ≤ nl) = false := decide_eq_false hB
      refine wp_region_rel 46 Stp ((.one ?_) :: (.one ?_) :: (.one ?_) :: (.one ?_) :: (.one ?_) :: (.one ?_) :: (.one ?_) :: (.one ?_) :: (.one ?_) :: (.one ?_) :: (.one ?_) :: (.one ?_) :: (.one ?_) :: (.one ?_) :: (.one ?_) :: (.one ?_) :: (.one ?_) :: (.one ?_) :: (.one ?_) :: (.one ?_) :: (.one ?_) :: (.one undef) :: (.one undef) :: (.one undef) :: (.one undef) :: (.one undef) :: (.one undef) :: (.one undef) :: (.one undef) :: (.one undef) :: (.one undef) :: (.one undef) :: (.one undef) :: (.one ?_) :: []) (by kernel_rfl) (by kernel_rfl) rfl (by kernel_rfl) Stp.refl Stp.trans trivial ?main
      case main =>
        iterate 4
          refine wpR_one (A' := ?_) Stp.refl (by rfl) _ rfl 46 (by rfl) (by rfl) ?_ ?_ ?_
          rotate_left 1
          · simp only [Act.put, List.setIfInBounds_toArray, List.set_cons_zero, List.set_cons_succ]; rfl
          · intro w1 hs hf K hK
            go_big_quiet_op
            first
              | go_big_quiet_on
              | (refine ⟨_, fun _ _ => rfl, ?_⟩; go_big_quiet_on)
            rfl
        refine wpR_one (A' := ?_) Stp.refl (by rfl) _ rfl 46 (by rfl) (by rfl) ?_ ?_ ?_
        rotate_left 1
        · simp only [Act.put, List.setIfInBounds_toArray, List.set_cons_zero, List.set_cons_succ]; rfl
        · intro w1 hs hf K hK
          refine cls_load_cell 3 (.tmp 15) rfl ⟨bb, o + k * 2, none⟩ rfl (.int .i64 (tt : Int)) (fun w h => by simp [go_sem, h]) (fun w2 h2 => (HW.out w2 (Stp.trans _ _ _ hs h2)).cell (show w.cell? _ = _ from c0) (fun h => h)) ?_
          refine hK _ ?_
          simp only [Act.put, List.setIfInBounds_toArray, List.set_cons_zero, List.set_cons_succ]
          rfl
        iterate 1
          refine wpR_one (A' := ?_) Stp.refl (by rfl) _ rfl 46 (by rfl) (by rfl) ?_ ?_ ?_
          rotate_left 1
          · simp only [Act.put, List.setIfInBounds_toArray, List.set_cons_zero, List.set_cons_succ]; rfl
          · intro w1 hs hf K hK
            go_big_quiet_op
            first
              | go_big_quiet_on
              | (refine ⟨_, fun _ _ => rfl, ?_⟩; go_big_quiet_on)
            rfl
        refine wpR_one (A' := ?_) Stp.refl (by rfl) _ rfl 46 (by rfl) (by rfl) ?_ ?_ ?_
        rotate_left 1
        · simp only [Act.put, List.setIfInBounds_toArray, List.set_cons_zero, List.set_cons_succ]; rfl
        · intro w1 hs hf K hK
          refine cls_load_cell 3 (.tmp 17) rfl ⟨x, 0, none⟩ rfl (.int .i64 (T : Int)) (fun w h => by simp [go_sem, h]) (fun w2 h2 => (HZ.out w2 (Stp.trans _ _ _ hs h2)).cell (show wz.cell? _ = _ from x0) (fun h => h)) ?_
          refine hK _ ?_
          simp only [Act.put, List.setIfInBounds_toArray, List.set_cons_zero, List.set_cons_succ]
          rfl
        iterate 2
          refine wpR_one (A' := ?_) Stp.refl (by rfl) _ rfl 46 (by rfl) (by rfl) ?_ ?_ ?_
          rotate_left 1
          · simp only [Act.put, List.setIfInBounds_toArray, List.set_cons_zero, List.set_cons_succ]; rfl
          · intro w1 hs hf K hK
            go_big_quiet_op
            first
              | go_big_quiet_on
              | (refine ⟨_, fun _ _ => rfl, ?_⟩; go_big_quiet_on)
            rfl
        iterate 1
          refine wpR_one (A' := ?_) Stp.refl (by rfl) _ rfl 46 (by rfl) (by rfl) ?_ ?_ ?_
          rotate_left 1
          · simp only [Act.put, List.setIfInBounds_toArray, List.set_cons_zero, List.set_cons_succ]; rfl
          · intro w1 hs hf K hK
            go_big_quiet_op
            first
              | go_big_quiet_on
              | (refine ⟨_, fun _ _ => rfl, ?_⟩; go_big_quiet_on)
            rfl
        refine wpR_one (A' := ?_) Stp.refl (by rfl) _ rfl 46 (by rfl) (by rfl) ?_ ?_ ?_
        rotate_left 1
        · simp only [Act.put, List.setIfInBounds_toArray, List.set_cons_zero, List.set_cons_succ]; rfl
        · intro w1 hs hf K hK
          refine cls_load_cell 31 (.tmp 21) rfl ⟨x, 2, none⟩ rfl (.slice AL nL cL) (fun w h => by simp [go_sem, h]) (fun w2 h2 => (HZ.out w2 (Stp.trans _ _ _ hs h2)).cell (show wz.cell? _ = _ from x2) (fun h => h)) ?_
          refine hK _ ?_
          simp only [Act.put, List.setIfInBounds_toArray, List.set_cons_zero, List.set_cons_succ]
          rfl
        iterate 5
          refine wpR_one (A' := ?_) Stp.refl (by rfl) _ rfl 46 (by rfl) (by rfl) ?_ ?_ ?_
          rotate_left 1
          · simp only [Act.put, List.setIfInBounds_toArray, List.set_cons_zero, List.set_cons_succ]; rfl
          · intro w1 hs hf K hK
            go_big_quiet_op
            first
              | go_big_quiet_on
              | (refine ⟨_, fun _ _ => rfl, ?_⟩; go_big_quiet_on)
            rfl
        refine wpR_one (A' := ?_) Stp.refl (by rfl) _ rfl 46 (by rfl) (by rfl) ?_ ?_ ?_
        rotate_left 1
        · simp only [Act.put, List.setIfInBounds_toArray, List.set_cons_zero, List.set_cons_succ]; rfl
        · intro w1 hs hf K hK
          refine cls_load_cell 31 (.tmp 27) rfl ⟨bb, o + k * 2 + 1, none⟩ rfl (.slice Al nl cl) (fun w h => by simp [go_sem, h]) (fun w2 h2 => (HW.out w2 (Stp.trans _ _ _ hs h2)).cell (show w.cell? _ = _ from c1) (fun h => h)) ?_
          refine hK _ ?_
          simp only [Act.put, List.setIfInBounds_toArray, List.set_cons_zero, List.set_cons_succ]
          rfl
        iterate 2
          refine wpR_one (A' := ?_) Stp.refl (by rfl) _ rfl 46 (by rfl) (by rfl) ?_ ?_ ?_
          rotate_left 1
          · simp only [Act.put, List.setIfInBounds_toArray, List.set_cons_zero, List.set_cons_succ]; rfl
          · intro w1 hs hf K hK
            go_big_quiet_op
            first
              | go_big_quiet_on
              | (refine ⟨_, fun _ _ => rfl, ?_⟩; go_big_quiet_on)
            rfl
        iterate 2
          refine wpR_one (A' := ?_) Stp.refl (by rfl) _ rfl 46 (by rfl) (by rfl) ?_ ?_ ?_
          rotate_left 1
          · simp only [Act.put, List.setIfInBounds_toArray, List.set_cons_zero, List.set_cons_succ]; rfl
          · intro w1 hs hf K hK
            go_big_quiet_op
            first
              | go_big_quiet_on
              | (refine ⟨_, fun _ _ => rfl, ?_⟩; go_big_quiet_on)
            rfl
        iterate 12
          refine wpR_skip (A' := ?_) (by rfl) ?_ ?_
          rotate_left 1
          · simp only [Act.put, List.setIfInBounds_toArray, List.set_cons_zero, List.set_cons_succ]; rfl
        iterate 1
          refine wpR_one (A' := ?_) Stp.refl (by rfl) _ rfl 46 (by rfl) (by rfl) ?_ ?_ ?_
          rotate_left 1
          · simp only [Act.put, List.setIfInBounds_toArray, List.set_cons_zero, List.set_cons_succ]; rfl
          · intro w1 hs hf K hK
            go_big_quiet_op
            first
              | go_big_quiet_on
              | (refine ⟨_, fun _ _ => rfl, ?_⟩; go_big_quiet_on)
            rfl
        intro w9 hs hf
        have TT := Lib.hid (HR.out w9 hs)
        clear hs hf
        go_wp2
        go_roundw
        case rel => exact ⟨k + 1, by omega, by go_num, HT0.out.trans TT.out (fun _ _ h => h)⟩
        case measure => simp [intOf]; omega

    have e1 : decide ((tt : Int) = (T : Int)) = true := decide_eq_true (by omega)
    have e3 : ((tt : Int) == (T : Int)) = true := by rw [hA]; exact beq_self_eq_true _
    have e4 : decide ((nL : Int) ≤ (nl : Int)) = true := decide_eq_true (by omega)
    have e5 : decide (nL ≤ nl) = true := decide_eq_true hB
    have SLI : ∀ w, (Instr.slice 31 (.slice Al nl cl) none (some (.int .i64 (nL : Int))) none).run Tryd.prog w = .ok (.slice Al nL cl) w := fun w => by
      rw [run_slice_h (P := Tryd.prog) w 31 Al nl cl (by kernel_rfl) .i64 (nL : Int) (by omega) (by omega)]
      rw [show Tryd.prog.elem 31 = 36 by kernel_rfl]
      rw [show (Go.sizeOf 36).run Tryd.prog w = .ok 1 w by kernel_rfl]
      simp only [Result.andThen, sliced, Int.toNat_natCast, Nat.zero_mul, Nat.sub_zero]
      cases Al with
      | none => simp
      | some a => simp [Addr.add]
    have HTK := Lib.hid (show (l.take nL).length = nL by rw [List.length_take, ← HNl.out]; omega)
    have HLK := Lib.hid (show (l.take nL).length ≤ 1000000 by rw [HTK.out]; exact hl')
    have HLC := Lib.hid (show ∀ x ∈ l.take nL, x.length ≤ maxLen from fun y hy => HTM.out _ HM.out y (List.mem_of_mem_take hy))
    obtain ⟨b0, hb0⟩ : ∃ b0, b0 = decide (L = l.take nL) := ⟨_, rfl⟩
    have HBV := Lib.hid hb0
    clear hb0 hA
    cases b0 with
    | false =>
      refine wp_region_rel 46 Stp ((.one ?_) :: (.one ?_) :: (.one ?_) :: (.one ?_) :: (.one ?_) :: (.one ?_) :: (.one ?_) :: (.one ?_) :: (.one ?_) :: (.one ?_) :: (.one ?_) :: (.one ?_) :: (.one ?_) :: (.one ?_) :: (.one ?_) :: (.one ?_) :: (.one ?_) :: (.one ?_) :: (.one ?_) :: (.one ?_) :: (.one ?_) :: (.one ?_) :: (.one ?_) :: (.one ?_) :: (.one ?_) :: (.one ?_) :: (.one ?_) :: (.one ?_) :: (.one ?_) :: (.one ?_) :: (.one ?_) :: (.one ?_) :: (.one ?_) :: (.one ?_) :: []) (by kernel_rfl) (by kernel_rfl) rfl (by kernel_rfl) Stp.refl Stp.trans trivial ?main
      case main =>
        iterate 4
          refine wpR_one (A' := ?_) Stp.refl (by rfl) _ rfl 46 (by rfl) (by rfl) ?_ ?_ ?_
          rotate_left 1
          · simp only [Act.put, List.setIfInBounds_toArray, List.set_cons_zero, List.set_cons_succ]; rfl
          · intro w1 hs hf K hK
            go_big_quiet_op
            first
              | go_big_quiet_on
              | (refine ⟨_, fun _ _ => rfl, ?_⟩; go_big_quiet_on)
            rfl
        refine wpR_one (A' := ?_) Stp.refl (by rfl) _ rfl 46 (by rfl) (by rfl) ?_ ?_ ?_
        rotate_left 1
        · simp only [Act.put, List.setIfInBounds_toArray, List.set_cons_zero, List.set_cons_succ]; rfl
        · intro w1 hs hf K hK
          refine cls_load_cell 3 (.tmp 15) rfl ⟨bb, o + k * 2, none⟩ rfl (.int .i64 (tt : Int)) (fun w h => by simp [go_sem, h]) (fun w2 h2 => (HW.out w2 (Stp.trans _ _ _ hs h2)).cell (show w.cell? _ = _ from c0) (fun h => h)) ?_
          refine hK _ ?_
          simp only [Act.put, List.setIfInBounds_toArray, List.set_cons_zero, List.set_cons_succ]
          rfl
        iterate 1
          refine wpR_one (A' := ?_) Stp.refl (by rfl) _ rfl 46 (by rfl) (by rfl) ?_ ?_ ?_
          rotate_left 1
          · simp only [Act.put, List.setIfInBounds_toArray, List.set_cons_zero, List.set_cons_succ]; rfl
          · intro w1 hs hf K hK
            go_big_quiet_op
            first
              | go_big_quiet_on
              | (refine ⟨_, fun _ _ => rfl, ?_⟩; go_big_quiet_on)
            rfl
        refine wpR_one (A' := ?_) Stp.refl (by rfl) _ rfl 46 (by rfl) (by rfl) ?_ ?_ ?_
        rotate_left 1
        · simp only [Act.put, List.setIfInBounds_toArray, List.set_cons_zero, List.set_cons_succ]; rfl
        · intro w1 hs hf K hK
          refine cls_load_cell 3 (.tmp 17) rfl ⟨x, 0, none⟩ rfl (.int .i64 (T : Int)) (fun w h => by simp [go_sem, h]) (fun w2 h2 => (HZ.out w2 (Stp.trans _ _ _ hs h2)).cell (show wz.cell? _ = _ from x0) (fun h => h)) ?_
          refine hK _ ?_
          simp only [Act.put, List.setIfInBounds_toArray, List.set_cons_zero, List.set_cons_succ]
          rfl
        iterate 2
          refine wpR_one (A' := ?_) Stp.refl (by rfl) _ rfl 46 (by rfl) (by rfl) ?_ ?_ ?_
          rotate_left 1
          · simp only [Act.put, List.setIfInBounds_toArray, List.set_cons_zero, List.set_cons_succ]; rfl
          · intro w1 hs hf K hK
            go_big_quiet_op
            first
              | go_big_quiet_on
              | (refine ⟨_, fun _ _ => rfl, ?_⟩; go_big_quiet_on)
            rfl
        iterate 1
          refine wpR_one (A' := ?_) Stp.refl (by rfl) _ rfl 46 (by rfl) (by rfl) ?_ ?_ ?_
          rotate_left 1
          · simp only [Act.put, List.setIfInBounds_toArray, List.set_cons_zero, List.set_cons_succ]; rfl
          · intro w1 hs hf K hK
            go_big_quiet_op
            first
              | go_big_quiet_on
              | (refine ⟨_, fun _ _ => rfl, ?_⟩; go_big_quiet_on)
            rfl
        refine wpR_one (A' := ?_) Stp.refl (by rfl) _ rfl 46 (by rfl) (by rfl) ?_ ?_ ?_
        rotate_left 1
        · simp only [Act.put, List.setIfInBounds_toArray, List.set_cons_zero, List.set_cons_succ]; rfl
        · intro w1 hs hf K hK
          refine cls_load_cell 31 (.tmp 21) rfl ⟨x, 2, none⟩ rfl (.slice AL nL cL) (fun w h => by simp [go_sem, h]) (fun w2 h2 => (HZ.out w2 (Stp.trans _ _ _ hs h2)).cell (show wz.cell? _ = _ from x2) (fun h => h)) ?_
          refine hK _ ?_
          simp only [Act.put, List.setIfInBounds_toArray, List.set_cons_zero, List.set_cons_succ]
          rfl
        iterate 5
          refine wpR_one (A' := ?_) Stp.refl (by rfl) _ rfl 46 (by rfl) (by rfl) ?_ ?_ ?_
          rotate_left 1
          · simp only [Act.put, List.setIfInBounds_toArray, List.set_cons_zero, List.set_cons_succ]; rfl
          · intro w1 hs hf K hK
            go_big_quiet_op
            first
              | go_big_quiet_on
              | (refine ⟨_, fun _ _ => rfl, ?_⟩; go_big_quiet_on)
            rfl
        refine wpR_one (A' := ?_) Stp.refl (by rfl) _ rfl 46 (by rfl) (by rfl) ?_ ?_ ?_
        rotate_left 1
        · simp only [Act.put, List.setIfInBounds_toArray, List.set_cons_zero, List.set_cons_succ]; rfl
        · intro w1 hs hf K hK
          refine cls_load_cell 31 (.tmp 27) rfl ⟨bb, o + k * 2 + 1, none⟩ rfl (.slice Al nl cl) (fun w h => by simp [go_sem, h]) (fun w2 h2 => (HW.out w2 (Stp.trans _ _ _ hs h2)).cell (show w.cell? _ = _ from c1) (fun h => h)) ?_
          refine hK _ ?_
          simp only [Act.put, List.setIfInBounds_toArray, List.set_cons_zero, List.set_cons_succ]
          rfl
        iterate 2
          refine wpR_one (A' := ?_) Stp.refl (by rfl) _ rfl 46 (by rfl) (by rfl) ?_ ?_ ?_
          rotate_left 1
          · simp only [Act.put, List.setIfInBounds_toArray, List.set_cons_zero, List.set_cons_succ]; rfl
          · intro w1 hs hf K hK
            go_big_quiet_op
            first
              | go_big_quiet_on
              | (refine ⟨_, fun _ _ => rfl, ?_⟩; go_big_quiet_on)
            rfl
        iterate 2
          refine wpR_one (A' := ?_) Stp.refl (by rfl) _ rfl 46 (by rfl) (by rfl) ?_ ?_ ?_
          rotate_left 1
          · simp only [Act.put, List.setIfInBounds_toArray, List.set_cons_zero, List.set_cons_succ]; rfl
          · intro w1 hs hf K hK
            go_big_quiet_op
            first
              | go_big_quiet_on
              | (refine ⟨_, fun _ _ => rfl, ?_⟩; go_big_quiet_on)
            rfl
        iterate 1
          refine wpR_one (A' := ?_) Stp.refl (by rfl) _ rfl 46 (by rfl) (by rfl) ?_ ?_ ?_
          rotate_left 1
          · simp only [Act.put, List.setIfInBounds_toArray, List.set_cons_zero, List.set_cons_succ]; rfl
          · intro w1 hs hf K hK
            go_big_quiet_op
            first
              | go_big_quiet_on
              | (refine ⟨_, fun _ _ => rfl, ?_⟩; go_big_quiet_on)
            rfl
        refine wpR_one (A' := ?_) Stp.refl (by rfl) _ rfl 46 (by rfl) (by rfl) ?_ ?_ ?_
        rotate_left 1
        · simp only [Act.put, List.setIfInBounds_toArray, List.set_cons_zero, List.set_cons_succ]; rfl
        · intro w1 hs hf K hK
          refine cls_load_cell 31 (.tmp 33) rfl ⟨x, 2, none⟩ rfl (.slice AL nL cL) (fun w h => by simp [go_sem, h]) (fun w2 h2 => (HZ.out w2 (Stp.trans _ _ _ hs h2)).cell (show wz.cell? _ = _ from x2) (fun h => h)) ?_
          refine hK _ ?_
          simp only [Act.put, List.setIfInBounds_toArray, List.set_cons_zero, List.set_cons_succ]
          rfl
        iterate 4
          refine wpR_one (A' := ?_) Stp.refl (by rfl) _ rfl 46 (by rfl) (by rfl) ?_ ?_ ?_
          rotate_left 1
          · simp only [Act.put, List.setIfInBounds_toArray, List.set_cons_zero, List.set_cons_succ]; rfl
          · intro w1 hs hf K hK
            go_big_quiet_op
            first
              | go_big_quiet_on
              | (refine ⟨_, fun _ _ => rfl, ?_⟩; go_big_quiet_on)
            rfl
        refine wpR_one (A' := ?_) Stp.refl (by rfl) _ rfl 46 (by rfl) (by rfl) ?_ ?_ ?_
        rotate_left 1
        · simp only [Act.put, List.setIfInBounds_toArray, List.set_cons_zero, List.set_cons_succ]; rfl
        · intro w1 hs hf K hK
          refine cls_load_cell 31 (.tmp 38) rfl ⟨bb, o + k * 2 + 1, none⟩ rfl (.slice Al nl cl) (fun w h => by simp [go_sem, h]) (fun w2 h2 => (HW.out w2 (Stp.trans _ _ _ hs h2)).cell (show w.cell? _ = _ from c1) (fun h => h)) ?_
          refine hK _ ?_
          simp only [Act.put, List.setIfInBounds_toArray, List.set_cons_zero, List.set_cons_succ]
          rfl
        iterate 1
          refine wpR_one (A' := ?_) Stp.refl (by rfl) _ rfl 46 (by rfl) (by rfl) ?_ ?_ ?_
          rotate_left 1
          · simp only [Act.put, List.setIfInBounds_toArray, List.set_cons_zero, List.set_cons_succ]; rfl
          · intro w1 hs hf K hK
            go_big_quiet_op
            first
              | go_big_quiet_on
              | (refine ⟨_, fun _ _ => rfl, ?_⟩; go_big_quiet_on)
            rfl
        refine wpR_one (A' := ?_) Stp.refl (by rfl) _ rfl 46 (by rfl) (by rfl) ?_ ?_ ?_
        rotate_left 1
        · simp only [Act.put, List.setIfInBounds_toArray, List.set_cons_zero, List.set_cons_succ]; rfl
        · intro w1 hs hf K hK
          refine cls_load_cell 31 (.tmp 40) rfl ⟨x, 2, none⟩ rfl (.slice AL nL cL) (fun w h => by simp [go_sem, h]) (fun w2 h2 => (HZ.out w2 (Stp.trans _ _ _ hs h2)).cell (show wz.cell? _ = _ from x2) (fun h => h)) ?_
          refine hK _ ?_
          simp only [Act.put, List.setIfInBounds_toArray, List.set_cons_zero, List.set_cons_succ]
          rfl
        iterate 2
          refine wpR_one (A' := ?_) Stp.refl (by rfl) _ rfl 46 (by rfl) (by rfl) ?_ ?_ ?_
          rotate_left 1
          · simp only [Act.put, List.setIfInBounds_toArray, List.set_cons_zero, List.set_cons_succ]; rfl
          · intro w1 hs hf K hK
            go_big_quiet_op
            first
              | go_big_quiet_on
              | (refine ⟨_, fun _ _ => rfl, ?_⟩; go_big_quiet_on)
            rfl
        refine wpR_one (A' := ?_) Stp.refl (by rfl) _ rfl 46 (by rfl) (by rfl) ?_ ?_ ?_
        rotate_left 1
        · simp only [Act.put, List.setIfInBounds_toArray, List.set_cons_zero, List.set_cons_succ]; rfl
        · intro w1 hs hf K hK
          go_big_quiet_op
          apply Exists.intro
          refine ⟨fun w2 h2 => ?_, ?_⟩
          · have RS := rsame13_any AL Al cL cl L (l.take nL) w2 (HLX.out.below (turn_stp (HW.out w2 (Stp.trans _ _ _ hs h2)))) (lst_front (HLL.out.below (turn_stp (HW.out w2 (Stp.trans _ _ _ hs h2)))) nL) HLM.out HLK.out HLB.out HLC.out
            rw [HTK.out, ← HNL.out, ← HBV.out] at RS
            refine RS.mono ?_
            rintro e w3 ⟨rfl, m, rfl⟩
            exact ⟨rfl, Stp.trans _ _ _ h2 (turn_stp ((Turn.refl _ _).drewN m))⟩
          · go_big_quiet_on
            rfl
        iterate 1
          refine wpR_one (A' := ?_) Stp.refl (by rfl) _ rfl 46 (by rfl) (by rfl) ?_ ?_ ?_
          rotate_left 1
          · simp only [Act.put, List.setIfInBounds_toArray, List.set_cons_zero, List.set_cons_succ]; rfl
          · intro w1 hs hf K hK
            go_big_quiet_op
            first
              | go_big_quiet_on
              | (refine ⟨_, fun _ _ => rfl, ?_⟩; go_big_quiet_on)
            rfl
        intro w9 hs hf
        have TT := Lib.hid (HR.out w9 hs)
        clear hs hf
        go_wp2
        go_roundw
        case rel => exact ⟨k + 1, by omega, by go_num, HT0.out.trans TT.out (fun _ _ h => h)⟩
        case measure => simp [intOf]; omega

    | true =>
      refine wp_region_rel 46 Stp ((.one ?_) :: (.one ?_) :: (.one ?_) :: (.one ?_) :: (.one ?_) :: (.one ?_) :: (.one ?_) :: (.one ?_) :: (.one ?_) :: (.one ?_) :: (.one ?_) :: (.one ?_) :: (.one ?_) :: (.one ?_) :: (.one ?_) :: (.one ?_) :: (.one ?_) :: (.one ?_) :: (.one ?_) :: (.one ?_) :: (.one ?_) :: (.one ?_) :: (.one ?_) :: (.one ?_) :: (.one ?_) :: (.one ?_) :: (.one ?_) :: (.one ?_) :: (.one ?_) :: (.one ?_) :: (.one ?_) :: (.one ?_) :: (.one ?_) :: (.one ?_) :: []) (by kernel_rfl) (by kernel_rfl) rfl (by kernel_rfl) Stp.refl Stp.trans trivial ?main
      case main =>
        iterate 4
          refine wpR_one (A' := ?_) Stp.refl (by rfl) _ rfl 46 (by rfl) (by rfl) ?_ ?_ ?_
          rotate_left 1
          · simp only [Act.put, List.setIfInBounds_toArray, List.set_cons_zero, List.set_cons_succ]; rfl
          · intro w1 hs hf K hK
            go_big_quiet_op
            first
              | go_big_quiet_on
              | (refine ⟨_, fun _ _ => rfl, ?_⟩; go_big_quiet_on)
            rfl
        refine wpR_one (A' := ?_) Stp.refl (by rfl) _ rfl 46 (by rfl) (by rfl) ?_ ?_ ?_
        rotate_left 1
        · simp only [Act.put, List.setIfInBounds_toArray, List.set_cons_zero, List.set_cons_succ]; rfl
        · intro w1 hs hf K hK
          refine cls_load_cell 3 (.tmp 15) rfl ⟨bb, o + k * 2, none⟩ rfl (.int .i64 (tt : Int)) (fun w h => by simp [go_sem, h]) (fun w2 h2 => (HW.out w2 (Stp.trans _ _ _ hs h2)).cell (show w.cell? _ = _ from c0) (fun h => h)) ?_
          refine hK _ ?_
          simp only [Act.put, List.setIfInBounds_toArray, List.set_cons_zero, List.set_cons_succ]
          rfl
        iterate 1
          refine wpR_one (A' := ?_) Stp.refl (by rfl) _ rfl 46 (by rfl) (by rfl) ?_ ?_ ?_
          rotate_left 1
          · simp only [Act.put, List.setIfInBounds_toArray, List.set_cons_zero, List.set_cons_succ]; rfl
          · intro w1 hs hf K hK
            go_big_quiet_op
            first
              | go_big_quiet_on
              | (refine ⟨_, fun _ _ => rfl, ?_⟩; go_big_quiet_on)
            rfl
        refine wpR_one (A' := ?_) Stp.refl (by rfl) _ rfl 46 (by rfl) (by rfl) ?_ ?_ ?_
        rotate_left 1
        · simp only [Act.put, List.setIfInBounds_toArray, List.set_cons_zero, List.set_cons_succ]; rfl
        · intro w1 hs hf K hK
          refine cls_load_cell 3 (.tmp 17) rfl ⟨x, 0, none⟩ rfl (.int .i64 (T : Int)) (fun w h => by simp [go_sem, h]) (fun w2 h2 => (HZ.out w2 (Stp.trans _ _ _ hs h2)).cell (show wz.cell? _ = _ from x0) (fun h => h)) ?_
          refine hK _ ?_
          simp only [Act.put, List.setIfInBounds_toArray, List.set_cons_zero, List.set_cons_succ]
          rfl
        iterate 2
          refine wpR_one (A' := ?_) Stp.refl (by rfl) _ rfl 46 (by rfl) (by rfl) ?_ ?_ ?_
          rotate_left 1
          · simp only [Act.put, List.setIfInBounds_toArray, List.set_cons_zero, List.set_cons_succ]; rfl
          · intro w1 hs hf K hK
            go_big_quiet_op
            first
              | go_big_quiet_on
              | (refine ⟨_, fun _ _ => rfl, ?_⟩; go_big_quiet_on)
            rfl
        iterate 1
          refine wpR_one (A' := ?_) Stp.refl (by rfl) _ rfl 46 (by rfl) (by rfl) ?_ ?_ ?_
          rotate_left 1
          · simp only [Act.put, List.setIfInBounds_toArray, List.set_cons_zero, List.set_cons_succ]; rfl
          · intro w1 hs hf K hK
            go_big_quiet_op
            first
              | go_big_quiet_on
              | (refine ⟨_, fun _ _ => rfl, ?_⟩; go_big_quiet_on)
            rfl
        refine wpR_one (A' := ?_) Stp.refl (by rfl) _ rfl 46 (by rfl) (by rfl) ?_ ?_ ?_
        rotate_left 1
        · simp only [Act.put, List.setIfInBounds_toArray, List.set_cons_zero, List.set_cons_succ]; rfl
        · intro w1 hs hf K hK
          refine cls_load_cell 31 (.tmp 21) rfl ⟨x, 2, none⟩ rfl (.slice AL nL cL) (fun w h => by simp [go_sem, h]) (fun w2 h2 => (HZ.out w2 (Stp.trans _ _ _ hs h2)).cell (show wz.cell? _ = _ from x2) (fun h => h)) ?_
          refine hK _ ?_
          simp only [Act.put, List.setIfInBounds_toArray, List.set_cons_zero, List.set_cons_succ]
          rfl
        iterate 5
          refine wpR_one (A' := ?_) Stp.refl (by rfl) _ rfl 46 (by rfl) (by rfl) ?_ ?_ ?_
          rotate_left 1
          · simp only [Act.put, List.setIfInBounds_toArray, List.set_cons_zero, List.set_cons_succ]; rfl
          · intro w1 hs hf K hK
            go_big_quiet_op
            first
              | go_big_quiet_on
              | (refine ⟨_, fun _ _ => rfl, ?_⟩; go_big_quiet_on)
            rfl
        refine wpR_one (A' := ?_) Stp.refl (by rfl) _ rfl 46 (by rfl) (by rfl) ?_ ?_ ?_
        rotate_left 1
        · simp only [Act.put, List.setIfInBounds_toArray, List.set_cons_zero, List.set_cons_succ]; rfl
        · intro w1 hs hf K hK
          refine cls_load_cell 31 (.tmp 27) rfl ⟨bb, o + k * 2 + 1, none⟩ rfl (.slice Al nl cl) (fun w h => by simp [go_sem, h]) (fun w2 h2 => (HW.out w2 (Stp.trans _ _ _ hs h2)).cell (show w.cell? _ = _ from c1) (fun h => h)) ?_
          refine hK _ ?_
          simp only [Act.put, List.setIfInBounds_toArray, List.set_cons_zero, List.set_cons_succ]
          rfl
        iterate 2
          refine wpR_one (A' := ?_) Stp.refl (by rfl) _ rfl 46 (by rfl) (by rfl) ?_ ?_ ?_
          rotate_left 1
          · simp only [Act.put, List.setIfInBounds_toArray, List.set_cons_zero, List.set_cons_succ]; rfl
          · intro w1 hs hf K hK
            go_big_quiet_op
            first
              | go_big_quiet_on
              | (refine ⟨_, fun _ _ => rfl, ?_⟩; go_big_quiet_on)
            rfl
        iterate 2
          refine wpR_one (A' := ?_) Stp.refl (by rfl) _ rfl 46 (by rfl) (by rfl) ?_ ?_ ?_
          rotate_left 1
          · simp only [Act.put, List.setIfInBounds_toArray, List.set_cons_zero, List.set_cons_succ]; rfl
          · intro w1 hs hf K hK
            go_big_quiet_op
            first
              | go_big_quiet_on
              | (refine ⟨_, fun _ _ => rfl, ?_⟩; go_big_quiet_on)
            rfl
        iterate 1
          refine wpR_one (A' := ?_) Stp.refl (by rfl) _ rfl 46 (by rfl) (by rfl) ?_ ?_ ?_
          rotate_left 1
          · simp only [Act.put, List.setIfInBounds_toArray, List.set_cons_zero, List.set_cons_succ]; rfl
          · intro w1 hs hf K hK
            go_big_quiet_op
            first
              | go_big_quiet_on
              | (refine ⟨_, fun _ _ => rfl, ?_⟩; go_big_quiet_on)
            rfl
        refine wpR_one (A' := ?_) Stp.refl (by rfl) _ rfl 46 (by rfl) (by rfl) ?_ ?_ ?_
        rotate_left 1
        · simp only [Act.put, List.setIfInBounds_toArray, List.set_cons_zero, List.set_cons_succ]; rfl
        · intro w1 hs hf K hK
          refine cls_load_cell 31 (.tmp 33) rfl ⟨x, 2, none⟩ rfl (.slice AL nL cL) (fun w h => by simp [go_sem, h]) (fun w2 h2 => (HZ.out w2 (Stp.trans _ _ _ hs h2)).cell (show wz.cell? _ = _ from x2) (fun h => h)) ?_
          refine hK _ ?_
          simp only [Act.put, List.setIfInBounds_toArray, List.set_cons_zero, List.set_cons_succ]
          rfl
        iterate 4
          refine wpR_one (A' := ?_) Stp.refl (by rfl) _ rfl 46 (by rfl) (by rfl) ?_ ?_ ?_
          rotate_left 1
          · simp only [Act.put, List.setIfInBounds_toArray, List.set_cons_zero, List.set_cons_succ]; rfl
          · intro w1 hs hf K hK
            go_big_quiet_op
            first
              | go_big_quiet_on
              | (refine ⟨_, fun _ _ => rfl, ?_⟩; go_big_quiet_on)
            rfl
        refine wpR_one (A' := ?_) Stp.refl (by rfl) _ rfl 46 (by rfl) (by rfl) ?_ ?_ ?_
        rotate_left 1
        · simp only [Act.put, List.setIfInBounds_toArray, List.set_cons_zero, List.set_cons_succ]; rfl
        · intro w1 hs hf K hK
          refine cls_load_cell 31 (.tmp 38) rfl ⟨bb, o + k * 2 + 1, none⟩ rfl (.slice Al nl cl) (fun w h => by simp [go_sem, h]) (fun w2 h2 => (HW.out w2 (Stp.trans _ _ _ hs h2)).cell (show w.cell? _ = _ from c1) (fun h => h)) ?_
          refine hK _ ?_
          simp only [Act.put, List.setIfInBounds_toArray, List.set_cons_zero, List.set_cons_succ]
          rfl
        iterate 1
          refine wpR_one (A' := ?_) Stp.refl (by rfl) _ rfl 46 (by rfl) (by rfl) ?_ ?_ ?_
          rotate_left 1
          · simp only [Act.put, List.setIfInBounds_toArray, List.set_cons_zero, List.set_cons_succ]; rfl
          · intro w1 hs hf K hK
            go_big_quiet_op
            first
              | go_big_quiet_on
              | (refine ⟨_, fun _ _ => rfl, ?_⟩; go_big_quiet_on)
            rfl
        refine wpR_one (A' := ?_) Stp.refl (by rfl) _ rfl 46 (by rfl) (by rfl) ?_ ?_ ?_
        rotate_left 1
        · simp only [Act.put, List.setIfInBounds_toArray, List.set_cons_zero, List.set_cons_succ]; rfl
        · intro w1 hs hf K hK
          refine cls_load_cell 31 (.tmp 40) rfl ⟨x, 2, none⟩ rfl (.slice AL nL cL) (fun w h => by simp [go_sem, h]) (fun w2 h2 => (HZ.out w2 (Stp.trans _ _ _ hs h2)).cell (show wz.cell? _ = _ from x2) (fun h => h)) ?_
          refine hK _ ?_
          simp only [Act.put, List.setIfInBounds_toArray, List.set_cons_zero, List.set_cons_succ]
          rfl
        iterate 2
          refine wpR_one (A' := ?_) Stp.refl (by rfl) _ rfl 46 (by rfl) (by rfl) ?_ ?_ ?_
          rotate_left 1
          · simp only [Act.put, List.setIfInBounds_toArray, List.set_cons_zero, List.set_cons_succ]; rfl
          · intro w1 hs hf K hK
            go_big_quiet_op
            first
              | go_big_quiet_on
              | (refine ⟨_, fun _ _ => rfl, ?_⟩; go_big_quiet_on)
            rfl
        refine wpR_one (A' := ?_) Stp.refl (by rfl) _ rfl 46 (by rfl) (by rfl) ?_ ?_ ?_
        rotate_left 1
        · simp only [Act.put, List.setIfInBounds_toArray, List.set_cons_zero, List.set_cons_succ]; rfl
        · intro w1 hs hf K hK
          go_big_quiet_op
          apply Exists.intro
          refine ⟨fun w2 h2 => ?_, ?_⟩
          · have RS := rsame13_any AL Al cL cl L (l.take nL) w2 (HLX.out.below (turn_stp (HW.out w2 (Stp.trans _ _ _ hs h2)))) (lst_front (HLL.out.below (turn_stp (HW.out w2 (Stp.trans _ _ _ hs h2)))) nL) HLM.out HLK.out HLB.out HLC.out
            rw [HTK.out, ← HNL.out, ← HBV.out] at RS
            refine RS.mono ?_
            rintro e w3 ⟨rfl, m, rfl⟩
            exact ⟨rfl, Stp.trans _ _ _ h2 (turn_stp ((Turn.refl _ _).drewN m))⟩
          · go_big_quiet_on
            rfl
        iterate 1
          refine wpR_one (A' := ?_) Stp.refl (by rfl) _ rfl 46 (by rfl) (by rfl) ?_ ?_ ?_
          rotate_left 1
          · simp only [Act.put, List.setIfInBounds_toArray, List.set_cons_zero, List.set_cons_succ]; rfl
          · intro w1 hs hf K hK
            go_big_quiet_op
            first
              | go_big_quiet_on
              | (refine ⟨_, fun _ _ => rfl, ?_⟩; go_big_quiet_on)
            rfl
        intro w9 hs hf
        have TT := Lib.hid (HR.out w9 hs)
        clear hs hf
        go_wp2
        go_ret
        exact ⟨true, rfl, fun _ => ⟨_, HM.out, HEQ.out⟩, (HT0.out.trans TT.out (fun _ _ h => h)) |> fun t => HWZ.out.trans t (fun _ _ h => h)⟩
end
end Go.Proofs.YtajdcekkmikbcaaDoor
