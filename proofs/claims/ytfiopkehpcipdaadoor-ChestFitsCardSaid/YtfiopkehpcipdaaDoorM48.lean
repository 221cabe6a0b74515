/- Merged: The laws' is: has a chest what it should have? The answer where it has. What a chest does at first; the laws' awake. The laws' acts that came in, read: a slice of records {Do, At, B, M}. The law's great. A drum written sector by sector; a chest of the document's in a block. The landed chest's calls where nothing fails. -/
import Derived.Test.YtfiopkehpcipdaaDoorM47
import Derived.Test.YtfiopkehpcipdaaDoorM43
import Derived.Deep.MidRow
import Derived.Deep.WholeRow
import Derived.Test.YtfiopkehpcipdaaDoorM42
import Derived.Lib.AppendZerosOnto
namespace Go.Proofs.YtfiopkehpcipdaaDoor
section
set_option linter.unusedVariables false
set_option linter.unusedSimpArgs false
open Go.RowKit
set_option maxRecDepth 100000
/-- A list of texts. -/
def NtsT (ls : List (List B8)) (v : Value) (w : World) : Prop := ∃ A c, v = .slice A ls.length c ∧ Lst w A ls
theorem NtsT.stable {ls : List (List B8)} (v : Value) (w w' : World) (h : NtsT ls v w) (hs : Stp w w') : NtsT ls v w' := by
  obtain ⟨A, c, e, hl⟩ := h
  exact ⟨A, c, e, hl.below hs⟩
theorem lstn_tail {w : World} {ad : Addr} {c : Nat} {x : List B8} {ls : List (List B8)} (h : LstN w (some ad) (x :: ls)) (hc : ls.length + 1 ≤ c) : LstN w (cutA (some ad) c 1) ls := fun i xs hi => by
  obtain ⟨ad', Ai, ci, e, h1, h2, h3, h4⟩ := h (i + 1) xs hi
  injection e with e
  subst e
  have hlt := (List.getElem?_eq_some_iff.1 hi).1
  refine ⟨ad.add 1, Ai, ci, ?_, by rw [add_add, Nat.add_comm 1 i]; exact h1, h2, h3, h4⟩
  unfold cutA
  rw [if_neg (by omega)]; rfl
set_option maxHeartbeats 16000000 in
theorem is_yes (w : World) (g c n : Nat) (d : Dr) (k : Ck) (D E : Nat → Prop) (A : Option Addr) (cc : Nat) (h : KAt w g c n d k D E) (hn : n ≤ 8192) (hL : LstN w A k.L) (hA : A = none → cc = 0) (hc : k.L.length ≤ cc) (hleft : leftC k.t ((n / 2 : Nat) : Int) k.L = ((k.fin (n / 2) - k.p : Nat) : Int)) :
    Calls Tryd.prog 13 #[.pointer (some ⟨c, 0, none⟩), cstV k.t ((n / 2 : Nat) : Int) A k.L.length cc] w fun r w' => r = .returned (.bool true) ∧ Turn (fun _ => False) w w' := by
  have hfin := h.ok.fin
  have hp := h.ok.p
  have hb := h.ok.b
  have hm := h.ok.m
  have HK := Lib.hid h
  obtain ⟨ld, ok, ⟨s, hd, Ah, ch, NV, o, vs, bx, sb, hL1, -, -, -, -, -, hsc, hEs, hNE⟩, hEc, two, dj, lt⟩ := h
  obtain ⟨tl, htl⟩ : ∃ tl, tl = k.L.tail := ⟨_, rfl⟩
  have hkl : k.L = hd :: tl := by rw [htl]; exact hL1
  obtain ⟨nL, hnL⟩ : ∃ m, m = k.L.length := ⟨_, rfl⟩
  obtain ⟨lf, hlf⟩ : ∃ m, m = k.fin (n / 2) - k.p := ⟨_, rfl⟩
  have hn1 : nL = tl.length + 1 := by rw [hnL, hkl]; rfl
  have hL' := hL
  rw [hkl] at hL'
  obtain ⟨ad, Ai, ci, rfl, hcad, hci, hai, hbi⟩ := hL' 0 hd rfl
  rw [addr_zero0] at hcad
  obtain ⟨lh, hlh⟩ : ∃ m, m = hd.length := ⟨_, rfl⟩
  rw [← hlh] at hcad
  have hL3 := lstn_tail hL' (by rw [← hn1, hnL]; exact hc)
  obtain ⟨A3, hA3⟩ : ∃ x, x = cutA (some ad) cc 1 := ⟨_, rfl⟩
  obtain ⟨c3, hc3⟩ : ∃ x, x = cc - 1 := ⟨_, rfl⟩
  obtain ⟨tn, htn⟩ : ∃ x, x = tl.length := ⟨_, rfl⟩
  rw [← hA3] at hL3
  have SLI : ∀ w, (Instr.slice 31 (.slice (some ad) nL cc) (some (.int .i64 1)) none none).run Tryd.prog w = .ok (.slice A3 tn c3) w := fun w => by
    rw [run_slice_l (P := Tryd.prog) w 31 (some ad) nL cc (by kernel_rfl) .i64 1 (by omega) (by omega)]
    rw [show Tryd.prog.elem 31 = 36 by kernel_rfl, size_sl]
    simp only [Result.andThen, sliced, hA3, hc3, cutA, Nat.mul_one]
    rw [htn, show tl.length = nL - 1 by omega]
    rfl
  obtain ⟨cs3, hcs3⟩ : ∃ cs3 : List Value, cs3 = [.int .i64 k.t, .int .i64 ((n / 2 : Nat) : Int), .slice (some ad) nL cc] := ⟨_, rfl⟩
  obtain ⟨x, hx⟩ : ∃ x, x = w.heap.size := ⟨_, rfl⟩
  obtain ⟨wz, hwz⟩ : ∃ wz, wz = w.alloc (.cells #[.int .i64 k.t, .int .i64 ((n / 2 : Nat) : Int), .slice (some ad) nL cc] 33) := ⟨_, rfl⟩
  have tz : Turn (fun _ => False) w wz := by rw [hwz]; exact (Turn.refl _ _).alloc _
  have XB := Lib.hid (show wz.heap[x]? = some (.cells #[.int .i64 k.t, .int .i64 ((n / 2 : Nat) : Int), .slice (some ad) nL cc] 33 (0, 0)) by rw [hwz, hx]; exact heap_alloc_new _ _)
  have x2 : wz.cell? ⟨x, 2, none⟩ = some (.slice (some ad) nL cc) := by rw [cell_of_row _ _ _ _ _ _ XB.out]; rfl
  obtain ⟨q0, -⟩ := bx.cells
  have HWS := Lib.hid (show ∀ w2 : World, Stp wz.drew w2 → Turn (fun _ => False) w w2 from fun w2 hs => tz.drew.trans (Turn.of_below hs) (fun _ _ h => h))
  have KW := Lib.hid (show ∀ w2 : World, Stp wz.drew w2 → KAt w2 g c n d k D E from fun w2 hs => HK.out.quiet (HWS.out w2 hs))
  have AT := Lib.hid (show ∀ w2 : World, Stp wz.drew w2 → Ats SBp w2 g s n d (k.scr (n / 2)) D (fun j => j = s) from fun w2 hs => ⟨ld.quiet (HWS.out w2 hs), sbp_keep sb (HWS.out w2 hs) (fun _ _ h => h), fun j e => by subst e; exact dj _ hEs, fun j e => by subst e; exact Nat.lt_of_lt_of_le (lt _ hEs) (HWS.out w2 hs).size⟩)
  have HXR := Lib.hid (show ∀ w2 : World, Stp wz.drew w2 → w2.rangeAt x 0 cs3 from fun w2 hs => by
    have hb2 := (Turn.of_below hs).heap (show wz.drew.heap[x]? = _ from XB.out) (fun h => h)
    intro j v hj
    rw [cell_of_row _ _ _ _ _ _ hb2, Nat.zero_add]
    rw [hcs3] at hj
    show ([Value.int .i64 k.t, .int .i64 ((n / 2 : Nat) : Int), .slice (some ad) nL cc] : List Value).toArray[j]? = _
    rw [List.getElem?_toArray]
    exact hj)
  have KSZ := Lib.hid (show (Tryd.prog.info? 33).map (·.size) = some cs3.length by rw [hcs3]; kernel_rfl)
  have HSLI := Lib.hid (show SlN w (fun _ => False) Ai (hd.map bv) from fun j u hu => by obtain ⟨ad', e, hc⟩ := hbi j u hu; exact ⟨ad', e, fun h => h, hc⟩)
  have HKL := Lib.hid hkl
  have HTL := Lib.hid htl.symm
  have HLH := Lib.hid hlh
  have HHL := Lib.hid (show hd.length ≤ 900000 from hb hd (by rw [hkl]; exact List.mem_cons_self ..))
  have HTB := Lib.hid (show ∀ y ∈ tl, y.length ≤ 900000 from fun y hy => hb y (by rw [hkl]; exact List.mem_cons_of_mem _ hy))
  have HTM := Lib.hid (show tl.length ≤ 1000000 by omega)
  have HTN := Lib.hid htn
  have HL3 := Lib.hid hL3
  have HLL := Lib.hid hL
  have HML := Lib.hid hm
  have HBL := Lib.hid hb
  have HLFT := Lib.hid (hleft.trans (by rw [← hlf]))
  have HLF := Lib.hid hlf.symm
  have HNL := Lib.hid hnL
  have HP := Lib.hid hp
  have HF := Lib.hid hfin
  have HZS := Lib.hid (show w.heap.size ≤ wz.heap.size from tz.size)
  have HCS := Lib.hid hcs3
  have g0 : decide ((0 : Int) < (nL : Int)) = true := decide_eq_true (by omega)
  have g0' : decide (0 < nL) = true := decide_eq_true (by omega)
  have g1 : (0 : Int) < (nL : Int) := by omega
  have g2 : 0 < nL := by omega
  rw [← hnL]
  clear hfin hp hb hm ld ok bx sb hL1 hNE two dj lt htl hkl hL hL' hn1 hbi hL3 hA3 hc3 htn hleft hlf hnL hlh tz hcs3
  go_enter Tryd.func13, Tryd.ntmps13
  go_upto_region 1 with fail
  change Code.wp _ _ _ _ (w.alloc (.cells #[.int .i64 k.t, .int .i64 ((n / 2 : Nat) : Int), .slice (some ad) nL cc] 33))
  rw [← hwz, ← hx]
  clear hwz hx
  have SC15 : ∀ (v : Value) (w1 w2 : World), CpyT wz.heap.size hd v w1 → Stp w1 w2 → CpyT wz.heap.size hd v w2 := fun v w1 w2 h hs => h.stable _ _ _ _ _ hs
  have SC24 : ∀ (v : Value) (w1 w2 : World), NtsT tl v w1 → Stp w1 w2 → NtsT tl v w2 := fun v w1 w2 h hs => NtsT.stable _ _ _ h hs
  refine wp_region_rel 40 Stp ((.one ?_) :: (.one ?_) :: (.one ?_) :: (.one ?_) :: (.one ?_) :: (.one ?_) :: (.one ?_) :: (.one ?_) :: (.one ?_) :: (.one ?_) :: (.rel (CpyT wz.heap.size hd)) :: (.one ?_) :: (.one ?_) :: (.one ?_) :: (.one ?_) :: (.one ?_) :: (.one ?_) :: (.one ?_) :: (.one ?_) :: (.rel (NtsT tl)) :: (.one ?_) :: (.one ?_) :: (.one ?_) :: (.one ?_) :: (.one ?_) :: (.one ?_) :: (.one ?_) :: (.one ?_) :: (.one ?_) :: (.one ?_) :: (.one ?_) :: (.one ?_) :: (.one ?_) :: (.one ?_) :: (.one ?_) :: (.one ?_) :: []) (by kernel_rfl) (by kernel_rfl) rfl (by kernel_rfl) Stp.refl Stp.trans ⟨SC15, SC24, trivial⟩ ?main
  case main =>
  iterate 4
    refine wpR_one (A' := ?_) Stp.refl (by rfl) _ rfl 40 (by rfl) (by rfl) ?_ ?_ ?_
    rotate_left 1
    · simp only [Act.put, List.setIfInBounds_toArray, List.set_cons_zero, List.set_cons_succ]; rfl
    · intro w1 hs hf K hK
      go_big_quiet_op
      first
        | go_big_quiet_on
        | (refine ⟨_, fun _ _ => rfl, ?_⟩; go_big_quiet_on)
      rfl
  refine wpR_one (A' := ?_) Stp.refl (by rfl) _ rfl 40 (by rfl) (by rfl) ?_ ?_ ?_
  rotate_left 1
  · simp only [Act.put, List.setIfInBounds_toArray, List.set_cons_zero, List.set_cons_succ]; rfl
  · intro w1 hs hf K hK
    refine cls_load_cell 31 (.tmp 8) rfl ⟨x, 2, none⟩ rfl (.slice (some ad) nL cc) (fun w h => by simp [go_sem, h]) (fun w2 h2 => (Turn.of_below (Stp.trans _ _ _ hs h2)).cell (show wz.drew.cell? _ = _ from x2) (fun h => h)) ?_
    refine hK _ ?_
    simp only [Act.put, List.setIfInBounds_toArray, List.set_cons_zero, List.set_cons_succ]
    rfl
  iterate 5
    refine wpR_one (A' := ?_) Stp.refl (by rfl) _ rfl 40 (by rfl) (by rfl) ?_ ?_ ?_
    rotate_left 1
    · simp only [Act.put, List.setIfInBounds_toArray, List.set_cons_zero, List.set_cons_succ]; rfl
    · intro w1 hs hf K hK
      go_big_quiet_op
      first
        | go_big_quiet_on
        | (refine ⟨_, fun _ _ => rfl, ?_⟩; go_big_quiet_on)
      rfl
  refine wpR_rel (A' := ?_) (by rfl) ?_ ?_ ?_
  · intro w1 hs hf
    have K1 := KW.out w1 hs
    refine does_call (w' := w1) (f := 27) (args := #[.pointer (some ⟨c, 0, none⟩)]) (by kernel_rfl) ((khead_any w1 g c n d k D E K1).mono ?_)
    rintro r w2 ⟨hd2, v, hL2, rfl, ho2, t2⟩
    have e2 : hd2 = hd := by rw [HKL.out] at hL2; injection hL2 with e _; exact e.symm
    subst e2
    exact ⟨v, rfl, cpyT_of (own_less ho2 hs.size), turn_stp t2⟩
  rotate_left 1
  · intro x
    simp only [Act.put, List.setIfInBounds_toArray, List.set_cons_zero, List.set_cons_succ]; rfl
  intro x15
  iterate 1
    refine wpR_one (A' := ?_) Stp.refl (by rfl) _ rfl 40 (by rfl) (by rfl) ?_ ?_ ?_
    rotate_left 1
    · simp only [Act.put, List.setIfInBounds_toArray, List.set_cons_zero, List.set_cons_succ]; rfl
    · intro w1 hs hf K hK
      go_big_quiet_op
      first
        | go_big_quiet_on
        | (refine ⟨_, fun _ _ => rfl, ?_⟩; go_big_quiet_on)
      rfl
  refine wpR_one (A' := ?_) Stp.refl (by rfl) _ rfl 40 (by rfl) (by rfl) ?_ ?_ ?_
  rotate_left 1
  · simp only [Act.put, List.setIfInBounds_toArray, List.set_cons_zero, List.set_cons_succ]; rfl
  · intro w1 hs hf K hK
    refine cls_load_cell 31 (.tmp 16) rfl ⟨x, 2, none⟩ rfl (.slice (some ad) nL cc) (fun w h => by simp [go_sem, h]) (fun w2 h2 => (Turn.of_below (Stp.trans _ _ _ hs h2)).cell (show wz.drew.cell? _ = _ from x2) (fun h => h)) ?_
    refine hK _ ?_
    simp only [Act.put, List.setIfInBounds_toArray, List.set_cons_zero, List.set_cons_succ]
    rfl
  iterate 1
    refine wpR_one (A' := ?_) Stp.refl (by rfl) _ rfl 40 (by rfl) (by rfl) ?_ ?_ ?_
    rotate_left 1
    · simp only [Act.put, List.setIfInBounds_toArray, List.set_cons_zero, List.set_cons_succ]; rfl
    · intro w1 hs hf K hK
      go_big_quiet_op
      first
        | go_big_quiet_on
        | (refine ⟨_, fun _ _ => rfl, ?_⟩; go_big_quiet_on)
      rfl
  refine wpR_one (A' := ?_) Stp.refl (by rfl) _ rfl 40 (by rfl) (by rfl) ?_ ?_ ?_
  rotate_left 1
  · simp only [Act.put, List.setIfInBounds_toArray, List.set_cons_zero, List.set_cons_succ]; rfl
  · intro w1 hs hf K hK
    refine cls_load_cell 36 (.tmp 18) rfl ad rfl (.slice Ai lh ci) (fun w h => by simp [go_sem, h]) (fun w2 h2 => (HWS.out w2 (Stp.trans _ _ _ hs h2)).cell (show w.cell? _ = _ from hcad) (fun h => h)) ?_
    refine hK _ ?_
    simp only [Act.put, List.setIfInBounds_toArray, List.set_cons_zero, List.set_cons_succ]
    rfl
  refine wpR_one (A' := ?_) Stp.refl (by rfl) _ rfl 40 (by rfl) (by rfl) ?_ ?_ ?_
  rotate_left 1
  · simp only [Act.put, List.setIfInBounds_toArray, List.set_cons_zero, List.set_cons_succ]; rfl
  · intro w1 hs hf K hK
    go_big_quiet_op
    apply Exists.intro
    refine ⟨fun w2 h2 => ?_, ?_⟩
    · obtain ⟨A15, c15, e15, ho15⟩ := CpyT.stable _ _ _ _ _ (show CpyT _ hd x15 w1 from AllF_at hf 0 rfl (by kernel_rfl)) h2
      have e15 : x15 = .slice A15 hd.length c15 := e15
      have ho15 : w2.ownsRow wz.heap.size 5 1 x15 hd.length (hd.map bv) := ho15
      rw [e15] at ho15
      rw [← HLH.out] at e15
      rw [e15]
      have hb1 := own_sl ho15
      obtain ⟨A9, c9, e9, sl9, -⟩ := hb1
      injection e9 with e9 e9b e9c
      subst e9
      have RB := rbytes_any A15 Ai c15 ci _ _ hd hd w2 sl9 (HSLI.out.turn (N' := fun _ => False) (HWS.out w2 (Stp.trans _ _ _ hs h2)) (fun _ h => h.elim) (fun _ _ h => h.elim)).sl (by unfold maxLen; have := HHL.out; omega) (by unfold maxLen; have := HHL.out; omega)
      rw [← HLH.out, decide_eq_true (show hd = hd from rfl)] at RB
      refine RB.mono ?_
      rintro e w3 ⟨rfl, m, rfl⟩
      exact ⟨rfl, Stp.trans _ _ _ h2 (turn_stp ((Turn.refl _ _).drewN m))⟩
    · go_big_quiet_on
      rfl
  iterate 3
    refine wpR_one (A' := ?_) Stp.refl (by rfl) _ rfl 40 (by rfl) (by rfl) ?_ ?_ ?_
    rotate_left 1
    · simp only [Act.put, List.setIfInBounds_toArray, List.set_cons_zero, List.set_cons_succ]; rfl
    · intro w1 hs hf K hK
      go_big_quiet_op
      first
        | go_big_quiet_on
        | (refine ⟨_, fun _ _ => rfl, ?_⟩; go_big_quiet_on)
      rfl
  refine wpR_rel (A' := ?_) (by rfl) ?_ ?_ ?_
  · intro w1 hs hf
    have K1 := KW.out w1 hs
    refine does_call (w' := w1) (f := 30) (args := #[.pointer (some ⟨c, 0, none⟩)]) (by kernel_rfl) ((knotes_any w1 g c n d k D E K1).mono ?_)
    rintro r w2 ⟨An, cn, rfl, hl2, -, -, t2⟩
    rw [HTL.out] at hl2 ⊢
    exact ⟨_, rfl, ⟨An, cn, rfl, hl2.lst⟩, turn_stp t2⟩
  rotate_left 1
  · intro x
    simp only [Act.put, List.setIfInBounds_toArray, List.set_cons_zero, List.set_cons_succ]; rfl
  intro x24
  iterate 1
    refine wpR_one (A' := ?_) Stp.refl (by rfl) _ rfl 40 (by rfl) (by rfl) ?_ ?_ ?_
    rotate_left 1
    · simp only [Act.put, List.setIfInBounds_toArray, List.set_cons_zero, List.set_cons_succ]; rfl
    · intro w1 hs hf K hK
      go_big_quiet_op
      first
        | go_big_quiet_on
        | (refine ⟨_, fun _ _ => rfl, ?_⟩; go_big_quiet_on)
      rfl
  refine wpR_one (A' := ?_) Stp.refl (by rfl) _ rfl 40 (by rfl) (by rfl) ?_ ?_ ?_
  rotate_left 1
  · simp only [Act.put, List.setIfInBounds_toArray, List.set_cons_zero, List.set_cons_succ]; rfl
  · intro w1 hs hf K hK
    refine cls_load_cell 31 (.tmp 25) rfl ⟨x, 2, none⟩ rfl (.slice (some ad) nL cc) (fun w h => by simp [go_sem, h]) (fun w2 h2 => (Turn.of_below (Stp.trans _ _ _ hs h2)).cell (show wz.drew.cell? _ = _ from x2) (fun h => h)) ?_
    refine hK _ ?_
    simp only [Act.put, List.setIfInBounds_toArray, List.set_cons_zero, List.set_cons_succ]
    rfl
  iterate 1
    refine wpR_one (A' := ?_) Stp.refl (by rfl) _ rfl 40 (by rfl) (by rfl) ?_ ?_ ?_
    rotate_left 1
    · simp only [Act.put, List.setIfInBounds_toArray, List.set_cons_zero, List.set_cons_succ]; rfl
    · intro w1 hs hf K hK
      go_big_quiet_op
      first
        | go_big_quiet_on
        | (refine ⟨_, fun _ _ => rfl, ?_⟩; go_big_quiet_on)
      rfl
  refine wpR_one (A' := ?_) Stp.refl (by rfl) _ rfl 40 (by rfl) (by rfl) ?_ ?_ ?_
  rotate_left 1
  · simp only [Act.put, List.setIfInBounds_toArray, List.set_cons_zero, List.set_cons_succ]; rfl
  · intro w1 hs hf K hK
    go_big_quiet_op
    apply Exists.intro
    refine ⟨fun w2 h2 => ?_, ?_⟩
    · obtain ⟨A24, c24, e24, hl24⟩ := NtsT.stable _ _ _ (show NtsT tl x24 w1 from AllF_at hf 0 rfl (by kernel_rfl)) h2
      have e24 : x24 = .slice A24 tl.length c24 := e24
      rw [e24]
      have hl3 := LstN.lst (HL3.out.below (turn_stp (HWS.out w2 (Stp.trans _ _ _ hs h2))))
      have RS := rsame13_any A24 A3 c24 c3 tl tl w2 hl24 hl3 HTM.out HTM.out (fun y hy => Nat.le_trans (HTB.out y hy) (by unfold maxLen; omega)) (fun y hy => Nat.le_trans (HTB.out y hy) (by unfold maxLen; omega))
      rw [← HTN.out, decide_eq_true (show tl = tl from rfl)] at RS
      rw [← HTN.out]
      refine RS.mono ?_
      rintro e w3 ⟨rfl, m, rfl⟩
      exact ⟨rfl, Stp.trans _ _ _ h2 (turn_stp ((Turn.refl _ _).drewN m))⟩
    · go_big_quiet_on
      rfl
  iterate 5
    refine wpR_one (A' := ?_) Stp.refl (by rfl) _ rfl 40 (by rfl) (by rfl) ?_ ?_ ?_
    rotate_left 1
    · simp only [Act.put, List.setIfInBounds_toArray, List.set_cons_zero, List.set_cons_succ]; rfl
    · intro w1 hs hf K hK
      go_big_quiet_op
      first
        | go_big_quiet_on
        | (refine ⟨_, fun _ _ => rfl, ?_⟩; go_big_quiet_on)
      rfl
  refine wpR_one (A' := ?_) Stp.refl (by rfl) _ rfl 40 (by rfl) (by rfl) ?_ ?_ ?_
  rotate_left 1
  · simp only [Act.put, List.setIfInBounds_toArray, List.set_cons_zero, List.set_cons_succ]; rfl
  · intro w1 hs hf K hK
    refine cls_load_cell 45 (.tmp 33) rfl ⟨c, 0, none⟩ rfl (.pointer (some ⟨s, 0, none⟩)) (fun w h => by simp [go_sem, h]) (fun w2 h2 => (HWS.out w2 (Stp.trans _ _ _ hs h2)).cell (show w.cell? _ = _ from q0) (fun h => h)) ?_
    refine hK _ ?_
    simp only [Act.put, List.setIfInBounds_toArray, List.set_cons_zero, List.set_cons_succ]
    rfl
  refine wpR_one (A' := ?_) Stp.refl (by rfl) _ rfl 40 (by rfl) (by rfl) ?_ ?_ ?_
  rotate_left 1
  · simp only [Act.put, List.setIfInBounds_toArray, List.set_cons_zero, List.set_cons_succ]; rfl
  · intro w1 hs hf K hK
    go_big_quiet_op
    apply Exists.intro
    refine ⟨fun w2 h2 => ?_, ?_⟩
    · refine (lleft_any w2 g s n d (k.scr (n / 2)) D (fun j => j = s) (AT.out w2 (Stp.trans _ _ _ hs h2)) rfl HP.out HF.out hn).mono ?_
      rintro e w3 ⟨rfl, rfl⟩
      exact ⟨by rw [show (k.scr (n / 2)).fin - (k.scr (n / 2)).pos = lf from HLF.out], h2⟩
    · go_big_quiet_on
      rfl
  refine wpR_one (A' := ?_) Stp.refl (by rfl) _ rfl 40 (by rfl) (by rfl) ?_ ?_ ?_
  rotate_left 1
  · simp only [Act.put, List.setIfInBounds_toArray, List.set_cons_zero, List.set_cons_succ]; rfl
  · intro w1 hs hf K hK
    refine cls_load 33 (.tmp 3) rfl (x) (0) rfl (cs3) _ (fun w2 h2 => HXR.out w2 (Stp.trans _ _ _ hs h2)) Tryd.underlying33 rfl KSZ.out ?_
    refine hK _ ?_
    simp only [Act.put, List.setIfInBounds_toArray, List.set_cons_zero, List.set_cons_succ]
    rfl
  refine wpR_one (A' := ?_) Stp.refl (by rfl) _ rfl 40 (by rfl) (by rfl) ?_ ?_ ?_
  rotate_left 1
  · simp only [Act.put, List.setIfInBounds_toArray, List.set_cons_zero, List.set_cons_succ]; rfl
  · intro w1 hs hf K hK
    go_big_quiet_op
    apply Exists.intro
    refine ⟨fun w2 h2 => ?_, ?_⟩
    · have RL := rleft_any (k.t : Int) ((n / 2 : Nat) : Int) (some ad) cc k.L w2 (HLL.out.below (turn_stp (HWS.out w2 (Stp.trans _ _ _ hs h2)))) HML.out HBL.out (by omega) (by omega)
      rw [HLFT.out, ← HNL.out] at RL
      rw [show (Value.agg cs3.toArray) = cstV (k.t : Int) ((n / 2 : Nat) : Int) (some ad) nL cc by rw [HCS.out]; rfl]
      refine RL.mono ?_
      rintro e w3 ⟨rfl, h3⟩
      exact ⟨rfl, Stp.trans _ _ _ h2 h3⟩
    · go_big_quiet_on
      rfl
  iterate 3
    refine wpR_one (A' := ?_) Stp.refl (by rfl) _ rfl 40 (by rfl) (by rfl) ?_ ?_ ?_
    rotate_left 1
    · simp only [Act.put, List.setIfInBounds_toArray, List.set_cons_zero, List.set_cons_succ]; rfl
    · intro w1 hs hf K hK
      go_big_quiet_op
      first
        | go_big_quiet_on
        | (refine ⟨_, fun _ _ => rfl, ?_⟩; go_big_quiet_on)
      rfl
  intro w9 hs hf
  have TT := HWS.out w9 hs
  have HTT := Lib.hid TT
  clear TT hs hf
  go_wp2
  go_ret
  exact ⟨rfl, HTT.out⟩
end
section
set_option linter.unusedVariables false
set_option linter.unusedSimpArgs false
open Go.RowKit
set_option maxRecDepth 100000
theorem form_secs {t n : Nat} {b : List B8} (h : formE13 (t : Int) (n : Int) b = 0) : secsOf (formV13 (t : Int) (n : Int) b) = (12 + (fldS t n b).length + 63) / 64 := by
  rw [secs_of_form h]
  have h1 := laidS_len (fldS t n b)
  show (laidS (fldS t n b)).length / 64 = _
  rw [h1]
  unfold secPad
  omega
theorem fnd_new (n : Nat) : (fnd (Dr.new n) n).2 < 1 := by
  have h0 : ∀ i, i ≤ 1 → pkT (Dr.new n) n i = 0 := fun i hi => by
    refine pkT_none ?_
    have hc : cutD (Dr.new n) (i * (n / 2)) (n / 2) = zeros (64 * (n / 2)) := cut_zeros _ _ fun k hk => by
      have hb : i * (n / 2) + n / 2 ≤ n := by
        rcases Nat.lt_or_ge i 1 with h1 | h1
        · obtain rfl : i = 0 := by omega
          omega
        · obtain rfl : i = 1 := by omega
          omega
      exact (Inv.new n (i * (n / 2)) (n / 2) 0 hb (Nat.zero_le _)).zero k (Nat.zero_le _) hk
    rw [hc]
    exact zeros_none _
  rw [show fnd (Dr.new n) n = fndK (Dr.new n) n 1 (fndK (Dr.new n) n 0 (0, 0)) from rfl]
  rw [show fndK (Dr.new n) n 0 (0, 0) = (0, 0) from if_neg (by rw [h0 0 (by omega)]; simp)]
  rw [show fndK (Dr.new n) n 1 (0, 0) = (0, 0) from if_neg (by rw [h0 1 (by omega)]; simp)]
  show 0 < 1
  omega
/-- A chest on a new drum. -/
theorem chest_new {n : Nat} (hn : 2 ≤ n) : (begR (Dr.new n) n).2 = 0 ∧ CG (begR (Dr.new n) n).1 n (begK (Dr.new n) n) ∧ (begR (Dr.new n) n).1.W = [] ∧ begK (Dr.new n) n = ⟨0, 1, [[]], 1⟩ := by
  obtain ⟨h1, h2, h3, -, -⟩ := fresh_on (OnD.new n) hn (fnd_new n)
  refine ⟨h1, h2, h3, ?_⟩
  unfold begK
  rw [if_pos (fnd_new n)]
  have := form_nil.2
  rw [show secsOf (formV13 ((1 : Nat) : Int) 0 []) = 1 from this]
  simp
theorem kleft_any {w : World} {g c n : Nat} {d : Dr} {k : Ck} {D E : Nat → Prop} (h : KAt w g c n d k D E) (hn : n ≤ 8192) : ∃ s, w.cell? ⟨c, 0, none⟩ = some (.pointer (some ⟨s, 0, none⟩)) ∧ Calls Tryd.prog 28 #[.pointer (some ⟨s, 0, none⟩)] w fun r w' => r = .returned (.int .i64 ((k.fin (n / 2) - k.p : Nat) : Int)) ∧ w' = w := by
  have hfin := h.ok.fin
  have hp := h.ok.p
  obtain ⟨ld, ok, ⟨s, hd, Ah, ch, NV, o, vs, bx, sb, hL1, hh, hAh, hch, ho, hv, hsc, hEs, hNE⟩, hEc, two, dj, lt⟩ := h
  obtain ⟨c0, -⟩ := bx.cells
  exact ⟨s, c0, lleft_any w g s n d (k.scr (n / 2)) D (fun j => j = s) ⟨ld, sb, fun j e => by subst e; exact dj _ hEs, fun j e => by subst e; exact lt _ hEs⟩ rfl hp hfin hn⟩
theorem fld_five : (fldS 1 1 [5]).length = 7 := by
  have h2 : klen 1 = 1 := klen_one (by omega) (by omega)
  simp [fldS, numB_len, h2]
/-- Keep of one byte on a chest of a new drum of 7 sectors. -/
theorem five_on {d : Dr} (h : CG d 7 ⟨0, 1, [[]], 1⟩) : ((Ck.mk 0 1 [[]] 1).scr 3).putE d [5] = 0 ∧ ((Ck.mk 0 1 [[]] 1).scr 3).pre [5] = 0 ∧ CG (((Ck.mk 0 1 [[]] 1).scr 3).putD d [5]) 7 ⟨0, 1, [[], [5]], 2⟩ := by
  have hE : formE13 ((1 : Nat) : Int) ((1 : Nat) : Int) [5] = 0 := formE_ok (by unfold mostS; omega) (by unfold mostS; omega) (by rw [fld_five]; omega)
  have hS : secsOf (formV13 ((1 : Nat) : Int) ((1 : Nat) : Int) [5]) = 1 := by rw [form_secs hE, fld_five]
  obtain ⟨k1, k2, k3, k4⟩ := h.keep [5] (by show 1 < mostS; unfold mostS; omega)
  have hpre : ((Ck.mk 0 1 [[]] 1).scr 3).pre [5] = 0 := by
    unfold Scr.pre
    rw [if_neg (by simp [Ck.scr]), if_neg (show ¬ (((Ck.mk 0 1 [[]] 1).scr 3).formE [5] ≠ 0) from fun h => h hE), if_neg (show ¬ ((Ck.mk 0 1 [[]] 1).scr 3).fin < ((Ck.mk 0 1 [[]] 1).scr 3).pos + secsOf (((Ck.mk 0 1 [[]] 1).scr 3).form [5]) from (show ¬ (3 : Nat) < 1 + secsOf (formV13 ((1 : Nat) : Int) ((1 : Nat) : Int) [5]) by omega))]
  have h0 := k2 hpre
  refine ⟨h0, hpre, ?_⟩
  have h5 := (k4 h0).1
  have e : (Ck.mk (Ck.mk 0 1 [[]] 1).a (Ck.mk 0 1 [[]] 1).t ((Ck.mk 0 1 [[]] 1).L ++ [[5]]) ((Ck.mk 0 1 [[]] 1).p + secsOf (formV13 (((Ck.mk 0 1 [[]] 1).t : Nat) : Int) (((Ck.mk 0 1 [[]] 1).L.length : Nat) : Int) [5]))) = Ck.mk 0 1 [[], [5]] 2 := by
    show Ck.mk 0 1 [[], [5]] (1 + secsOf (formV13 ((1 : Nat) : Int) ((1 : Nat) : Int) [5])) = _
    rw [hS]
  rw [e] at h5
  exact h5
set_option maxHeartbeats 8000000 in
theorem awake14 (w : World) (hG : Glob w) : Calls Tryd.prog 9 #[] w fun r w' => r = .returned (.bool true) ∧ Turn (fun _ => False) w w' := by
  have NW := Lib.hid (LD.new 7 (by omega) (by omega) w hG)
  obtain ⟨b1, b2, b3, b4⟩ := chest_new (n := 7) (by omega)
  rw [b4] at b2
  obtain ⟨k1, k2, k3⟩ := five_on b2
  have K1 := Lib.hid (And.intro k1 (And.intro k2 k3))
  have HB := Lib.hid (And.intro b1 (And.intro b2 (And.intro b3 b4)))
  have HG := Lib.hid hG
  clear b1 b2 b3 b4 k1 k2 k3 hG
  go_enter Tryd.func9, Tryd.ntmps9
  go_wp2_with (go_at_call 10; refine stop ?_)
  unfold Stop
  refine NW.out.mono ?_
  rintro r wa ⟨g, rfl, l1, t1⟩
  have OP := Lib.hid (kopen_any wa g 7 (Dr.new 7) _ l1 rfl (by omega) (by omega) (by show 0 + 3 + 1024 < 10000; omega))
  have T1 := Lib.hid t1
  clear NW l1 t1
  go_wp2_with (go_at_call 11; refine stop ?_)
  unfold Stop
  refine OP.out.mono ?_
  rintro r wb ⟨D2, hD2, t2, hpost⟩
  rcases hpost with ⟨-, c, E2, rfl, ka, hE2⟩ | ⟨he, -⟩
  rotate_left 1
  · exact absurd HB.out.1 he
  rw [HB.out.2.2.2] at ka
  have KA := Lib.hid ka
  have TW := Lib.hid (show Turn (fun _ => False) w wb from T1.out.trans t2 (fun k hk h => by have := h.1; omega))
  have DE := Lib.hid (show (∀ k, D2 k → w.heap.size ≤ k) ∧ (∀ k, E2 k → w.heap.size ≤ k) from ⟨fun k hk => (hD2 k hk).elim (fun h => h.1) (fun h => Nat.le_trans T1.out.size h.1), fun k hk => Nat.le_trans T1.out.size (hE2 k hk).1⟩)
  have NO := Lib.hid (kopen_nil wb)
  clear OP ka t2 hD2 hE2
  obtain ⟨s, c0, LF⟩ := kleft_any KA.out (by omega)
  have LF := Lib.hid (show Calls Tryd.prog 28 #[.pointer (some ⟨s, 0, none⟩)] wb fun r w' => r = .returned (.int .i64 2) ∧ w' = wb from LF)
  go_wp2_with (first
    | (go_at_call 11; refine NO.out.mono ?_; clear NO; rintro r w2 ⟨rfl, hw⟩; rw [hw]; clear hw)
    | (go_at_call 28; refine LF.out.mono ?_; clear LF; rintro r w2 ⟨rfl, hw⟩; rw [hw]; clear hw)
    | (go_at_call 15; refine stop ?_))
  unfold Stop
  have t5 : Turn (fun _ => False) wb (wb.alloc (.cells #[.int .u8 5] 5)) := (Turn.refl _ _).alloc _
  have S5 : SlN (wb.alloc (.cells #[.int .u8 5] 5)) (fun j => D2 j ∨ E2 j) (some ⟨wb.heap.size, 0, none⟩) (([5] : List B8).map bv) := fun j u hu => by
    match j, hu with
    | 0, hu =>
      injection hu with hu
      subst hu
      refine ⟨_, rfl, fun h => ?_, by rw [Addr.add_lit, cell_of_row _ _ _ _ _ _ (heap_alloc_new _ _)]; rfl⟩
      rcases h with h | h
      · exact absurd (KA.out.ld.lt _ h) (Nat.lt_irrefl _)
      · exact absurd (KA.out.lt _ h) (Nat.lt_irrefl _)
  have KP := kkeep_any _ g c 7 _ _ D2 E2 (some ⟨wb.heap.size, 0, none⟩) 1 [5] (KA.out.quiet t5) (by omega) S5 (fun e => by cases e) (Nat.le_refl _) (by show 1 ≤ 900000; omega) (by show 1 < 1000000; omega) (by rw [HB.out.2.2.1]; show 0 + 1024 < 10000; omega)
  have T5 := Lib.hid t5
  clear t5 S5 c0
  refine KP.mono ?_
  rintro r wc ⟨D3, E3, rfl, hD3, hE3, t3, hpost⟩
  have hPE : ((Ck.mk 0 1 [[]] 1).scr (7 / 2)).putE (begR (Dr.new 7) 7).1 [5] = 0 := K1.out.1
  have hPR : ((Ck.mk 0 1 [[]] 1).scr (7 / 2)).pre [5] = 0 := K1.out.2.1
  rw [hPE] at hpost ⊢
  rcases hpost with ⟨-, ka⟩ | ⟨h, -⟩ | ⟨h, -⟩
  rotate_left 1
  · exact absurd hPR h
  · exact absurd rfl h
  have T3 := Lib.hid (show Turn (fun _ => False) w wc from (TW.out.trans T5.out (fun _ _ h => h)).trans t3 (fun k hk h => h.elim (fun h => by have := DE.out.1 k h; omega) (fun h => by have := DE.out.2 k h; omega)))
  have hS : secsOf (formV13 ((1 : Nat) : Int) ((1 : Nat) : Int) [5]) = 1 := by
    have hE : formE13 ((1 : Nat) : Int) ((1 : Nat) : Int) [5] = 0 := formE_ok (by unfold mostS; omega) (by unfold mostS; omega) (by rw [fld_five]; omega)
    rw [form_secs hE, fld_five]
  have ka' : KAt wc g c 7 (((Ck.mk 0 1 [[]] 1).scr (7 / 2)).putD (begR (Dr.new 7) 7).1 [5]) (Ck.mk 0 1 [[], [5]] (1 + secsOf (formV13 ((1 : Nat) : Int) ((1 : Nat) : Int) [5]))) D3 E3 := ka
  rw [hS] at ka'
  have KA3 := Lib.hid ka'
  obtain ⟨s3, c3, LF3⟩ := kleft_any KA3.out (by omega)
  have LF3 := Lib.hid (show Calls Tryd.prog 28 #[.pointer (some ⟨s3, 0, none⟩)] wc fun r w' => r = .returned (.int .i64 1) ∧ w' = wc from LF3)
  have NT := Lib.hid (knotes_any wc g c 7 _ _ D3 E3 KA3.out)
  clear KP ka ka' hPE hPR hS hD3 hE3 t3
  go_wp2_with (first
    | (go_at_call 28; refine LF3.out.mono ?_; clear LF3; rintro r w2 ⟨rfl, hw⟩; rw [hw]; clear hw)
    | (go_at_call 30; refine stop ?_))
  unfold Stop
  refine NT.out.mono ?_
  rintro r wd ⟨An, cn, rfl, hl, hcn, hAn, t4⟩
  obtain ⟨ad, Ai, ci, rfl, hcad, hci, hai, hbi⟩ := hl 0 [5] rfl
  obtain ⟨ad5, rfl, hc5o⟩ := hbi 0 (bv 5) rfl
  rw [addr_zero0] at hcad hc5o
  have KA4 := Lib.hid (KA3.out.quiet t4)
  have HD := Lib.hid (khead_any wd g c 7 _ _ D3 E3 KA4.out)
  have T4 := Lib.hid (T3.out.trans t4 (fun _ _ h => h.elim))
  have hc5 : wd.cell? ad5 = some (.int .u8 5) := hc5o
  clear hc5o
  have hcad' : wd.cell? ad = some (.slice (some ad5) 1 ci) := hcad
  clear hcad
  clear NT hl hci hai hbi t4 c3
  go_wp2_with (go_at_call 27; refine stop ?_)
  unfold Stop
  refine HD.out.mono ?_
  rintro r we ⟨hd, v, hL, rfl, ho, t5⟩
  have hL : ([[], [5]] : List (List B8)) = hd :: [[5]] := hL
  injection hL with hL _
  subst hL
  obtain ⟨Ah, ch, rfl, -⟩ := own_sl ho
  have T6 := Lib.hid (T4.out.trans t5 (fun _ _ h => h.elim))
  clear HD ho t5
  go_wp2
  go_ret
  exact ⟨rfl, T6.out⟩
end
section
set_option linter.unusedVariables false
open Go.RowKit Go.ChangeShapes Go.WideShapes Go.ChangeAt
set_option maxRecDepth 100000
/-- An act, as it lies. -/
structure Ac where
  k : Int
  n : Int
  A : Option Addr
  c : Nat
  b : List B8
  A' : Option Addr
  c' : Nat
  m : List B8
def Ac.cells (f : Ac) : List Value := [.int .i64 f.k, .int .i64 f.n, .slice f.A f.b.length f.c, .slice f.A' f.m.length f.c']
/-- An act whose bytes lie below block B. -/
structure Ac.ok (f : Ac) (w : World) (B : Nat) : Prop where
  k0 : -9223372036854775808 ≤ f.k
  k1 : f.k < 9223372036854775808
  n0 : -9223372036854775808 ≤ f.n
  n1 : f.n < 9223372036854775808
  s : Sl w B f.A (f.b.map bv)
  a : f.A = none → f.c = 0
  c : f.b.length ≤ f.c
  l : f.b.length ≤ maxLen
  s' : Sl w B f.A' (f.m.map bv)
  a' : f.A' = none → f.c' = 0
  c' : f.m.length ≤ f.c'
  l' : f.m.length ≤ maxLen
section
variable {H : Type} {enc : TypeId × Value → H} {W : World} {fuel : Nat} {x : DataW H × List MemPlace}
/-- A slice of acts that came in: each lies where its place says. -/
def Acs (w : World) (B : Nat) (A : Option Addr) (l : List Ac) : Prop := ∀ i f, l[i]? = some f → f.ok w B ∧ ∃ b o, A = some ⟨b, o, none⟩ ∧ b < B ∧ w.rangeAt b (o + i * 4) f.cells
end
end
section
set_option linter.unusedVariables false
set_option linter.unusedSimpArgs false
open Go.RowKit
set_option maxRecDepth 100000
def ActOk (f : Ac) : Prop := f.b.length ≤ 300 ∧ f.m.length ≤ 80
set_option maxHeartbeats 4000000 in
theorem great14_any (A : Option Addr) (c : Nat) (l : List Ac) (w : World) (hl : Acs w w.heap.size A l) (hm : l.length ≤ maxLen) :
    Calls Tryd.prog 8 #[.slice A l.length c] w fun r w' => ∃ v, r = .returned (.bool v) ∧ (v = false → l.length ≤ 30 ∧ ∀ f ∈ l, ActOk f) ∧ w' = w := by
  have HL := Lib.hid hl
  unfold maxLen at hm
  clear hl
  go_enter Tryd.func8, Tryd.ntmps8
  go_wp2
  go_loopw [3] (fun iv wr => ∃ k : Nat, k ≤ l.length ∧ k ≤ 30 ∧ iv = .int .i64 (k : Int) ∧ (∀ i f, i < k → l[i]? = some f → ActOk f) ∧ wr = w) (fun iv _ => l.length - (intOf iv).toNat)
  case atStart => exact ⟨0, by omega, by omega, rfl, fun i f h => by omega, rfl⟩
  case round =>
    obtain ⟨k, hk, hk30, rfl, ha, rfl⟩ := hrel
    have HA := Lib.hid ha
    clear ha
    by_cases h1 : k < l.length
    rotate_left 1
    · have hkl : k = l.length := by omega
      have d1 : decide ((k : Int) < (l.length : Int)) = false := decide_eq_false (by omega)
      have d2 : decide ((30 : Int) < (l.length : Int)) = false := decide_eq_false (by omega)
      go_wp2
      go_ret
      refine ⟨_, rfl, fun _ => ⟨by omega, fun f hf => ?_⟩, rfl⟩
      obtain ⟨i, hi, e⟩ := List.mem_iff_getElem.1 hf
      exact HA.out i f (by omega) (by rw [List.getElem?_eq_getElem hi, e])
    have d1 : decide ((k : Int) < (l.length : Int)) = true := decide_eq_true (by omega)
    by_cases h30 : k < 30
    rotate_left 1
    · have d3 : decide ((k : Int) < 30) = false := decide_eq_false (by omega)
      have d2 : decide ((30 : Int) < (l.length : Int)) = true := decide_eq_true (by omega)
      go_wp2
      go_ret
      exact ⟨_, rfl, (fun h => by cases h), rfl⟩
    have d3 : decide ((k : Int) < 30) = true := decide_eq_true (by omega)
    obtain ⟨-, bb, o, rfl, hbb, hr⟩ := HL.out k l[k] (List.getElem?_eq_getElem h1)
    have c2 : wr.cell? ⟨bb, o + k * 4 + 2, none⟩ = some (.slice l[k].A l[k].b.length l[k].c) := hr 2 _ rfl
    have c3 : wr.cell? ⟨bb, o + k * 4 + 3, none⟩ = some (.slice l[k].A' l[k].m.length l[k].c') := hr 3 _ rfl
    by_cases hb : 300 < l[k].b.length
    · have d4 : decide ((300 : Int) < (l[k].b.length : Int)) = true := decide_eq_true (by omega)
      have d4' : decide (300 < l[k].b.length) = true := decide_eq_true hb
      go_wp2
      go_ret
      exact ⟨_, rfl, (fun h => by cases h), rfl⟩
    have d4 : decide ((300 : Int) < (l[k].b.length : Int)) = false := decide_eq_false (by omega)
    have d4' : decide (300 < l[k].b.length) = false := decide_eq_false hb
    by_cases hmm : 80 < l[k].m.length
    · have d5 : decide ((80 : Int) < (l[k].m.length : Int)) = true := decide_eq_true (by omega)
      have d5' : decide (80 < l[k].m.length) = true := decide_eq_true hmm
      go_wp2
      go_ret
      exact ⟨_, rfl, (fun h => by cases h), rfl⟩
    have d5 : decide ((80 : Int) < (l[k].m.length : Int)) = false := decide_eq_false (by omega)
    have d5' : decide (80 < l[k].m.length) = false := decide_eq_false hmm
    go_wp2
    go_roundw
    case rel =>
      refine ⟨k + 1, by omega, by omega, by go_num, fun i f hi hf => ?_, (by first | rfl | trivial)⟩
      by_cases e : i = k
      · subst e
        rw [List.getElem?_eq_getElem h1] at hf
        injection hf with hf
        subst hf
        exact ⟨by omega, by omega⟩
      · exact HA.out i f (by omega) hf
    case measure => simp [intOf]; omega
end
section
set_option linter.unusedVariables false
set_option linter.unusedSimpArgs false
open Go.RowKit
set_option maxRecDepth 100000
theorem zeroCells_bytes (k : Nat) : Builtin.zeroCells (Value.int .u8 0).cells k = ((zeros k).map bv).toArray := by
  have h := made_bytes k
  have e : Builtin.zeroCells (Value.int .u8 0).cells k = madeCells (Value.int .u8 0).cells (k * 1) := by
    simp [Builtin.zeroCells, madeCells, Value.cells]
  rw [e, h]
theorem append_zeros (w : World) (B : Nat) (A : Option Addr) (n c k : Nat) (xs : List B8) (ho : w.ownsRow B 5 1 (.slice A n c) n (xs.map bv)) (hB : B ≤ w.heap.size) (hnk : n + k ≤ 1000000) :
    ∃ A' c' w', (Builtin.append_ #[36, 3] 36 #[.slice A n c, .int .i64 (k : Int)]).run Tryd.prog w = .ok (.slice A' (n + k) c') w' ∧ w'.ownsRow B 5 1 (.slice A' (n + k) c') (n + k) ((xs ++ zeros k).map bv) ∧ w.grownBy w' (Value.slice A n c).ownBlock ∧ (A' = none → c' = 0) := by
  obtain ⟨i0, hi, hz0, hz1, hz2⟩ := info_parts info_u8
  have hxl : (xs.map bv).length = n := by have := ho.1; omega
  have hwk : IntKind.i64.wrap (k : Int) = k := IntWalk.i64_in _ (by omega)
  have hkneg : ¬ ((k : Int) < 0) := by omega
  have h48 : ¬ (281474976710656 < (k : Int) * (i0.bytes : Int)) := by rw [hz2]; omega
  obtain ⟨A', c', ea, -, -, hnc, hca⟩ := own_sl ho
  injection ea with ea1 ea2 ea3
  subst ea1 ea3
  by_cases hk0 : k = 0
  · subst hk0
    have hw0 : IntKind.i64.wrap 0 = 0 := rfl
    refine ⟨A, c, w, ?_, by simpa [zeros] using ho, grown_refl _ _, hca⟩
    cases A with
    | none => simp [Builtin.append_, run_underlying Tryd.underlying36, run_underlying Tryd.underlying3, sizeOf, typeInfo, hi, asInt, asIntOf, hw0, hnc]
    | some a => simp [Builtin.append_, run_underlying Tryd.underlying36, run_underlying Tryd.underlying3, sizeOf, typeInfo, hi, asInt, asIntOf, hw0, hnc, storeCells]
  by_cases hroom : n + k ≤ c
  · rcases ho.2 with ⟨e, hn0⟩ | ⟨g, cap, cur, e, hg, hh, hnc', hcm, hsz, htk⟩
    · injection e with e1 e2 e3
      omega
    · injection e with e1 e2 e3
      subst e1 e3
      have hst := run_storeCells_at Tryd.prog g n 5 ((zeros k).map bv) 0 cur w hh (by simp [zeros_len]; omega) (bv_one _)
      simp only [Nat.add_zero] at hst
      refine ⟨some ⟨g, 0, none⟩, c, w.setRow g (cur.toList.take n ++ (zeros k).map bv ++ cur.toList.drop (n + ((zeros k).map bv).length)).toArray, ?_, ?_, ?_, fun h => by cases h⟩
      · simp [Builtin.append_, run_underlying Tryd.underlying36, run_underlying Tryd.underlying3, sizeOf, typeInfo, zeroValue, hi, hz0, hz1, asInt, asIntOf, hwk, hkneg, h48, hroom, zeroCells_bytes, Addr.add_lit, hst, hk0]
      · refine ⟨by simp [hxl, zeros_len], .inr ⟨g, c, _, rfl, hg, setRow_heap w g cur _ 5 (0, 0) hh, by omega, hcm, ?_, ?_⟩⟩
        · simp [zeros_len]; omega
        · simp only [Nat.mul_one] at htk ⊢
          rw [htk, List.map_append, List.append_assoc, ← List.append_assoc]
          exact List.take_left' (by rw [List.length_append, hxl, List.length_map, zeros_len])
      · exact grownBy_setRow0 w g _
  · have hgr : c < n + k := by omega
    have hold : (Builtin.firstCells i0.size n (.slice A n c)).run Tryd.prog w.drew = .ok (xs.map bv).toArray w.drew := by
      rcases ho.2 with ⟨e, hn0⟩ | ⟨g, cap, cur, e, hg, hh, hnc', hcm, hsz, htk⟩
      · injection e with e1 e2 e3
        subst e1 hn0
        have hx0 : xs = [] := List.eq_nil_of_length_eq_zero (by simpa using hxl)
        subst hx0
        simp [Builtin.firstCells, loadCells, loadCellsFrom]
      · injection e with e1 e2 e3
        subst e1 e3
        exact run_firstCells_some (P := Tryd.prog) w.drew i0.size n ⟨g, 0, none⟩ n c _ (by rw [hz1, hxl, Nat.mul_one]) (fun j v hj => (ho.cells (g := g) rfl j v hj))
    have hr := Lib.run_append_grow_zeros (P := Tryd.prog) w 36 3 36 5 i0 (.int .u8 0) .i64 .i64 Tryd.underlying36 Tryd.underlying3 hi hz0 A n c _ hold k (by omega) (by omega) hgr (by omega) (by rw [hz2]; omega) (growslice_fits (by omega) (by rw [hz2]; omega))
    have hge := grownCap_ge w (n + k) c 5
    have hcm : grownCap w (n + k) c 5 ≤ maxLen := grownCap_le_maxLen w (n + k) c 5 (by unfold maxLen; omega)
    refine ⟨_, _, _, hr, ⟨by simp [hxl, zeros_len], .inr ⟨w.heap.size, _, _, rfl, hB, heap_alloc_new w.drew _, hge, hcm, ?_, ?_⟩⟩, ⟨rfl, rfl, rfl, by simp, fun k hk _ => heap_alloc_old w.drew _ hk⟩, fun h => by cases h⟩
    · rw [zeroCells_bytes]
      simp [size_zeroCells, hxl, zeros_len, Value.cells]
      omega
    · rw [zeroCells_bytes, Nat.mul_one]
      simp only [Array.toList_append, List.append_assoc]
      rw [← List.append_assoc, List.map_append]
      exact List.take_left' (by rw [List.length_append, hxl, List.length_map, zeros_len])
theorem chunks_snoc : ∀ (i : Nat) (l : List B8), chunks (i + 1) l = chunks i l ++ [(l.drop (64 * i)).take 64]
  | 0, l => by simp [chunks]
  | i + 1, l => by
    rw [chunks, chunks_snoc i (l.drop 64), chunks, List.drop_drop, List.cons_append, show 64 + 64 * i = 64 * (i + 1) by omega]
theorem putD_snoc : ∀ (l : List Sec) (d : Dr) (p : Nat) (s : Sec), putD d p (l ++ [s]) = (putD d p l).write ((p + l.length : Nat) : Int) s
  | [], d, p, s => rfl
  | x :: l, d, p, s => by
    rw [List.cons_append, putD, putD_snoc l, putD, List.length_cons, show p + 1 + l.length = p + (l.length + 1) by omega]
def drumOf (l : List B8) (i : Nat) : Dr := putD (Dr.new 12) 0 (chunks i l)
theorem drumOf_on (l : List B8) (hl : l.length = 768) (i : Nat) (hi : i ≤ 12) : OnD (drumOf l i) 12 ∧ (drumOf l i).W.length = i := by
  have h1 := chunks_len i l
  have h2 := chunks_sec i l (by omega)
  refine ⟨(putD_on _ _ 0 (.new 12) (by omega) h2).1, ?_⟩
  have h3 := putD_W (n := 12) (chunks i l) (Dr.new 12) 0 (.new 12) (by omega) h2
  unfold drumOf
  rw [h3, h1]
  simp [Dr.new]
theorem drumOf_next (l : List B8) (i : Nat) : drumOf l (i + 1) = (drumOf l i).write (i : Int) ((l.drop (64 * i)).take 64) := by
  unfold drumOf
  rw [chunks_snoc, putD_snoc, chunks_len, Nat.zero_add]
theorem drumOf_cut (l : List B8) (hl : l.length = 768) : cutD (drumOf l 12) 0 12 = l := by
  have h1 := chunks_len 12 l
  have h := putD_cut (chunks 12 l) (Dr.new 12) 0 (.new 12) (by omega) (chunks_sec 12 l (by omega))
  rw [h1, chunks_flat 12 l (by omega)] at h
  exact h
/-- The document's chest in a block. -/
def RefAt (w : World) (x : Nat) (t half : Int) (L : List (List B8)) (N : Nat → Prop) : Prop := ¬ N x ∧ ∃ A cc, w.heap[x]? = some (.cells (cstC t half A L.length cc) 33 (0, 0)) ∧ LstQ w N A L ∧ (A = none → cc = 0) ∧ L.length ≤ cc
theorem RefAt.turn {w w' : World} {x : Nat} {t half : Int} {L : List (List B8)} {S N N' : Nat → Prop} (h : RefAt w x t half L N) (k : Turn S w w') (hS : ∀ i, S i → N i) (hN : ∀ i, i < w.heap.size → N' i → N i) : RefAt w' x t half L N' := by
  obtain ⟨hx, A, cc, hb, hl, hA, hc⟩ := h
  exact ⟨fun h => hx (hN x (lt_of_block hb) h), A, cc, k.heap hb (fun h => hx (hS x h)), hl.turn k hS hN, hA, hc⟩
theorem RefAt.quiet {w w' : World} {x : Nat} {t half : Int} {L : List (List B8)} {N : Nat → Prop} (h : RefAt w x t half L N) (k : Turn (fun _ => False) w w') : RefAt w' x t half L N := h.turn k (fun _ h => h.elim) (fun _ _ h => h)
/-- A slice of one byte, just made. -/
theorem sl_new {w : World} {N : Nat → Prop} (x : Nat) (hx : x < 256) (hN : ∀ k, N k → k < w.heap.size) : SlN (w.alloc (.cells #[.int .u8 (x : Int)] 5)) N (some ⟨w.heap.size, 0, none⟩) (([BitVec.ofNat 8 x] : List B8).map bv) := fun j u hu => by
  match j, hu with
  | 0, hu =>
    injection hu with hu
    subst hu
    refine ⟨_, rfl, fun h => absurd (hN _ h) (Nat.lt_irrefl _), by rw [Addr.add_lit, cell_of_row _ _ _ _ _ _ (heap_alloc_new _ _)]; show some (Value.int .u8 (x : Int)) = some (bv (BitVec.ofNat 8 x)); unfold bv; rw [BitVec.toNat_ofNat, Nat.mod_eq_of_lt (by omega)]⟩
end
section
set_option linter.unusedVariables false
set_option linter.unusedSimpArgs false
open Go.RowKit
set_option maxRecDepth 100000
theorem CG.sync {d : Dr} {n : Nat} {k : Ck} (h : CG d n k) : d.syncE = 0 ∧ CG d.sync n k ∧ d.sync.W = [] := by
  obtain ⟨h1, h2, h3, h4⟩ := h.iv.sync
  refine ⟨h1, ⟨h2, h.p, h.a, h.t, h.ne, ?_⟩, h3⟩
  rcases h.oth with ⟨ha, ho⟩ | ⟨ha, ho⟩
  · exact .inl ⟨ha, by rw [pkT_congr h.iv.on.off h2.on.off (fun j _ _ => h4 j)]; exact ho⟩
  · exact .inr ⟨ha, by rw [pkT_congr h.iv.on.off h2.on.off (fun j _ _ => h4 j)]; exact ho⟩
section
variable {w : World} {g c n : Nat} {d : Dr} {k : Ck} {D E : Nat → Prop}
theorem kkeep_good (h : KAt w g c n d k D E) (cg : CG d n k) (A : Option Addr) (cb : Nat) (b : List B8) (hn : n ≤ 8192) (hs : SlN w (fun j => D j ∨ E j) A (b.map bv)) (hA : A = none → cb = 0) (hc : b.length ≤ cb) (hlen : b.length ≤ 900000) (hL : k.L.length < 1000000) (hW : d.W.length + 1024 < 10000) :
    Calls Tryd.prog 15 #[.pointer (some ⟨c, 0, none⟩), .slice A b.length cb] w fun r w' => ∃ d' p' D' E', r = .returned (.int .i64 (keepE k.t ((n / 2 : Nat) : Int) k.L b : Int)) ∧ KAt w' g c n d' ⟨k.a, k.t, keepL k.t ((n / 2 : Nat) : Int) k.L b, p'⟩ D' E' ∧ CG d' n ⟨k.a, k.t, keepL k.t ((n / 2 : Nat) : Int) k.L b, p'⟩ ∧ d'.W.length ≤ d.W.length + n / 2 ∧ (∀ j, D' j → Dn D w w' j) ∧ (∀ j, E' j → Dn E w w' j) ∧ Turn (fun j => D j ∨ E j) w w' := by
  refine (kkeep_any w g c n d k D E A cb b h hn hs hA hc hlen hL hW).mono ?_
  rintro r w' ⟨D', E', rfl, h1, h2, h3, hpost⟩
  obtain ⟨k1, k2, k3, k4⟩ := cg.keep b (by unfold mostS; omega)
  rw [k1]
  rcases hpost with ⟨h0, ka⟩ | ⟨hp, ka⟩ | ⟨hp, hq, -⟩
  · have e : keepL k.t ((n / 2 : Nat) : Int) k.L b = k.L ++ [b] := by unfold keepL; rw [if_pos (by rw [← k1]; exact h0)]
    rw [e]
    exact ⟨_, _, D', E', rfl, ka, (k4 h0).1, (k4 h0).2, h1, h2, h3⟩
  · have e : keepL k.t ((n / 2 : Nat) : Int) k.L b = k.L := by unfold keepL; rw [if_neg (by rw [← k1, k3 hp]; exact hp)]
    rw [e]
    exact ⟨d, k.p, D', E', rfl, ka, cg, Nat.le_add_right _ _, h1, h2, h3⟩
  · exact absurd (k2 hq) hp
theorem ksync_good (h : KAt w g c n d k D E) (cg : CG d n k) :
    Calls Tryd.prog 16 #[.pointer (some ⟨c, 0, none⟩)] w fun r w' => ∃ D', r = .returned (.int .i64 0) ∧ KAt w' g c n d.sync k D' E ∧ CG d.sync n k ∧ d.sync.W = [] ∧ (∀ j, D' j → Dn D w w' j) ∧ Turn (fun j => D j ∨ E j) w w' := by
  obtain ⟨s1, s2, s3⟩ := cg.sync
  refine (ksync_any w g c n d k D E h).mono ?_
  rintro r w' ⟨D', rfl, h1, h2, hpost⟩
  rcases hpost with ⟨-, ka⟩ | ⟨h0, -⟩
  · exact ⟨D', by rw [s1]; rfl, ka, s2, s3, h1, h2⟩
  · exact absurd s1 h0
theorem kturn_good (h : KAt w g c n d k D E) (cg : CG d n k) (A : Option Addr) (cb : Nat) (b : List B8) (hn : n ≤ 8192) (hs : SlN w (fun j => D j ∨ E j) A (b.map bv)) (hA : A = none → cb = 0) (hc : b.length ≤ cb) (hlen : b.length ≤ 900000) (hW : d.W.length + n / 2 + 1024 < 10000) :
    Calls Tryd.prog 18 #[.pointer (some ⟨c, 0, none⟩), .slice A b.length cb] w fun r w' => ∃ d' k' D' E', r = .returned (.int .i64 (changeE k.t ((n / 2 : Nat) : Int) b : Int)) ∧ KAt w' g c n d' k' D' E' ∧ CG d' n k' ∧ (k'.t : Int) = changeT k.t ((n / 2 : Nat) : Int) b ∧ k'.L = changeL k.t ((n / 2 : Nat) : Int) k.L b ∧ d'.W.length ≤ d.W.length ∧ (∀ j, D' j → Dn D w w' j) ∧ (∀ j, E' j → Dn E w w' j) ∧ Turn (fun j => D j ∨ E j) w w' := by
  refine (kturn_any w g c n k d D E A cb b h cg.iv.on.off hn hs hA hc hlen hW).mono ?_
  rintro r w' ⟨D', E', h1, h2, h3, hpost⟩
  have e := turnP_eq (half := n / 2) (b := b) cg.iv.turn
  unfold changeT changeL
  rw [← e]
  rcases hpost with ⟨h0, rfl, ka⟩ | ⟨h0, rfl, hq⟩
  · rw [if_neg h0, if_neg h0]
    exact ⟨d, k, D', E', rfl, ka, cg, rfl, rfl, Nat.le_refl _, h1, h2, h3⟩
  · obtain ⟨t1, t2, t3⟩ := cg.turned b h0
    rw [if_pos h0, if_pos h0]
    rcases hq with ⟨-, ka⟩ | ⟨hq, -⟩
    · exact ⟨_, _, D', E', by rw [h0, t1], ka, t2, by show ((k.t + 1 : Nat) : Int) = _; omega, rfl, by rw [t3]; exact Nat.zero_le _, h1, h2, h3⟩
    · exact absurd t1 hq
theorem kopen_good (ld : LD w g n d D) (cg : CG d n k) (h2 : 2 ≤ n) (hn : n ≤ 8192) (hW : d.W.length + n / 2 + 1024 < 10000) :
    Calls Tryd.prog 11 #[.pointer (some ⟨g, 0, none⟩)] w fun r w' => ∃ c D' E', r = .returned (.tuple #[.pointer (some ⟨c, 0, none⟩), .int .i64 0]) ∧ KAt w' g c n d k D' E' ∧ (∀ j, D' j → Dn D w w' j) ∧ (∀ j, E' j → w.heap.size ≤ j) ∧ Turn D w w' := by
  obtain ⟨o1, o2⟩ := cg.opn
  refine (kopen_any w g n d D ld cg.iv.on.off h2 hn hW).mono ?_
  rintro r w' ⟨D', h1, h2, hpost⟩
  rw [o1, o2] at hpost
  rcases hpost with ⟨-, c, E', h3, h4, h5⟩ | ⟨h0, -⟩
  · exact ⟨c, D', E', h3, h4, h1, fun j hj => (h5 j hj).1, h2⟩
  · exact absurd rfl h0
/-- Open of a drum on which nothing fails. -/
theorem kopen_on (ld : LD w g n d D) (on : OnD d n) (h2 : 2 ≤ n) (hn : n ≤ 8192) (hW : d.W.length + n / 2 + 1024 < 10000) :
    Calls Tryd.prog 11 #[.pointer (some ⟨g, 0, none⟩)] w fun r w' => ∃ c d' k' D' E', r = .returned (.tuple #[.pointer (some ⟨c, 0, none⟩), .int .i64 0]) ∧ KAt w' g c n d' k' D' E' ∧ CG d' n k' ∧ k' = begK d n ∧ d'.W.length ≤ d.W.length + n / 2 ∧ (∀ j, D' j → Dn D w w' j) ∧ (∀ j, E' j → w.heap.size ≤ j) ∧ Turn D w w' := by
  have hb : (begR d n).2 = 0 ∧ CG (begR d n).1 n (begK d n) ∧ (begR d n).1.W.length ≤ d.W.length + n / 2 := by
    by_cases h0 : (fnd d n).2 < 1
    · obtain ⟨f1, f2, f3, -, -⟩ := fresh_on on h2 h0
      exact ⟨f1, f2, by rw [f3]; exact Nat.zero_le _⟩
    · obtain ⟨f1, f2, f3, -, -⟩ := opened_on on hn (by omega)
      exact ⟨f1, f2, f3⟩
  refine (kopen_any w g n d D ld on.off h2 hn hW).mono ?_
  rintro r w' ⟨D', h1, h2, hpost⟩
  rcases hpost with ⟨-, c, E', h3, h4, h5⟩ | ⟨h0, -⟩
  · exact ⟨c, _, _, D', E', h3, h4, hb.2.1, rfl, hb.2.2, h1, fun j hj => (h5 j hj).1, h2⟩
  · exact absurd hb.1 h0
end
/-- is, of a chest in memory and the document's in a block. -/
theorem is_ref {w : World} {g c n : Nat} {d : Dr} {k : Ck} {D E N : Nat → Prop} {x : Nat} {half : Int} (h : KAt w g c n d k D E) (cg : CG d n k) (hr : RefAt w x k.t half k.L N) (hh : half = ((n / 2 : Nat) : Int)) (hn : n ≤ 8192) :
    ∃ A cc, w.heap[x]? = some (.cells (cstC k.t half A k.L.length cc) 33 (0, 0)) ∧ LstQ w N A k.L ∧ (A = none → cc = 0) ∧ k.L.length ≤ cc ∧ ∀ w2, Turn (fun _ => False) w w2 → Calls Tryd.prog 13 #[.pointer (some ⟨c, 0, none⟩), cstV k.t half A k.L.length cc] w2 fun r w' => r = .returned (.bool true) ∧ Turn (fun _ => False) w2 w' := by
  obtain ⟨hx, A, cc, hb, hl, hA, hc⟩ := hr
  subst hh
  exact ⟨A, cc, hb, hl, hA, hc, fun w2 t => is_yes w2 g c n d k D E A cc (h.quiet t) hn ((hl.turn (N' := N) t (fun _ h => h.elim) (fun _ _ h => h)).lstN) hA hc cg.left⟩
theorem to_below14 {w w' : World} {r : Ending} (h : r = .returned (.bool true) ∧ Turn (fun _ => False) w w') : r = .returned (.bool true) ∧ Below w.heap.size w w' := ⟨h.1, turn_stp' h.2⟩
end
end Go.Proofs.YtfiopkehpcipdaaDoor
