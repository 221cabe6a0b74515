/- Merged: The laws' is: has a chest what it should have? The answer where it has. What a chest does at first; the laws' awake. The laws' acts that came in, read: a slice of records {Do, At, B, M}. The law's great. A drum written sector by sector; a chest of the document's in a block. The landed chest's calls where nothing fails. ChestGone: the power fails; plain part and contracts. ChestKeeps, plain: an operation that answers 0 does the same as without a fuse; what is kept by each write is kept by the larger operations. -/
import Derived.Test.YtajdcekkmikbcaaDoorM46
import Derived.Test.YtajdcekkmikbcaaDoorM42
import Derived.Deep.MidRow
import Derived.Deep.WholeRow
import Derived.Test.YtajdcekkmikbcaaDoorM41
import Derived.Lib.AppendZerosOnto
namespace Go.Proofs.YtajdcekkmikbcaaDoor
section
set_option linter.unusedVariables false
set_option linter.unusedSimpArgs false
open Go.RowKit
set_option maxRecDepth 100000
/-- A list of texts. -/
def NtsT (ls : List (List B8)) (v : Value) (w : World) : Prop := ∃ A c, v = .slice A ls.length c ∧ Lst w A ls
theorem NtsT.stable {ls : List (List B8)} (v : Value) (w w' : World) (h : NtsT ls v w) (hs : Stp w w') : NtsT ls v w' := by
  obtain ⟨A, c, e, hl⟩ := h
  exact ⟨A, c, e, hl.below hs⟩
theorem lstn_tail {w : World} {ad : Addr} {c : Nat} {x : List B8} {ls : List (List B8)} (h : LstN w (some ad) (x :: ls)) (hc : ls.length + 1 ≤ c) : LstN w (cutA (some ad) c 1) ls := fun i xs hi => by
  obtain ⟨ad', Ai, ci, e, h1, h2, h3, h4⟩ := h (i + 1) xs hi
  injection e with e
  subst e
  have hlt := (List.getElem?_eq_some_iff.1 hi).1
  refine ⟨ad.add 1, Ai, ci, ?_, by rw [add_add, Nat.add_comm 1 i]; exact h1, h2, h3, h4⟩
  unfold cutA
  rw [if_neg (by omega)]; rfl
set_option maxHeartbeats 16000000 in
theorem is_yes (w : World) (g c n : Nat) (d : Dr) (k : Ck) (D E : Nat → Prop) (A : Option Addr) (cc : Nat) (h : KAt w g c n d k D E) (hn : n ≤ 8192) (hL : LstN w A k.L) (hA : A = none → cc = 0) (hc : k.L.length ≤ cc) (hleft : leftC k.t ((n / 2 : Nat) : Int) k.L = ((k.fin (n / 2) - k.p : Nat) : Int)) :
    Calls Tryd.prog 13 #[.pointer (some ⟨c, 0, none⟩), cstV k.t ((n / 2 : Nat) : Int) A k.L.length cc] w fun r w' => r = .returned (.bool true) ∧ Turn (fun _ => False) w w' := by
  have hfin := h.ok.fin
  have hp := h.ok.p
  have hb := h.ok.b
  have hm := h.ok.m
  have HK := Lib.hid h
  obtain ⟨ld, ok, ⟨s, hd, Ah, ch, NV, o, vs, bx, sb, hL1, -, -, -, -, -, hsc, hEs, hNE⟩, hEc, two, dj, lt⟩ := h
  obtain ⟨tl, htl⟩ : ∃ tl, tl = k.L.tail := ⟨_, rfl⟩
  have hkl : k.L = hd :: tl := by rw [htl]; exact hL1
  obtain ⟨nL, hnL⟩ : ∃ m, m = k.L.length := ⟨_, rfl⟩
  obtain ⟨lf, hlf⟩ : ∃ m, m = k.fin (n / 2) - k.p := ⟨_, rfl⟩
  have hn1 : nL = tl.length + 1 := by rw [hnL, hkl]; rfl
  have hL' := hL
  rw [hkl] at hL'
  obtain ⟨ad, Ai, ci, rfl, hcad, hci, hai, hbi⟩ := hL' 0 hd rfl
  rw [addr_zero0] at hcad
  obtain ⟨lh, hlh⟩ : ∃ m, m = hd.length := ⟨_, rfl⟩
  rw [← hlh] at hcad
  have hL3 := lstn_tail hL' (by rw [← hn1, hnL]; exact hc)
  obtain ⟨A3, hA3⟩ : ∃ x, x = cutA (some ad) cc 1 := ⟨_, rfl⟩
  obtain ⟨c3, hc3⟩ : ∃ x, x = cc - 1 := ⟨_, rfl⟩
  obtain ⟨tn, htn⟩ : ∃ x, x = tl.length := ⟨_, rfl⟩
  rw [← hA3] at hL3
  have SLI : ∀ w, (Instr.slice 31 (.slice (some ad) nL cc) (some (.int .i64 1)) none none).run Tryd.prog w = .ok (.slice A3 tn c3) w := fun w => by
    rw [run_slice_l (P := Tryd.prog) w 31 (some ad) nL cc (by kernel_rfl) .i64 1 (by omega) (by omega)]
    rw [show Tryd.prog.elem 31 = 36 by kernel_rfl, size_sl]
    simp only [Result.andThen, sliced, hA3, hc3, cutA, Nat.mul_one]
    rw [htn, show tl.length = nL - 1 by omega]
    rfl
  obtain ⟨cs3, hcs3⟩ : ∃ cs3 : List Value, cs3 = [.int .i64 k.t, .int .i64 ((n / 2 : Nat) : Int), .slice (some ad) nL cc] := ⟨_, rfl⟩
  obtain ⟨x, hx⟩ : ∃ x, x = w.heap.size := ⟨_, rfl⟩
  obtain ⟨wz, hwz⟩ : ∃ wz, wz = w.alloc (.cells #[.int .i64 k.t, .int .i64 ((n / 2 : Nat) : Int), .slice (some ad) nL cc] 33) := ⟨_, rfl⟩
  have tz : Turn (fun _ => False) w wz := by rw [hwz]; exact (Turn.refl _ _).alloc _
  have XB := Lib.hid (show wz.heap[x]? = some (.cells #[.int .i64 k.t, .int .i64 ((n / 2 : Nat) : Int), .slice (some ad) nL cc] 33 (0, 0)) by rw [hwz, hx]; exact heap_alloc_new _ _)
  have x2 : wz.cell? ⟨x, 2, none⟩ = some (.slice (some ad) nL cc) := by rw [cell_of_row _ _ _ _ _ _ XB.out]; rfl
  obtain ⟨q0, -⟩ := bx.cells
  have HWS := Lib.hid (show ∀ w2 : World, Stp wz.drew w2 → Turn (fun _ => False) w w2 from fun w2 hs => tz.drew.trans (Turn.of_below hs) (fun _ _ h => h))
  have KW := Lib.hid (show ∀ w2 : World, Stp wz.drew w2 → KAt w2 g c n d k D E from fun w2 hs => HK.out.quiet (HWS.out w2 hs))
  have AT := Lib.hid (show ∀ w2 : World, Stp wz.drew w2 → Ats SBp w2 g s n d (k.scr (n / 2)) D (fun j => j = s) from fun w2 hs => ⟨ld.quiet (HWS.out w2 hs), sbp_keep sb (HWS.out w2 hs) (fun _ _ h => h), fun j e => by subst e; exact dj _ hEs, fun j e => by subst e; exact Nat.lt_of_lt_of_le (lt _ hEs) (HWS.out w2 hs).size⟩)
  have HXR := Lib.hid (show ∀ w2 : World, Stp wz.drew w2 → w2.rangeAt x 0 cs3 from fun w2 hs => by
    have hb2 := (Turn.of_below hs).heap (show wz.drew.heap[x]? = _ from XB.out) (fun h => h)
    intro j v hj
    rw [cell_of_row _ _ _ _ _ _ hb2, Nat.zero_add]
    rw [hcs3] at hj
    show ([Value.int .i64 k.t, .int .i64 ((n / 2 : Nat) : Int), .slice (some ad) nL cc] : List Value).toArray[j]? = _
    rw [List.getElem?_toArray]
    exact hj)
  have KSZ := Lib.hid (show (Tryd.prog.info? 33).map (·.size) = some cs3.length by rw [hcs3]; kernel_rfl)
  have HSLI := Lib.hid (show SlN w (fun _ => False) Ai (hd.map bv) from fun j u hu => by obtain ⟨ad', e, hc⟩ := hbi j u hu; exact ⟨ad', e, fun h => h, hc⟩)
  have HKL := Lib.hid hkl
  have HTL := Lib.hid htl.symm
  have HLH := Lib.hid hlh
  have HHL := Lib.hid (show hd.length ≤ 900000 from hb hd (by rw [hkl]; exact List.mem_cons_self ..))
  have HTB := Lib.hid (show ∀ y ∈ tl, y.length ≤ 900000 from fun y hy => hb y (by rw [hkl]; exact List.mem_cons_of_mem _ hy))
  have HTM := Lib.hid (show tl.length ≤ 1000000 by omega)
  have HTN := Lib.hid htn
  have HL3 := Lib.hid hL3
  have HLL := Lib.hid hL
  have HML := Lib.hid hm
  have HBL := Lib.hid hb
  have HLFT := Lib.hid (hleft.trans (by rw [← hlf]))
  have HLF := Lib.hid hlf.symm
  have HNL := Lib.hid hnL
  have HP := Lib.hid hp
  have HF := Lib.hid hfin
  have HZS := Lib.hid (show w.heap.size ≤ wz.heap.size from tz.size)
  have HCS := Lib.hid hcs3
  have g0 : decide ((0 : Int) < (nL : Int)) = true := decide_eq_true (by omega)
  have g0' : decide (0 < nL) = true := decide_eq_true (by omega)
  have g1 : (0 : Int) < (nL : Int) := by omega
  have g2 : 0 < nL := by omega
  rw [← hnL]
  clear hfin hp hb hm ld ok bx sb hL1 hNE two dj lt htl hkl hL hL' hn1 hbi hL3 hA3 hc3 htn hleft hlf hnL hlh tz hcs3
  go_enter Tryd.func13, Tryd.ntmps13
  go_upto_region 1 with fail
  change Code.wp _ _ _ _ (w.alloc (.cells #[.int .i64 k.t, .int .i64 ((n / 2 : Nat) : Int), .slice (some ad) nL cc] 33))
  rw [← hwz, ← hx]
  clear hwz hx
  have SC15 : ∀ (v : Value) (w1 w2 : World), CpyT wz.heap.size hd v w1 → Stp w1 w2 → CpyT wz.heap.size hd v w2 := fun v w1 w2 h hs => h.stable _ _ _ _ _ hs
  have SC24 : ∀ (v : Value) (w1 w2 : World), NtsT tl v w1 → Stp w1 w2 → NtsT tl v w2 := fun v w1 w2 h hs => NtsT.stable _ _ _ h hs
  refine wp_region_rel 40 Stp ((.one ?_) :: (.one ?_) :: (.one ?_) :: (.one ?_) :: (.one ?_) :: (.one ?_) :: (.one ?_) :: (.one ?_) :: (.one ?_) :: (.one ?_) :: (.rel (CpyT wz.heap.size hd)) :: (.one ?_) :: (.one ?_) :: (.one ?_) :: (.one ?_) :: (.one ?_) :: (.one ?_) :: (.one ?_) :: (.one ?_) :: (.rel (NtsT tl)) :: (.one ?_) :: (.one ?_) :: (.one ?_) :: (.one ?_) :: (.one ?_) :: (.one ?_) :: (.one ?_) :: (.one ?_) :: (.one ?_) :: (.one ?_) :: (.one ?_) :: (.one ?_) :: (.one ?_) :: (.one ?_) :: (.one ?_) :: (.one ?_) :: []) (by kernel_rfl) (by kernel_rfl) rfl (by kernel_rfl) Stp.refl Stp.trans ⟨SC15, SC24, trivial⟩ ?main
  case main =>
  iterate 4
    refine wpR_one (A' := ?_) Stp.refl (by rfl) _ rfl 40 (by rfl) (by rfl) ?_ ?_ ?_
    rotate_left 1
    · simp only [Act.put, List.setIfInBounds_toArray, List.set_cons_zero, List.set_cons_succ]; rfl
    · intro w1 hs hf K hK
      go_big_quiet_op
      first
        | go_big_quiet_on
        | (refine ⟨_, fun _ _ => rfl, ?_⟩; go_big_quiet_on)
      rfl
  refine wpR_one (A' := ?_) Stp.refl (by rfl) _ rfl 40 (by rfl) (by rfl) ?_ ?_ ?_
  rotate_left 1
  · simp only [Act.put, List.setIfInBounds_toArray, List.set_cons_zero, List.set_cons_succ]; rfl
  · intro w1 hs hf K hK
    refine cls_load_cell 31 (.tmp 8) rfl ⟨x, 2, none⟩ rfl (.slice (some ad) nL cc) (fun w h => by simp [go_sem, h]) (fun w2 h2 => (Turn.of_below (Stp.trans _ _ _ hs h2)).cell (show wz.drew.cell? _ = _ from x2) (fun h => h)) ?_
    refine hK _ ?_
    simp only [Act.put, List.setIfInBounds_toArray, List.set_cons_zero, List.set_cons_succ]
    rfl
  iterate 5
    refine wpR_one (A' := ?_) Stp.refl (by rfl) _ rfl 40 (by rfl) (by rfl) ?_ ?_ ?_
    rotate_left 1
    · simp only [Act.put, List.setIfInBounds_toArray, List.set_cons_zero, List.set_cons_succ]; rfl
    · intro w1 hs hf K hK
      go_big_quiet_op
      first
        | go_big_quiet_on
        | (refine ⟨_, fun _ _ => rfl, ?_⟩; go_big_quiet_on)
      rfl
  refine wpR_rel (A' := ?_) (by rfl) ?_ ?_ ?_
  · intro w1 hs hf
    have K1 := KW.out w1 hs
    refine does_call (w' := w1) (f := 27) (args := #[.pointer (some ⟨c, 0, none⟩)]) (by kernel_rfl) ((khead_any w1 g c n d k D E K1).mono ?_)
    rintro r w2 ⟨hd2, v, hL2, rfl, ho2, t2⟩
    have e2 : hd2 = hd := by rw [HKL.out] at hL2; injection hL2 with e _; exact e.symm
    subst e2
    exact ⟨v, rfl, cpyT_of (own_less ho2 hs.size), turn_stp t2⟩
  rotate_left 1
  · intro x
    simp only [Act.put, List.setIfInBounds_toArray, List.set_cons_zero, List.set_cons_succ]; rfl
  intro x15
  iterate 1
    refine wpR_one (A' := ?_) Stp.refl (by rfl) _ rfl 40 (by rfl) (by rfl) ?_ ?_ ?_
    rotate_left 1
    · simp only [Act.put, List.setIfInBounds_toArray, List.set_cons_zero, List.set_cons_succ]; rfl
    · intro w1 hs hf K hK
      go_big_quiet_op
      first
        | go_big_quiet_on
        | (refine ⟨_, fun _ _ => rfl, ?_⟩; go_big_quiet_on)
      rfl
  refine wpR_one (A' := ?_) Stp.refl (by rfl) _ rfl 40 (by rfl) (by rfl) ?_ ?_ ?_
  rotate_left 1
  · simp only [Act.put, List.setIfInBounds_toArray, List.set_cons_zero, List.set_cons_succ]; rfl
  · intro w1 hs hf K hK
    refine cls_load_cell 31 (.tmp 16) rfl ⟨x, 2, none⟩ rfl (.slice (some ad) nL cc) (fun w h => by simp [go_sem, h]) (fun w2 h2 => (Turn.of_below (Stp.trans _ _ _ hs h2)).cell (show wz.drew.cell? _ = _ from x2) (fun h => h)) ?_
    refine hK _ ?_
    simp only [Act.put, List.setIfInBounds_toArray, List.set_cons_zero, List.set_cons_succ]
    rfl
  iterate 1
    refine wpR_one (A' := ?_) Stp.refl (by rfl) _ rfl 40 (by rfl) (by rfl) ?_ ?_ ?_
    rotate_left 1
    · simp only [Act.put, List.setIfInBounds_toArray, List.set_cons_zero, List.set_cons_succ]; rfl
    · intro w1 hs hf K hK
      go_big_quiet_op
      first
        | go_big_quiet_on
        | (refine ⟨_, fun _ _ => rfl, ?_⟩; go_big_quiet_on)
      rfl
  refine wpR_one (A' := ?_) Stp.refl (by rfl) _ rfl 40 (by rfl) (by rfl) ?_ ?_ ?_
  rotate_left 1
  · simp only [Act.put, List.setIfInBounds_toArray, List.set_cons_zero, List.set_cons_succ]; rfl
  · intro w1 hs hf K hK
    refine cls_load_cell 36 (.tmp 18) rfl ad rfl (.slice Ai lh ci) (fun w h => by simp [go_sem, h]) (fun w2 h2 => (HWS.out w2 (Stp.trans _ _ _ hs h2)).cell (show w.cell? _ = _ from hcad) (fun h => h)) ?_
    refine hK _ ?_
    simp only [Act.put, List.setIfInBounds_toArray, List.set_cons_zero, List.set_cons_succ]
    rfl
  refine wpR_one (A' := ?_) Stp.refl (by rfl) _ rfl 40 (by rfl) (by rfl) ?_ ?_ ?_
  rotate_left 1
  · simp only [Act.put, List.setIfInBounds_toArray, List.set_cons_zero, List.set_cons_succ]; rfl
  · intro w1 hs hf K hK
    go_big_quiet_op
    apply Exists.intro
    refine ⟨fun w2 h2 => ?_, ?_⟩
    · obtain ⟨A15, c15, e15, ho15⟩ := CpyT.stable _ _ _ _ _ (show CpyT _ hd x15 w1 from AllF_at hf 0 rfl (by kernel_rfl)) h2
      have e15 : x15 = .slice A15 hd.length c15 := e15
      have ho15 : w2.ownsRow wz.heap.size 5 1 x15 hd.length (hd.map bv) := ho15
      rw [e15] at ho15
      rw [← HLH.out] at e15
      rw [e15]
      have hb1 := own_sl ho15
      obtain ⟨A9, c9, e9, sl9, -⟩ := hb1
      injection e9 with e9 e9b e9c
      subst e9
      have RB := rbytes_any A15 Ai c15 ci _ _ hd hd w2 sl9 (HSLI.out.turn (N' := fun _ => False) (HWS.out w2 (Stp.trans _ _ _ hs h2)) (fun _ h => h.elim) (fun _ _ h => h.elim)).sl (by unfold maxLen; have := HHL.out; omega) (by unfold maxLen; have := HHL.out; omega)
      rw [← HLH.out, decide_eq_true (show hd = hd from rfl)] at RB
      refine RB.mono ?_
      rintro e w3 ⟨rfl, m, rfl⟩
      exact ⟨rfl, Stp.trans _ _ _ h2 (turn_stp ((Turn.refl _ _).drewN m))⟩
    · go_big_quiet_on
      rfl
  iterate 3
    refine wpR_one (A' := ?_) Stp.refl (by rfl) _ rfl 40 (by rfl) (by rfl) ?_ ?_ ?_
    rotate_left 1
    · simp only [Act.put, List.setIfInBounds_toArray, List.set_cons_zero, List.set_cons_succ]; rfl
    · intro w1 hs hf K hK
      go_big_quiet_op
      first
        | go_big_quiet_on
        | (refine ⟨_, fun _ _ => rfl, ?_⟩; go_big_quiet_on)
      rfl
  refine wpR_rel (A' := ?_) (by rfl) ?_ ?_ ?_
  · intro w1 hs hf
    have K1 := KW.out w1 hs
    refine does_call (w' := w1) (f := 30) (args := #[.pointer (some ⟨c, 0, none⟩)]) (by kernel_rfl) ((knotes_any w1 g c n d k D E K1).mono ?_)
    rintro r w2 ⟨An, cn, rfl, hl2, -, -, t2⟩
    rw [HTL.out] at hl2 ⊢
    exact ⟨_, rfl, ⟨An, cn, rfl, hl2.lst⟩, turn_stp t2⟩
  rotate_left 1
  · intro x
    simp only [Act.put, List.setIfInBounds_toArray, List.set_cons_zero, List.set_cons_succ]; rfl
  intro x24
  iterate 1
    refine wpR_one (A' := ?_) Stp.refl (by rfl) _ rfl 40 (by rfl) (by rfl) ?_ ?_ ?_
    rotate_left 1
    · simp only [Act.put, List.setIfInBounds_toArray, List.set_cons_zero, List.set_cons_succ]; rfl
    · intro w1 hs hf K hK
      go_big_quiet_op
      first
        | go_big_quiet_on
        | (refine ⟨_, fun _ _ => rfl, ?_⟩; go_big_quiet_on)
      rfl
  refine wpR_one (A' := ?_) Stp.refl (by rfl) _ rfl 40 (by rfl) (by rfl) ?_ ?_ ?_
  rotate_left 1
  · simp only [Act.put, List.setIfInBounds_toArray, List.set_cons_zero, List.set_cons_succ]; rfl
  · intro w1 hs hf K hK
    refine cls_load_cell 31 (.tmp 25) rfl ⟨x, 2, none⟩ rfl (.slice (some ad) nL cc) (fun w h => by simp [go_sem, h]) (fun w2 h2 => (Turn.of_below (Stp.trans _ _ _ hs h2)).cell (show wz.drew.cell? _ = _ from x2) (fun h => h)) ?_
    refine hK _ ?_
    simp only [Act.put, List.setIfInBounds_toArray, List.set_cons_zero, List.set_cons_succ]
    rfl
  iterate 1
    refine wpR_one (A' := ?_) Stp.refl (by rfl) _ rfl 40 (by rfl) (by rfl) ?_ ?_ ?_
    rotate_left 1
    · simp only [Act.put, List.setIfInBounds_toArray, List.set_cons_zero, List.set_cons_succ]; rfl
    · intro w1 hs hf K hK
      go_big_quiet_op
      first
        | go_big_quiet_on
        | (refine ⟨_, fun _ _ => rfl, ?_⟩; go_big_quiet_on)
      rfl
  refine wpR_one (A' := ?_) Stp.refl (by rfl) _ rfl 40 (by rfl) (by rfl) ?_ ?_ ?_
  rotate_left 1
  · simp only [Act.put, List.setIfInBounds_toArray, List.set_cons_zero, List.set_cons_succ]; rfl
  · intro w1 hs hf K hK
    go_big_quiet_op
    apply Exists.intro
    refine ⟨fun w2 h2 => ?_, ?_⟩
    · obtain ⟨A24, c24, e24, hl24⟩ := NtsT.stable _ _ _ (show NtsT tl x24 w1 from AllF_at hf 0 rfl (by kernel_rfl)) h2
      have e24 : x24 = .slice A24 tl.length c24 := e24
      rw [e24]
      have hl3 := LstN.lst (HL3.out.below (turn_stp (HWS.out w2 (Stp.trans _ _ _ hs h2))))
      have RS := rsame13_any A24 A3 c24 c3 tl tl w2 hl24 hl3 HTM.out HTM.out (fun y hy => Nat.le_trans (HTB.out y hy) (by unfold maxLen; omega)) (fun y hy => Nat.le_trans (HTB.out y hy) (by unfold maxLen; omega))
      rw [← HTN.out, decide_eq_true (show tl = tl from rfl)] at RS
      rw [← HTN.out]
      refine RS.mono ?_
      rintro e w3 ⟨rfl, m, rfl⟩
      exact ⟨rfl, Stp.trans _ _ _ h2 (turn_stp ((Turn.refl _ _).drewN m))⟩
    · go_big_quiet_on
      rfl
  iterate 5
    refine wpR_one (A' := ?_) Stp.refl (by rfl) _ rfl 40 (by rfl) (by rfl) ?_ ?_ ?_
    rotate_left 1
    · simp only [Act.put, List.setIfInBounds_toArray, List.set_cons_zero, List.set_cons_succ]; rfl
    · intro w1 hs hf K hK
      go_big_quiet_op
      first
        | go_big_quiet_on
        | (refine ⟨_, fun _ _ => rfl, ?_⟩; go_big_quiet_on)
      rfl
  refine wpR_one (A' := ?_) Stp.refl (by rfl) _ rfl 40 (by rfl) (by rfl) ?_ ?_ ?_
  rotate_left 1
  · simp only [Act.put, List.setIfInBounds_toArray, List.set_cons_zero, List.set_cons_succ]; rfl
  · intro w1 hs hf K hK
    refine cls_load_cell 45 (.tmp 33) rfl ⟨c, 0, none⟩ rfl (.pointer (some ⟨s, 0, none⟩)) (fun w h => by simp [go_sem, h]) (fun w2 h2 => (HWS.out w2 (Stp.trans _ _ _ hs h2)).cell (show w.cell? _ = _ from q0) (fun h => h)) ?_
    refine hK _ ?_
    simp only [Act.put, List.setIfInBounds_toArray, List.set_cons_zero, List.set_cons_succ]
    rfl
  refine wpR_one (A' := ?_) Stp.refl (by rfl) _ rfl 40 (by rfl) (by rfl) ?_ ?_ ?_
  rotate_left 1
  · simp only [Act.put, List.setIfInBounds_toArray, List.set_cons_zero, List.set_cons_succ]; rfl
  · intro w1 hs hf K hK
    go_big_quiet_op
    apply Exists.intro
    refine ⟨fun w2 h2 => ?_, ?_⟩
    · refine (lleft_any w2 g s n d (k.scr (n / 2)) D (fun j => j = s) (AT.out w2 (Stp.trans _ _ _ hs h2)) rfl HP.out HF.out hn).mono ?_
      rintro e w3 ⟨rfl, rfl⟩
      exact ⟨by rw [show (k.scr (n / 2)).fin - (k.scr (n / 2)).pos = lf from HLF.out], h2⟩
    · go_big_quiet_on
      rfl
  refine wpR_one (A' := ?_) Stp.refl (by rfl) _ rfl 40 (by rfl) (by rfl) ?_ ?_ ?_
  rotate_left 1
  · simp only [Act.put, List.setIfInBounds_toArray, List.set_cons_zero, List.set_cons_succ]; rfl
  · intro w1 hs hf K hK
    refine cls_load 33 (.tmp 3) rfl (x) (0) rfl (cs3) _ (fun w2 h2 => HXR.out w2 (Stp.trans _ _ _ hs h2)) Tryd.underlying33 rfl KSZ.out ?_
    refine hK _ ?_
    simp only [Act.put, List.setIfInBounds_toArray, List.set_cons_zero, List.set_cons_succ]
    rfl
  refine wpR_one (A' := ?_) Stp.refl (by rfl) _ rfl 40 (by rfl) (by rfl) ?_ ?_ ?_
  rotate_left 1
  · simp only [Act.put, List.setIfInBounds_toArray, List.set_cons_zero, List.set_cons_succ]; rfl
  · intro w1 hs hf K hK
    go_big_quiet_op
    apply Exists.intro
    refine ⟨fun w2 h2 => ?_, ?_⟩
    · have RL := rleft_any (k.t : Int) ((n / 2 : Nat) : Int) (some ad) cc k.L w2 (HLL.out.below (turn_stp (HWS.out w2 (Stp.trans _ _ _ hs h2)))) HML.out HBL.out (by omega) (by omega)
      rw [HLFT.out, ← HNL.out] at RL
      rw [show (Value.agg cs3.toArray) = cstV (k.t : Int) ((n / 2 : Nat) : Int) (some ad) nL cc by rw [HCS.out]; rfl]
      refine RL.mono ?_
      rintro e w3 ⟨rfl, h3⟩
      exact ⟨rfl, Stp.trans _ _ _ h2 h3⟩
    · go_big_quiet_on
      rfl
  iterate 3
    refine wpR_one (A' := ?_) Stp.refl (by rfl) _ rfl 40 (by rfl) (by rfl) ?_ ?_ ?_
    rotate_left 1
    · simp only [Act.put, List.setIfInBounds_toArray, List.set_cons_zero, List.set_cons_succ]; rfl
    · intro w1 hs hf K hK
      go_big_quiet_op
      first
        | go_big_quiet_on
        | (refine ⟨_, fun _ _ => rfl, ?_⟩; go_big_quiet_on)
      rfl
  intro w9 hs hf
  have TT := HWS.out w9 hs
  have HTT := Lib.hid TT
  clear TT hs hf
  go_wp2
  go_ret
  exact ⟨rfl, HTT.out⟩
end
section
set_option linter.unusedVariables false
set_option linter.unusedSimpArgs false
open Go.RowKit
set_option maxRecDepth 100000
theorem form_secs {t n : Nat} {b : List B8} (h : formE13 (t : Int) (n : Int) b = 0) : secsOf (formV13 (t : Int) (n : Int) b) = (12 + (fldS t n b).length + 63) / 64 := by
  rw [secs_of_form h]
  have h1 := laidS_len (fldS t n b)
  show (laidS (fldS t n b)).length / 64 = _
  rw [h1]
  unfold secPad
  omega
theorem fnd_new (n : Nat) : (fnd (Dr.new n) n).2 < 1 := by
  have h0 : ∀ i, i ≤ 1 → pkT (Dr.new n) n i = 0 := fun i hi => by
    refine pkT_none ?_
    have hc : cutD (Dr.new n) (i * (n / 2)) (n / 2) = zeros (64 * (n / 2)) := cut_zeros _ _ fun k hk => by
      have hb : i * (n / 2) + n / 2 ≤ n := by
        rcases Nat.lt_or_ge i 1 with h1 | h1
        · obtain rfl : i = 0 := by omega
          omega
        · obtain rfl : i = 1 := by omega
          omega
      exact (Inv.new n (i * (n / 2)) (n / 2) 0 hb (Nat.zero_le _)).zero k (Nat.zero_le _) hk
    rw [hc]
    exact zeros_none _
  rw [show fnd (Dr.new n) n = fndK (Dr.new n) n 1 (fndK (Dr.new n) n 0 (0, 0)) from rfl]
  rw [show fndK (Dr.new n) n 0 (0, 0) = (0, 0) from if_neg (by rw [h0 0 (by omega)]; simp)]
  rw [show fndK (Dr.new n) n 1 (0, 0) = (0, 0) from if_neg (by rw [h0 1 (by omega)]; simp)]
  show 0 < 1
  omega
/-- A chest on a new drum. -/
theorem chest_new {n : Nat} (hn : 2 ≤ n) : (begR (Dr.new n) n).2 = 0 ∧ CG (begR (Dr.new n) n).1 n (begK (Dr.new n) n) ∧ (begR (Dr.new n) n).1.W = [] ∧ begK (Dr.new n) n = ⟨0, 1, [[]], 1⟩ := by
  obtain ⟨h1, h2, h3, -, -⟩ := fresh_on (OnD.new n) hn (fnd_new n)
  refine ⟨h1, h2, h3, ?_⟩
  unfold begK
  rw [if_pos (fnd_new n)]
  have := form_nil.2
  rw [show secsOf (formV13 ((1 : Nat) : Int) 0 []) = 1 from this]
  simp
theorem kleft_any {w : World} {g c n : Nat} {d : Dr} {k : Ck} {D E : Nat → Prop} (h : KAt w g c n d k D E) (hn : n ≤ 8192) : ∃ s, w.cell? ⟨c, 0, none⟩ = some (.pointer (some ⟨s, 0, none⟩)) ∧ Calls Tryd.prog 28 #[.pointer (some ⟨s, 0, none⟩)] w fun r w' => r = .returned (.int .i64 ((k.fin (n / 2) - k.p : Nat) : Int)) ∧ w' = w := by
  have hfin := h.ok.fin
  have hp := h.ok.p
  obtain ⟨ld, ok, ⟨s, hd, Ah, ch, NV, o, vs, bx, sb, hL1, hh, hAh, hch, ho, hv, hsc, hEs, hNE⟩, hEc, two, dj, lt⟩ := h
  obtain ⟨c0, -⟩ := bx.cells
  exact ⟨s, c0, lleft_any w g s n d (k.scr (n / 2)) D (fun j => j = s) ⟨ld, sb, fun j e => by subst e; exact dj _ hEs, fun j e => by subst e; exact lt _ hEs⟩ rfl hp hfin hn⟩
theorem fld_five : (fldS 1 1 [5]).length = 7 := by
  have h2 : klen 1 = 1 := klen_one (by omega) (by omega)
  simp [fldS, numB_len, h2]
/-- Keep of one byte on a chest of a new drum of 7 sectors. -/
theorem five_on {d : Dr} (h : CG d 7 ⟨0, 1, [[]], 1⟩) : ((Ck.mk 0 1 [[]] 1).scr 3).putE d [5] = 0 ∧ ((Ck.mk 0 1 [[]] 1).scr 3).pre [5] = 0 ∧ CG (((Ck.mk 0 1 [[]] 1).scr 3).putD d [5]) 7 ⟨0, 1, [[], [5]], 2⟩ := by
  have hE : formE13 ((1 : Nat) : Int) ((1 : Nat) : Int) [5] = 0 := formE_ok (by unfold mostS; omega) (by unfold mostS; omega) (by rw [fld_five]; omega)
  have hS : secsOf (formV13 ((1 : Nat) : Int) ((1 : Nat) : Int) [5]) = 1 := by rw [form_secs hE, fld_five]
  obtain ⟨k1, k2, k3, k4⟩ := h.keep [5] (by show 1 < mostS; unfold mostS; omega)
  have hpre : ((Ck.mk 0 1 [[]] 1).scr 3).pre [5] = 0 := by
    unfold Scr.pre
    rw [if_neg (by simp [Ck.scr]), if_neg (show ¬ (((Ck.mk 0 1 [[]] 1).scr 3).formE [5] ≠ 0) from fun h => h hE), if_neg (show ¬ ((Ck.mk 0 1 [[]] 1).scr 3).fin < ((Ck.mk 0 1 [[]] 1).scr 3).pos + secsOf (((Ck.mk 0 1 [[]] 1).scr 3).form [5]) from (show ¬ (3 : Nat) < 1 + secsOf (formV13 ((1 : Nat) : Int) ((1 : Nat) : Int) [5]) by omega))]
  have h0 := k2 hpre
  refine ⟨h0, hpre, ?_⟩
  have h5 := (k4 h0).1
  have e : (Ck.mk (Ck.mk 0 1 [[]] 1).a (Ck.mk 0 1 [[]] 1).t ((Ck.mk 0 1 [[]] 1).L ++ [[5]]) ((Ck.mk 0 1 [[]] 1).p + secsOf (formV13 (((Ck.mk 0 1 [[]] 1).t : Nat) : Int) (((Ck.mk 0 1 [[]] 1).L.length : Nat) : Int) [5]))) = Ck.mk 0 1 [[], [5]] 2 := by
    show Ck.mk 0 1 [[], [5]] (1 + secsOf (formV13 ((1 : Nat) : Int) ((1 : Nat) : Int) [5])) = _
    rw [hS]
  rw [e] at h5
  exact h5
set_option maxHeartbeats 8000000 in
theorem awake14 (w : World) (hG : Glob w) : Calls Tryd.prog 9 #[] w fun r w' => r = .returned (.bool true) ∧ Turn (fun _ => False) w w' := by
  have NW := Lib.hid (LD.new 7 (by omega) (by omega) w hG)
  obtain ⟨b1, b2, b3, b4⟩ := chest_new (n := 7) (by omega)
  rw [b4] at b2
  obtain ⟨k1, k2, k3⟩ := five_on b2
  have K1 := Lib.hid (And.intro k1 (And.intro k2 k3))
  have HB := Lib.hid (And.intro b1 (And.intro b2 (And.intro b3 b4)))
  have HG := Lib.hid hG
  clear b1 b2 b3 b4 k1 k2 k3 hG
  go_enter Tryd.func9, Tryd.ntmps9
  go_wp2_with (go_at_call 10; refine stop ?_)
  unfold Stop
  refine NW.out.mono ?_
  rintro r wa ⟨g, rfl, l1, t1⟩
  have OP := Lib.hid (kopen_any wa g 7 (Dr.new 7) _ l1 rfl (by omega) (by omega) (by show 0 + 3 + 1024 < 10000; omega))
  have T1 := Lib.hid t1
  clear NW l1 t1
  go_wp2_with (go_at_call 11; refine stop ?_)
  unfold Stop
  refine OP.out.mono ?_
  rintro r wb ⟨D2, hD2, t2, hpost⟩
  rcases hpost with ⟨-, c, E2, rfl, ka, hE2⟩ | ⟨he, -⟩
  rotate_left 1
  · exact absurd HB.out.1 he
  rw [HB.out.2.2.2] at ka
  have KA := Lib.hid ka
  have TW := Lib.hid (show Turn (fun _ => False) w wb from T1.out.trans t2 (fun k hk h => by have := h.1; omega))
  have DE := Lib.hid (show (∀ k, D2 k → w.heap.size ≤ k) ∧ (∀ k, E2 k → w.heap.size ≤ k) from ⟨fun k hk => (hD2 k hk).elim (fun h => h.1) (fun h => Nat.le_trans T1.out.size h.1), fun k hk => Nat.le_trans T1.out.size (hE2 k hk).1⟩)
  have NO := Lib.hid (kopen_nil wb)
  clear OP ka t2 hD2 hE2
  obtain ⟨s, c0, LF⟩ := kleft_any KA.out (by omega)
  have LF := Lib.hid (show Calls Tryd.prog 28 #[.pointer (some ⟨s, 0, none⟩)] wb fun r w' => r = .returned (.int .i64 2) ∧ w' = wb from LF)
  go_wp2_with (first
    | (go_at_call 11; refine NO.out.mono ?_; clear NO; rintro r w2 ⟨rfl, hw⟩; rw [hw]; clear hw)
    | (go_at_call 28; refine LF.out.mono ?_; clear LF; rintro r w2 ⟨rfl, hw⟩; rw [hw]; clear hw)
    | (go_at_call 15; refine stop ?_))
  unfold Stop
  have t5 : Turn (fun _ => False) wb (wb.alloc (.cells #[.int .u8 5] 5)) := (Turn.refl _ _).alloc _
  have S5 : SlN (wb.alloc (.cells #[.int .u8 5] 5)) (fun j => D2 j ∨ E2 j) (some ⟨wb.heap.size, 0, none⟩) (([5] : List B8).map bv) := fun j u hu => by
    match j, hu with
    | 0, hu =>
      injection hu with hu
      subst hu
      refine ⟨_, rfl, fun h => ?_, by rw [Addr.add_lit, cell_of_row _ _ _ _ _ _ (heap_alloc_new _ _)]; rfl⟩
      rcases h with h | h
      · exact absurd (KA.out.ld.lt _ h) (Nat.lt_irrefl _)
      · exact absurd (KA.out.lt _ h) (Nat.lt_irrefl _)
  have KP := kkeep_any _ g c 7 _ _ D2 E2 (some ⟨wb.heap.size, 0, none⟩) 1 [5] (KA.out.quiet t5) (by omega) S5 (fun e => by cases e) (Nat.le_refl _) (by show 1 ≤ 900000; omega) (by show 1 < 1000000; omega) (by rw [HB.out.2.2.1]; show 0 + 1024 < 10000; omega)
  have T5 := Lib.hid t5
  clear t5 S5 c0
  refine KP.mono ?_
  rintro r wc ⟨D3, E3, rfl, hD3, hE3, t3, hpost⟩
  have hPE : ((Ck.mk 0 1 [[]] 1).scr (7 / 2)).putE (begR (Dr.new 7) 7).1 [5] = 0 := K1.out.1
  have hPR : ((Ck.mk 0 1 [[]] 1).scr (7 / 2)).pre [5] = 0 := K1.out.2.1
  rw [hPE] at hpost ⊢
  rcases hpost with ⟨-, ka⟩ | ⟨h, -⟩ | ⟨h, -⟩
  rotate_left 1
  · exact absurd hPR h
  · exact absurd rfl h
  have T3 := Lib.hid (show Turn (fun _ => False) w wc from (TW.out.trans T5.out (fun _ _ h => h)).trans t3 (fun k hk h => h.elim (fun h => by have := DE.out.1 k h; omega) (fun h => by have := DE.out.2 k h; omega)))
  have hS : secsOf (formV13 ((1 : Nat) : Int) ((1 : Nat) : Int) [5]) = 1 := by
    have hE : formE13 ((1 : Nat) : Int) ((1 : Nat) : Int) [5] = 0 := formE_ok (by unfold mostS; omega) (by unfold mostS; omega) (by rw [fld_five]; omega)
    rw [form_secs hE, fld_five]
  have ka' : KAt wc g c 7 (((Ck.mk 0 1 [[]] 1).scr (7 / 2)).putD (begR (Dr.new 7) 7).1 [5]) (Ck.mk 0 1 [[], [5]] (1 + secsOf (formV13 ((1 : Nat) : Int) ((1 : Nat) : Int) [5]))) D3 E3 := ka
  rw [hS] at ka'
  have KA3 := Lib.hid ka'
  obtain ⟨s3, c3, LF3⟩ := kleft_any KA3.out (by omega)
  have LF3 := Lib.hid (show Calls Tryd.prog 28 #[.pointer (some ⟨s3, 0, none⟩)] wc fun r w' => r = .returned (.int .i64 1) ∧ w' = wc from LF3)
  have NT := Lib.hid (knotes_any wc g c 7 _ _ D3 E3 KA3.out)
  clear KP ka ka' hPE hPR hS hD3 hE3 t3
  go_wp2_with (first
    | (go_at_call 28; refine LF3.out.mono ?_; clear LF3; rintro r w2 ⟨rfl, hw⟩; rw [hw]; clear hw)
    | (go_at_call 30; refine stop ?_))
  unfold Stop
  refine NT.out.mono ?_
  rintro r wd ⟨An, cn, rfl, hl, hcn, hAn, t4⟩
  obtain ⟨ad, Ai, ci, rfl, hcad, hci, hai, hbi⟩ := hl 0 [5] rfl
  obtain ⟨ad5, rfl, hc5o⟩ := hbi 0 (bv 5) rfl
  rw [addr_zero0] at hcad hc5o
  have KA4 := Lib.hid (KA3.out.quiet t4)
  have HD := Lib.hid (khead_any wd g c 7 _ _ D3 E3 KA4.out)
  have T4 := Lib.hid (T3.out.trans t4 (fun _ _ h => h.elim))
  have hc5 : wd.cell? ad5 = some (.int .u8 5) := hc5o
  clear hc5o
  have hcad' : wd.cell? ad = some (.slice (some ad5) 1 ci) := hcad
  clear hcad
  clear NT hl hci hai hbi t4 c3
  go_wp2_with (go_at_call 27; refine stop ?_)
  unfold Stop
  refine HD.out.mono ?_
  rintro r we ⟨hd, v, hL, rfl, ho, t5⟩
  have hL : ([[], [5]] : List (List B8)) = hd :: [[5]] := hL
  injection hL with hL _
  subst hL
  obtain ⟨Ah, ch, rfl, -⟩ := own_sl ho
  have T6 := Lib.hid (T4.out.trans t5 (fun _ _ h => h.elim))
  clear HD ho t5
  go_wp2
  go_ret
  exact ⟨rfl, T6.out⟩
end
section
set_option linter.unusedVariables false
open Go.RowKit Go.ChangeShapes Go.WideShapes Go.ChangeAt
set_option maxRecDepth 100000
/-- An act, as it lies. -/
structure Ac where
  k : Int
  n : Int
  A : Option Addr
  c : Nat
  b : List B8
  A' : Option Addr
  c' : Nat
  m : List B8
def Ac.cells (f : Ac) : List Value := [.int .i64 f.k, .int .i64 f.n, .slice f.A f.b.length f.c, .slice f.A' f.m.length f.c']
/-- An act whose bytes lie below block B. -/
structure Ac.ok (f : Ac) (w : World) (B : Nat) : Prop where
  k0 : -9223372036854775808 ≤ f.k
  k1 : f.k < 9223372036854775808
  n0 : -9223372036854775808 ≤ f.n
  n1 : f.n < 9223372036854775808
  s : Sl w B f.A (f.b.map bv)
  a : f.A = none → f.c = 0
  c : f.b.length ≤ f.c
  l : f.b.length ≤ maxLen
  s' : Sl w B f.A' (f.m.map bv)
  a' : f.A' = none → f.c' = 0
  c' : f.m.length ≤ f.c'
  l' : f.m.length ≤ maxLen
theorem addr_zero14 (a : Addr) : a.add 0 = a := by unfold Addr.add; split <;> simp_all
theorem rangeAt_of14 {w : World} {base : Nat} {a : Addr} {n : Nat} {cs : List Value} (h : w.cells? base a n = some cs) (hn : 0 < n) : a.spot = none ∧ w.rangeAt a.block a.off cs ∧ a.block < w.heap.size ∧ cs.length = n := by
  obtain ⟨hb, hl, hc⟩ := World.cells?_some h
  have h0 := hc 0 hn
  have hsp : a.spot = none := by
    rw [addr_zero14] at h0
    unfold World.cell? at h0
    cases hh : a.spot with
    | none => rfl
    | some z =>
      rw [hh] at h0
      rw [List.getElem?_eq_getElem (by omega)] at h0
      revert h0
      split <;> simp
  refine ⟨hsp, fun j v hj => ?_, World.cells?_block h hn, hl⟩
  have hj' := (List.getElem?_eq_some_iff.1 hj).1
  have := hc j (by omega)
  rw [hj] at this
  rw [← this]
  congr 1
  unfold Addr.add
  split
  · rename_i h; subst h; cases a; simp_all
  · rfl
section
variable {H : Type} {enc : TypeId × Value → H} {W : World} {fuel : Nat} {x : DataW H × List MemPlace}
theorem trod_bytes14 {cs : List Value} (h : DataW.trod enc Tryd.prog W 0 (fun _ => true) true fuel 36 cs = some x) :
    ∃ (A : Option Addr) (c : Nat) (xs : List B8), cs = [.slice A xs.length c] ∧ Sl W W.heap.size A (xs.map bv) ∧ (A = none → c = 0) ∧ xs.length ≤ c ∧ xs.length ≤ maxLen := by
  rcases open_ints Tryd.underlying36 Tryd.underlying5 (by kernel_rfl) h with ⟨hcs, hx⟩ | ⟨a, len', cap', zs, hcs, _, hl, hm, hz, hx, hcell, hwz⟩
  · exact ⟨none, 0, [], hcs, Sl.none _ _ _, fun _ => rfl, by simp, by simp⟩
  · have hzl : zs.length = cap' := by simpa using hz
    have hlen : ((zs.take len').map fun z => BitVec.ofNat 8 z.toNat).length = len' := by simp; omega
    refine ⟨some a, cap', (zs.take len').map (fun z => BitVec.ofNat 8 z.toNat), by rw [hlen]; exact hcs, ?_, (fun h => by cases h), by omega, by omega⟩
    intro j u hu
    simp only [List.map_map, List.getElem?_map, Option.map_eq_some_iff] at hu
    obtain ⟨z, hz1, rfl⟩ := hu
    have hj : j < len' := by have := (List.getElem?_eq_some_iff.1 hz1).1; simp at this; omega
    have hzj : zs[j]? = some z := by rw [List.getElem?_take, if_pos hj] at hz1; exact hz1
    have h1 := hcell j (by omega)
    have hb := bounds_u8 (hwz z (List.mem_of_getElem? hzj))
    refine ⟨a, rfl, ?_, ?_⟩
    · have := World.block_lt_of_cell? W _ h1
      rwa [add_block] at this
    · rw [h1, List.getD, hzj]
      simp only [Option.getD_some, Function.comp, bv, BitVec.toNat_ofNat]
      rw [Nat.mod_eq_of_lt (by omega)]
      congr 2
      omega
theorem trod_act {cs : List Value} (h : DataW.trod enc Tryd.prog W 0 (fun _ => true) true fuel 38 cs = some x) : ∃ f : Ac, cs = f.cells ∧ f.ok W W.heap.size := by
  obtain ⟨xs, m, -, -, hl, hxl, hall⟩ := DataW.trod_struct Tryd.underlying38 h
  have c31 : Tryd.prog.cellsOf 38 = 4 := by kernel_rfl
  rw [c31] at hl
  have hx4 : xs.length = 4 := hxl
  have g0 : xs[0]? = some xs[0] := List.getElem?_eq_getElem (by omega)
  have g1 : xs[1]? = some xs[1] := List.getElem?_eq_getElem (by omega)
  have g2 : xs[2]? = some xs[2] := List.getElem?_eq_getElem (by omega)
  have g3 : xs[3]? = some xs[3] := List.getElem?_eq_getElem (by omega)
  have h0 : DataW.trod enc Tryd.prog W 0 (fun _ => true) true m 3 ((cs.drop 0).take (Tryd.prog.cellsOf 3)) = some xs[0] := (hall 0 _ rfl).trans g0
  have h1 : DataW.trod enc Tryd.prog W 0 (fun _ => true) true m 3 ((cs.drop 1).take (Tryd.prog.cellsOf 3)) = some xs[1] := (hall 1 _ rfl).trans g1
  have h2 : DataW.trod enc Tryd.prog W 0 (fun _ => true) true m 36 ((cs.drop 2).take (Tryd.prog.cellsOf 36)) = some xs[2] := (hall 2 _ rfl).trans g2
  have h3 : DataW.trod enc Tryd.prog W 0 (fun _ => true) true m 36 ((cs.drop 3).take (Tryd.prog.cellsOf 36)) = some xs[3] := (hall 3 _ rfl).trans g3
  rw [show Tryd.prog.cellsOf 3 = 1 by kernel_rfl] at h0 h1
  rw [show Tryd.prog.cellsOf 36 = 1 by kernel_rfl] at h2 h3
  obtain ⟨k, e0, -, w0⟩ := DataW.trod_int Tryd.underlying3 h0
  obtain ⟨n, e1, -, w1⟩ := DataW.trod_int Tryd.underlying3 h1
  obtain ⟨A, c, b, e2, hs, hA, hc, hm⟩ := trod_bytes14 h2
  obtain ⟨A', c', b', e3, hs', hA', hc', hm'⟩ := trod_bytes14 h3
  have b0 := bounds_i64 w0
  have b1 := bounds_i64 w1
  refine ⟨⟨k, n, A, c, b, A', c', b'⟩, ?_, ⟨b0.1, by simp only; omega, b1.1, by simp only; omega, hs, hA, hc, hm, hs', hA', hc', hm'⟩⟩
  have e : cs = (cs.drop 0).take 1 ++ ((cs.drop 1).take 1 ++ ((cs.drop 2).take 1 ++ (cs.drop 3).take 1)) := by
    rw [List.take_of_length_le (l := cs.drop 3) (by simp; omega)]
    rw [show cs.drop 3 = (cs.drop 2).drop 1 by simp, List.take_append_drop, show cs.drop 2 = (cs.drop 1).drop 1 by simp, List.take_append_drop, show cs.drop 1 = (cs.drop 0).drop 1 by simp, List.take_append_drop]
    simp
  rw [e, e0, e1, e2, e3]
  simp [Ac.cells]
/-- A slice of acts that came in: each lies where its place says. -/
def Acs (w : World) (B : Nat) (A : Option Addr) (l : List Ac) : Prop := ∀ i f, l[i]? = some f → f.ok w B ∧ ∃ b o, A = some ⟨b, o, none⟩ ∧ b < B ∧ w.rangeAt b (o + i * 4) f.cells
theorem open_acts {r : Reach} {b0 : Nat} {v : Value} {d : DataW H} {p : List MemPlace} (hval : Value.okWide Tryd.prog W r b0 22 v) (hd : DataW.Trod enc Tryd.prog W 0 (fun _ => true) true 22 v d p) :
    ∃ (A : Option Addr) (c : Nat) (l : List Ac), v = .slice A l.length c ∧ Acs W W.heap.size A l ∧ (A = none → c = 0) ∧ l.length ≤ c ∧ l.length ≤ maxLen := by
  obtain ⟨a0, len, cap, rfl⟩ := okWide_slice Tryd.underlying22 hval
  obtain ⟨fuel, hf⟩ := hd
  rcases DataW.trod_slice Tryd.underlying22 hf with ⟨hcs, -⟩ | ⟨a, len', cap', elems, rest, m, -, hcs, -, -, hl, hm, hel, hall, -, -⟩
  · simp [Value.cells] at hcs
    obtain ⟨rfl, rfl, rfl⟩ := hcs
    exact ⟨none, 0, [], rfl, fun i f h => by simp at h, fun _ => rfl, by simp, by simp⟩
  · simp [Value.cells] at hcs
    obtain ⟨rfl, rfl, rfl⟩ := hcs
    have c31 : Tryd.prog.cellsOf 38 = 4 := by kernel_rfl
    have each : ∀ i, i < len → ∃ f : Ac, f.ok W W.heap.size ∧ (i = 0 → a.spot = none) ∧ a.block < W.heap.size ∧ W.rangeAt a.block (a.off + i * 4) f.cells := by
      intro i hi
      have h := hall i hi
      rw [c31, List.getElem?_eq_getElem (by omega), Option.bind_eq_some_iff] at h
      obtain ⟨cs, hcs, ht⟩ := h
      obtain ⟨f, rfl, hok⟩ := trod_act ht
      obtain ⟨hsp, hr, hb, -⟩ := rangeAt_of14 hcs (by omega)
      have hadd : (a.add (i * 4)).block = a.block := add_block _ _
      refine ⟨f, hok, ?_, by rw [← hadd]; exact hb, ?_⟩
      · rintro rfl
        rw [Nat.zero_mul, addr_zero14] at hsp; exact hsp
      · rw [hadd] at hr
        have : (a.add (i * 4)).off = a.off + i * 4 := by unfold Addr.add; split <;> simp_all
        rwa [this] at hr
    have hlen : ((List.range len).map fun i => if h : i < len then (each i h).choose else ⟨0, 0, none, 0, [], none, 0, []⟩).length = len := by simp
    refine ⟨some a, cap, (List.range len).map fun i => if h : i < len then (each i h).choose else ⟨0, 0, none, 0, [], none, 0, []⟩, by rw [hlen], ?_, (fun h => by cases h), by omega, by omega⟩
    intro i f hf
    have hi : i < len := by have := (List.getElem?_eq_some_iff.1 hf).1; simpa using this
    simp [hi] at hf
    have hsp := (each 0 (by omega)).choose_spec.2.1 rfl
    obtain ⟨h1, h2, h3, h4⟩ := (each i hi).choose_spec
    rw [hf] at h1 h4
    refine ⟨h1, a.block, a.off, ?_, h3, h4⟩
    cases a; simp_all
end
end
section
set_option linter.unusedVariables false
set_option linter.unusedSimpArgs false
open Go.RowKit
set_option maxRecDepth 100000
def ActOk (f : Ac) : Prop := f.b.length ≤ 300 ∧ f.m.length ≤ 80
set_option maxHeartbeats 4000000 in
theorem great14_any (A : Option Addr) (c : Nat) (l : List Ac) (w : World) (hl : Acs w w.heap.size A l) (hm : l.length ≤ maxLen) :
    Calls Tryd.prog 8 #[.slice A l.length c] w fun r w' => ∃ v, r = .returned (.bool v) ∧ (v = false → l.length ≤ 30 ∧ ∀ f ∈ l, ActOk f) ∧ w' = w := by
  have HL := Lib.hid hl
  unfold maxLen at hm
  clear hl
  go_enter Tryd.func8, Tryd.ntmps8
  go_wp2
  go_loopw [3] (fun iv wr => ∃ k : Nat, k ≤ l.length ∧ k ≤ 30 ∧ iv = .int .i64 (k : Int) ∧ (∀ i f, i < k → l[i]? = some f → ActOk f) ∧ wr = w) (fun iv _ => l.length - (intOf iv).toNat)
  case atStart => exact ⟨0, by omega, by omega, rfl, fun i f h => by omega, rfl⟩
  case round =>
    obtain ⟨k, hk, hk30, rfl, ha, rfl⟩ := hrel
    have HA := Lib.hid ha
    clear ha
    by_cases h1 : k < l.length
    rotate_left 1
    · have hkl : k = l.length := by omega
      have d1 : decide ((k : Int) < (l.length : Int)) = false := decide_eq_false (by omega)
      have d2 : decide ((30 : Int) < (l.length : Int)) = false := decide_eq_false (by omega)
      go_wp2
      go_ret
      refine ⟨_, rfl, fun _ => ⟨by omega, fun f hf => ?_⟩, rfl⟩
      obtain ⟨i, hi, e⟩ := List.mem_iff_getElem.1 hf
      exact HA.out i f (by omega) (by rw [List.getElem?_eq_getElem hi, e])
    have d1 : decide ((k : Int) < (l.length : Int)) = true := decide_eq_true (by omega)
    by_cases h30 : k < 30
    rotate_left 1
    · have d3 : decide ((k : Int) < 30) = false := decide_eq_false (by omega)
      have d2 : decide ((30 : Int) < (l.length : Int)) = true := decide_eq_true (by omega)
      go_wp2
      go_ret
      exact ⟨_, rfl, (fun h => by cases h), rfl⟩
    have d3 : decide ((k : Int) < 30) = true := decide_eq_true (by omega)
    obtain ⟨-, bb, o, rfl, hbb, hr⟩ := HL.out k l[k] (List.getElem?_eq_getElem h1)
    have c2 : wr.cell? ⟨bb, o + k * 4 + 2, none⟩ = some (.slice l[k].A l[k].b.length l[k].c) := hr 2 _ rfl
    have c3 : wr.cell? ⟨bb, o + k * 4 + 3, none⟩ = some (.slice l[k].A' l[k].m.length l[k].c') := hr 3 _ rfl
    by_cases hb : 300 < l[k].b.length
    · have d4 : decide ((300 : Int) < (l[k].b.length : Int)) = true := decide_eq_true (by omega)
      have d4' : decide (300 < l[k].b.length) = true := decide_eq_true hb
      go_wp2
      go_ret
      exact ⟨_, rfl, (fun h => by cases h), rfl⟩
    have d4 : decide ((300 : Int) < (l[k].b.length : Int)) = false := decide_eq_false (by omega)
    have d4' : decide (300 < l[k].b.length) = false := decide_eq_false hb
    by_cases hmm : 80 < l[k].m.length
    · have d5 : decide ((80 : Int) < (l[k].m.length : Int)) = true := decide_eq_true (by omega)
      have d5' : decide (80 < l[k].m.length) = true := decide_eq_true hmm
      go_wp2
      go_ret
      exact ⟨_, rfl, (fun h => by cases h), rfl⟩
    have d5 : decide ((80 : Int) < (l[k].m.length : Int)) = false := decide_eq_false (by omega)
    have d5' : decide (80 < l[k].m.length) = false := decide_eq_false hmm
    go_wp2
    go_roundw
    case rel =>
      refine ⟨k + 1, by omega, by omega, by go_num, fun i f hi hf => ?_, (by first | rfl | trivial)⟩
      by_cases e : i = k
      · subst e
        rw [List.getElem?_eq_getElem h1] at hf
        injection hf with hf
        subst hf
        exact ⟨by omega, by omega⟩
      · exact HA.out i f (by omega) hf
    case measure => simp [intOf]; omega
end
section
set_option linter.unusedVariables false
set_option linter.unusedSimpArgs false
open Go.RowKit
set_option maxRecDepth 100000
/-- The document's chest in a block. -/
def RefAt (w : World) (x : Nat) (t half : Int) (L : List (List B8)) (N : Nat → Prop) : Prop := ¬ N x ∧ ∃ A cc, w.heap[x]? = some (.cells (cstC t half A L.length cc) 33 (0, 0)) ∧ LstQ w N A L ∧ (A = none → cc = 0) ∧ L.length ≤ cc
theorem RefAt.turn {w w' : World} {x : Nat} {t half : Int} {L : List (List B8)} {S N N' : Nat → Prop} (h : RefAt w x t half L N) (k : Turn S w w') (hS : ∀ i, S i → N i) (hN : ∀ i, i < w.heap.size → N' i → N i) : RefAt w' x t half L N' := by
  obtain ⟨hx, A, cc, hb, hl, hA, hc⟩ := h
  exact ⟨fun h => hx (hN x (lt_of_block hb) h), A, cc, k.heap hb (fun h => hx (hS x h)), hl.turn k hS hN, hA, hc⟩
theorem RefAt.quiet {w w' : World} {x : Nat} {t half : Int} {L : List (List B8)} {N : Nat → Prop} (h : RefAt w x t half L N) (k : Turn (fun _ => False) w w') : RefAt w' x t half L N := h.turn k (fun _ h => h.elim) (fun _ _ h => h)
end
section
set_option linter.unusedVariables false
set_option linter.unusedSimpArgs false
open Go.RowKit
set_option maxRecDepth 100000
theorem CG.sync {d : Dr} {n : Nat} {k : Ck} (h : CG d n k) : d.syncE = 0 ∧ CG d.sync n k ∧ d.sync.W = [] := by
  obtain ⟨h1, h2, h3, h4⟩ := h.iv.sync
  refine ⟨h1, ⟨h2, h.p, h.a, h.t, h.ne, ?_⟩, h3⟩
  rcases h.oth with ⟨ha, ho⟩ | ⟨ha, ho⟩
  · exact .inl ⟨ha, by rw [pkT_congr h.iv.on.off h2.on.off (fun j _ _ => h4 j)]; exact ho⟩
  · exact .inr ⟨ha, by rw [pkT_congr h.iv.on.off h2.on.off (fun j _ _ => h4 j)]; exact ho⟩
section
variable {w : World} {g c n : Nat} {d : Dr} {k : Ck} {D E : Nat → Prop}
end
/-- is, of a chest in memory and the document's in a block. -/
theorem is_ref {w : World} {g c n : Nat} {d : Dr} {k : Ck} {D E N : Nat → Prop} {x : Nat} {half : Int} (h : KAt w g c n d k D E) (cg : CG d n k) (hr : RefAt w x k.t half k.L N) (hh : half = ((n / 2 : Nat) : Int)) (hn : n ≤ 8192) :
    ∃ A cc, w.heap[x]? = some (.cells (cstC k.t half A k.L.length cc) 33 (0, 0)) ∧ LstQ w N A k.L ∧ (A = none → cc = 0) ∧ k.L.length ≤ cc ∧ ∀ w2, Turn (fun _ => False) w w2 → Calls Tryd.prog 13 #[.pointer (some ⟨c, 0, none⟩), cstV k.t half A k.L.length cc] w2 fun r w' => r = .returned (.bool true) ∧ Turn (fun _ => False) w2 w' := by
  obtain ⟨hx, A, cc, hb, hl, hA, hc⟩ := hr
  subst hh
  exact ⟨A, cc, hb, hl, hA, hc, fun w2 t => is_yes w2 g c n d k D E A cc (h.quiet t) hn ((hl.turn (N' := N) t (fun _ h => h.elim) (fun _ _ h => h)).lstN) hA hc cg.left⟩
end
section
set_option linter.unusedVariables false
set_option linter.unusedSimpArgs false
open Go.RowKit
set_option maxRecDepth 100000
theorem write_power {d : Dr} {n a : Nat} {s : Sec} (ok : d.Ok n) (hoff : d.off = false) (ha : a < n) (hs : s.length = 64) : (d.writeE (a : Int) s = 0 ∧ (d.write (a : Int) s).off = false) ∨ (d.writeE (a : Int) s = 20 ∧ (d.write (a : Int) s).off = true) := by
  have hr : d.readE (a : Int) = 0 := by
    unfold Dr.readE
    rw [ok.len, hoff, if_neg (by simp), if_pos (by omega)]
  have e1 : d.writeE (a : Int) s = if d.fuse = 1 then 20 else 0 := by unfold Dr.writeE; rw [hr, if_neg (by simp), if_neg (by omega)]
  have e2 : d.write (a : Int) s = if d.fuse = 1 then d.burn else { d.burn with W := d.W ++ [((a : Int).toNat, s)] } := by unfold Dr.write; rw [hr, if_neg (by omega)]
  rw [e1, e2]
  by_cases hf : d.fuse = 1
  · rw [if_pos hf, if_pos hf]
    exact .inr ⟨rfl, by unfold Dr.burn; simp [hf]⟩
  · rw [if_neg hf, if_neg hf]
    exact .inl ⟨rfl, by unfold Dr.burn; simp [hf, hoff]⟩
theorem sync_power {d : Dr} (hoff : d.off = false) : (d.syncE = 0 ∧ d.sync.off = false) ∨ (d.syncE = 20 ∧ d.sync.off = true) := by
  unfold Dr.syncE Dr.sync
  rw [hoff]
  by_cases hf : d.fuse = 1
  · exact .inr ⟨by simp [hf], by simp [hf, Dr.burn]⟩
  · exact .inl ⟨by simp [hf], by simp [hf, Dr.burn, Dr.land, hoff]⟩
theorem putR_power {n : Nat} : ∀ (l : List Sec) (d : Dr) (a : Nat), d.Ok n → d.off = false → a + l.length ≤ n → (∀ s ∈ l, s.length = 64) → ((putR d a l).2 = 0 ∧ (putR d a l).1.off = false) ∨ ((putR d a l).2 = 20 ∧ (putR d a l).1.off = true)
  | [], d, a, ok, hoff, h, hs => .inl ⟨rfl, hoff⟩
  | s :: l, d, a, ok, hoff, h, hs => by
    rw [List.length_cons] at h
    rw [putR]
    rcases write_power ok hoff (show a < n by omega) (hs s (List.mem_cons_self ..)) with ⟨h1, h2⟩ | ⟨h1, h2⟩
    · rw [if_neg (by rw [h1]; simp)]
      exact putR_power l _ _ (ok.write _ _) h2 (by omega) (fun x hx => hs x (List.mem_cons_of_mem _ hx))
    · rw [if_pos (by rw [h1]; decide)]
      exact .inr ⟨h1, h2⟩
theorem putR_W : ∀ (l : List Sec) (d : Dr) (a : Nat), (putR d a l).1.W.length ≤ d.W.length + l.length
  | [], d, a => Nat.le_refl _
  | s :: l, d, a => by
    rw [putR]
    have h := write_W_le d (a : Int) s
    split
    · show (d.write (a : Int) s).W.length ≤ _
      rw [List.length_cons]; omega
    · have := putR_W l (d.write (a : Int) s) (a + 1)
      rw [List.length_cons]; omega
theorem zeros64 : (zeros 64).length = 64 := by simp [zeros]
theorem wipeL_power {n : Nat} (d0 : Dr) (p : Nat) : ∀ (r i : Nat) (d : Dr), d.Ok n → d.off = false → p + i + r ≤ n → (((wipeL d0 d p i r).2 = 0 ∧ (wipeL d0 d p i r).1.off = false) ∨ ((wipeL d0 d p i r).2 = 20 ∧ (wipeL d0 d p i r).1.off = true)) ∧ (wipeL d0 d p i r).1.Ok n
  | 0, i, d, ok, hoff, h => ⟨.inl ⟨rfl, hoff⟩, ok⟩
  | r + 1, i, d, ok, hoff, h => by
    rw [wipeL]
    split
    · exact wipeL_power d0 p r (i + 1) d ok hoff (by omega)
    · rcases write_power ok hoff (show p + i < n by omega) zeros64 with ⟨h1, h2⟩ | ⟨h1, h2⟩
      · rw [if_neg (by rw [h1]; simp)]
        exact wipeL_power d0 p r (i + 1) _ (ok.write _ _) h2 (by omega)
      · rw [if_pos (by rw [h1]; decide)]
        exact ⟨.inr ⟨h1, h2⟩, ok.write _ _⟩
theorem wipeR_power {n : Nat} {d : Dr} {p m : Nat} (ok : d.Ok n) (hoff : d.off = false) (h : p + m ≤ n) : (((wipeR d p m).2 = 0 ∧ (wipeR d p m).1.off = false) ∨ ((wipeR d p m).2 = 20 ∧ (wipeR d p m).1.off = true)) ∧ (wipeR d p m).1.Ok n := by
  obtain ⟨h1, h2⟩ := wipeL_power (n := n) d p m 0 d ok hoff (by omega)
  unfold wipeR
  rcases h1 with ⟨h1, h3⟩ | ⟨h1, h3⟩
  · rw [if_neg (by rw [h1]; simp)]
    split
    · exact ⟨sync_power h3, h2.sync⟩
    · exact ⟨.inl ⟨rfl, h3⟩, h2⟩
  · rw [if_pos (by rw [h1]; decide)]
    exact ⟨.inr ⟨h1, h3⟩, h2⟩
/-- A scroll's Put that its form and its room allow. -/
theorem put_power {n : Nat} {d : Dr} {s : Scr} {b : List B8} (ok : d.Ok n) (hoff : d.off = false) (hf : s.fin ≤ n) (h : s.pre b = 0) : ((s.putE d b = 0 ∧ (s.putD d b).off = false) ∨ (s.putE d b = 20 ∧ (s.putD d b).off = true)) ∧ (s.putD d b).W.length ≤ d.W.length + secsOf (s.form b) ∧ s.pos + secsOf (s.form b) ≤ s.fin := by
  have hp := h
  unfold Scr.pre at hp
  split at hp
  · cases hp
  · split at hp
    · rename_i h2; exact absurd hp h2
    · split at hp
      · cases hp
      · rename_i h3
        have hl : ∀ x ∈ chunks (secsOf (s.form b)) (s.form b), x.length = 64 := chunks_sec _ _ (by unfold secsOf; omega)
        have h1 := putR_power (n := n) (chunks (secsOf (s.form b)) (s.form b)) d s.pos ok hoff (by rw [chunks_len]; omega) hl
        have h2 := putR_W (chunks (secsOf (s.form b)) (s.form b)) d s.pos
        rw [chunks_len] at h2
        unfold Scr.putE Scr.putD
        rw [if_neg (by rw [h]; simp), if_neg (by rw [h]; simp)]
        exact ⟨h1, h2, by omega⟩
theorem layR_power {n : Nat} {d : Dr} {p m t : Nat} {b : List B8} (ok : d.Ok n) (hoff : d.off = false) (hp : p + m ≤ n) (hE : formE13 (t : Int) ((0 : Nat) : Int) b = 0) (hr : secsOf (formV13 (t : Int) ((0 : Nat) : Int) b) ≤ m) :
    (((layR d p m t b).2 = 0 ∧ (layR d p m t b).1.off = false) ∨ ((layR d p m t b).2 = 20 ∧ (layR d p m t b).1.off = true)) ∧ (layR d p m t b).1.W.length ≤ d.W.length + 2 * m := by
  obtain ⟨w1, w2⟩ := wipeR_power (p := p) (m := m) ok hoff hp
  have w3 := wipeR_W d p m
  have hpre : (Scr.mk p (p + m) t 0 false).pre b = 0 := by
    unfold Scr.pre
    rw [if_neg (by simp), if_neg (show ¬ ((Scr.mk p (p + m) t 0 false).formE b ≠ 0) from fun h => h hE), if_neg (show ¬ (Scr.mk p (p + m) t 0 false).fin < (Scr.mk p (p + m) t 0 false).pos + secsOf ((Scr.mk p (p + m) t 0 false).form b) from (show ¬ p + m < p + secsOf (formV13 (t : Int) ((0 : Nat) : Int) b) by omega))]
  unfold layR
  rcases w1 with ⟨h1, h2⟩ | ⟨h1, h2⟩
  · rw [if_neg (by rw [h1]; simp)]
    obtain ⟨q1, q2, q3⟩ := put_power (s := Scr.mk p (p + m) t 0 false) w2 h2 (show p + m ≤ n from hp) hpre
    have q2 : ((Scr.mk p (p + m) t 0 false).putD (wipeR d p m).1 b).W.length ≤ (wipeR d p m).1.W.length + secsOf (formV13 (t : Int) ((0 : Nat) : Int) b) := q2
    rcases q1 with ⟨g1, g2⟩ | ⟨g1, g2⟩
    · rw [if_neg (by rw [g1]; simp)]
      have := sync_W_le ((Scr.mk p (p + m) t 0 false).putD (wipeR d p m).1 b)
      exact ⟨sync_power g2, by show (((Scr.mk p (p + m) t 0 false).putD (wipeR d p m).1 b).sync).W.length ≤ _; omega⟩
    · rw [if_pos (by rw [g1]; decide)]
      exact ⟨.inr ⟨g1, g2⟩, by show ((Scr.mk p (p + m) t 0 false).putD (wipeR d p m).1 b).W.length ≤ _; omega⟩
  · rw [if_pos (by rw [h1]; decide)]
    exact ⟨.inr ⟨h1, h2⟩, by omega⟩
/-- The chest and its drum, the power on or gone. -/
def GSt (w : World) (g c n i : Nat) (B : Nat) (on : Bool) : Prop :=
  if on = true then ∃ d k D E, KAt w g c n d k D E ∧ d.off = false ∧ d.W.length ≤ n * i ∧ k.t ≤ 1 + i ∧ k.L.length ≤ 1 + i ∧ (∀ j, D j → B ≤ j) ∧ (∀ j, E j → B ≤ j)
  else ∃ d D, LD w g n d D ∧ d.off = true ∧ KGn w c ∧ ¬ D c ∧ c < w.heap.size ∧ (∀ j, D j → B ≤ j) ∧ B ≤ c
theorem GSt.on {w : World} {g c n i B : Nat} {on : Bool} (h : GSt w g c n i B on) : Calls Tryd.prog 29 #[.pointer (some ⟨g, 0, none⟩)] w fun r w' => r = .returned (.bool on) ∧ w' = w := by
  unfold GSt at h
  cases on with
  | true =>
    rw [if_pos rfl] at h
    obtain ⟨d, k, D, E, ka, ho, -⟩ := h
    have := ka.ld.on
    rw [ho] at this; exact this
  | false =>
    rw [if_neg (by simp)] at h
    obtain ⟨d, D, ld, ho, -⟩ := h
    have := ld.on
    rw [ho] at this; exact this
end
section
set_option linter.unusedVariables false
set_option linter.unusedSimpArgs false
set_option maxRecDepth 100000
/-- A drum without its fuse. -/
def Dr.nf (d : Dr) : Dr := { d with fuse := 0 }
theorem nf_now (d : Dr) (k : Nat) : d.nf.now k = d.now k := rfl
theorem nf_write {d : Dr} {a : Int} {s : Sec} (h : d.writeE a s = 0) : d.nf.writeE a s = 0 ∧ d.nf.write a s = (d.write a s).nf := by
  unfold Dr.writeE at h
  split at h
  · contradiction
  · rename_i h1
    split at h
    · cases h
    · rename_i h2
      split at h
      · cases h
      · rename_i h3
        have hr : d.nf.readE a = d.readE a := rfl
        have h0 : ¬ d.nf.fuse = 1 := by show ¬ (0 : Nat) = 1; omega
        constructor
        · unfold Dr.writeE; rw [hr, if_neg h1, if_neg h2, if_neg h0]
        · unfold Dr.write
          rw [hr, if_neg (show ¬ (d.readE a ≠ 0 ∨ s.length ≠ 64) from by rw [not_or]; exact ⟨h1, h2⟩), if_neg h0, if_neg (show ¬ (d.readE a ≠ 0 ∨ s.length ≠ 64) from by rw [not_or]; exact ⟨h1, h2⟩), if_neg h3]
          simp [Dr.nf, Dr.burn, h3]
theorem nf_sync {d : Dr} (h : d.syncE = 0) : d.nf.syncE = 0 ∧ d.nf.sync = d.sync.nf := by
  unfold Dr.syncE at h
  split at h
  · cases h
  · rename_i h1
    split at h
    · cases h
    · rename_i h2
      have h0 : ¬ d.nf.fuse = 1 := by show ¬ (0 : Nat) = 1; omega
      have h9 : ¬ d.nf.off = true := h1
      constructor
      · unfold Dr.syncE; rw [if_neg h9, if_neg h0]
      · unfold Dr.sync
        rw [if_neg h9, if_neg h0, if_neg h1, if_neg h2]
        simp [Dr.nf, Dr.burn, Dr.land, h2]
theorem nf_putR : ∀ (l : List Sec) (d : Dr) (a : Nat), (putR d a l).2 = 0 → putR d.nf a l = ((putR d a l).1.nf, 0)
  | [], d, a, h => rfl
  | s :: l, d, a, h => by
    rw [putR] at h
    by_cases hq : d.writeE (a : Int) s ≠ 0
    · rw [if_pos hq] at h; exact absurd h hq
    · rw [if_neg hq] at h
      obtain ⟨e1, e2⟩ := nf_write (Decidable.not_not.1 hq)
      rw [putR, putR, if_neg (by rw [e1]; simp), if_neg hq, e2]
      exact nf_putR l _ _ h
theorem nf_wipeL (d0 : Dr) (p : Nat) : ∀ (r i : Nat) (d : Dr), (wipeL d0 d p i r).2 = 0 → wipeL d0.nf d.nf p i r = ((wipeL d0 d p i r).1.nf, 0)
  | 0, i, d, h => rfl
  | r + 1, i, d, h => by
    rw [wipeL] at h
    rw [wipeL, wipeL, nf_now]
    by_cases hz : d0.now (p + i) = zeros 64
    · rw [if_pos hz] at h
      rw [if_pos hz, if_pos hz]
      exact nf_wipeL d0 p r _ _ h
    · rw [if_neg hz] at h
      rw [if_neg hz, if_neg hz]
      by_cases hq : d.writeE ((p + i : Nat) : Int) (zeros 64) ≠ 0
      · rw [if_pos hq] at h; exact absurd h hq
      · rw [if_neg hq] at h
        obtain ⟨e1, e2⟩ := nf_write (Decidable.not_not.1 hq)
        rw [if_neg (by rw [e1]; simp), if_neg hq, e2]
        exact nf_wipeL d0 p r _ _ h
theorem nf_wiB (d : Dr) (p : Nat) : ∀ i, wiB d.nf p i = wiB d p i
  | 0 => rfl
  | i + 1 => by rw [wiB, wiB, nf_now, nf_wiB d p i]
theorem nf_wipeR {d : Dr} {p m : Nat} (h : (wipeR d p m).2 = 0) : wipeR d.nf p m = ((wipeR d p m).1.nf, 0) := by
  unfold wipeR at h ⊢
  by_cases hq : (wipeL d d p 0 m).2 ≠ 0
  · rw [if_pos hq] at h; exact absurd h hq
  · rw [if_neg hq] at h
    have e := nf_wipeL d p m 0 d (Decidable.not_not.1 hq)
    rw [if_neg (by rw [e]; simp), nf_wiB, e, if_neg hq]
    by_cases hw : wiB d p m = true
    · rw [if_pos hw] at h
      rw [if_pos hw, if_pos hw]
      have h' : (wipeL d d p 0 m).1.syncE = 0 := h
      rw [(nf_sync h').1, (nf_sync h').2]
    · rw [if_neg hw, if_neg hw]
theorem nf_put {s : Scr} {d : Dr} {b : List B8} (h : s.putE d b = 0) : s.putE d.nf b = 0 ∧ s.putD d.nf b = (s.putD d b).nf := by
  unfold Scr.putE at h ⊢
  unfold Scr.putD
  by_cases hq : s.pre b ≠ 0
  · rw [if_pos hq] at h; exact absurd h hq
  · rw [if_neg hq] at h
    rw [if_neg hq, if_neg hq, if_neg hq]
    unfold Scr.all at h ⊢
    rw [nf_putR _ _ _ h]
    exact ⟨rfl, rfl⟩
theorem nf_layR {d : Dr} {p m t : Nat} {b : List B8} (h : (layR d p m t b).2 = 0) : layR d.nf p m t b = ((layR d p m t b).1.nf, 0) := by
  unfold layR at h ⊢
  by_cases hq : (wipeR d p m).2 ≠ 0
  · rw [if_pos hq] at h; exact absurd h hq
  · rw [if_neg hq] at h
    have e := nf_wipeR (Decidable.not_not.1 hq)
    rw [e, if_neg (by simp), if_neg hq]
    by_cases hp : (Scr.mk p (p + m) t 0 false).putE (wipeR d p m).1 b ≠ 0
    · rw [if_pos hp] at h; exact absurd h hp
    · rw [if_neg hp] at h
      obtain ⟨e1, e2⟩ := nf_put (Decidable.not_not.1 hp)
      have h' : ((Scr.mk p (p + m) t 0 false).putD (wipeR d p m).1 b).syncE = 0 := h
      obtain ⟨f1, f2⟩ := nf_sync h'
      show (if (Scr.mk p (p + m) t 0 false).putE (wipeR d p m).1.nf b ≠ 0 then _ else _) = _
      rw [if_neg (by rw [e1]; simp), if_neg hp]
      show (((Scr.mk p (p + m) t 0 false).putD (wipeR d p m).1.nf b).sync, ((Scr.mk p (p + m) t 0 false).putD (wipeR d p m).1.nf b).syncE) = _
      rw [e2, f1, f2]
/- WHAT EACH WRITE KEEPS. -/
theorem putR_keeps (Q : Dr → Prop) : ∀ (l : List Sec) (d : Dr) (a : Nat), (∀ i s d, l[i]? = some s → Q d → Q (d.write ((a + i : Nat) : Int) s)) → Q d → Q (putR d a l).1
  | [], d, a, hw, h => h
  | s :: l, d, a, hw, h => by
    have h1 := hw 0 s d rfl h
    rw [Nat.add_zero] at h1
    rw [putR]
    split
    · exact h1
    · exact putR_keeps Q l _ _ (fun i x d hx hd => by
        have := hw (i + 1) x d (by simpa using hx) hd
        rwa [show a + (i + 1) = a + 1 + i by omega] at this) h1
theorem wipeL_keeps (Q : Dr → Prop) (d0 : Dr) (p : Nat) : ∀ (r i : Nat) (d : Dr), (∀ j d, i ≤ j → j < i + r → Q d → Q (d.write ((p + j : Nat) : Int) (zeros 64))) → Q d → Q (wipeL d0 d p i r).1
  | 0, i, d, hw, h => h
  | r + 1, i, d, hw, h => by
    rw [wipeL]
    split
    · exact wipeL_keeps Q d0 p r _ _ (fun j d a b => hw j d (by omega) (by omega)) h
    · split
      · exact hw i d (Nat.le_refl _) (by omega) h
      · exact wipeL_keeps Q d0 p r _ _ (fun j d a b => hw j d (by omega) (by omega)) (hw i d (Nat.le_refl _) (by omega) h)
theorem wipeR_keeps (Q : Dr → Prop) (d : Dr) (p m : Nat) (hw : ∀ j d, j < m → Q d → Q (d.write ((p + j : Nat) : Int) (zeros 64))) (hs : ∀ d, Q d → Q d.sync) (h : Q d) : Q (wipeR d p m).1 := by
  have h1 := wipeL_keeps Q d p m 0 d (fun j d a b => hw j d (by omega)) h
  unfold wipeR
  split
  · exact h1
  · split
    · exact hs _ h1
    · exact h1
theorem put_keeps (Q : Dr → Prop) (s : Scr) (d : Dr) (b : List B8) (hw : s.pre b = 0 → ∀ i x d, (chunks (secsOf (s.form b)) (s.form b))[i]? = some x → Q d → Q (d.write ((s.pos + i : Nat) : Int) x)) (h : Q d) : Q (s.putD d b) := by
  unfold Scr.putD
  split
  · exact h
  · rename_i hq
    exact putR_keeps Q _ _ _ (hw (Decidable.not_not.1 hq)) h
theorem layR_keeps (Q : Dr → Prop) (d : Dr) (p m t : Nat) (b : List B8) (hw : ∀ j d, j < m → Q d → Q (d.write ((p + j : Nat) : Int) (zeros 64))) (hs : ∀ d, Q d → Q d.sync)
    (hp : (Scr.mk p (p + m) t 0 false).pre b = 0 → ∀ i x d, (chunks (secsOf (formV13 (t : Int) ((0 : Nat) : Int) b)) (formV13 (t : Int) ((0 : Nat) : Int) b))[i]? = some x → Q d → Q (d.write ((p + i : Nat) : Int) x)) (h : Q d) : Q (layR d p m t b).1 := by
  have h1 := wipeR_keeps Q d p m hw hs h
  have h2 := put_keeps Q (Scr.mk p (p + m) t 0 false) (wipeR d p m).1 b hp h1
  unfold layR
  split
  · exact h1
  · split
    · exact h2
    · exact hs _ h2
end
end Go.Proofs.YtajdcekkmikbcaaDoor
