/- Merged: Layer 8: the shard of an output, as a plain function; the contract of the code's 'within'. The contract of the code's 'Of': the shard of an output. The contract of the document's 'Of'. -/
import Derived.Test.YtoclfohgchlpnaaDoorTxX
import Derived.Test.YtoclfohgchlpnaaDoorTgD
import Derived.Test.YtoclfohgchlpnaaDoorTxU
namespace Go.Proofs.YtoclfohgchlpnaaDoor
section
set_option linter.unusedVariables false
set_option linter.unusedSimpArgs false

open Go.RowKit
/-- The number of an output: the first eight bytes of its digest. -/
def numO (d : List B8) (k : Nat) : Nat := valB ((dig (underB 10 [d, [BitVec.ofNat 8 k]])).take 8)
def inN (n : Int) : Bool := decide (1 ≤ n ∧ n ≤ 64)
def inO (x n : Int) : Bool := decide ((1 ≤ n ∧ n ≤ 64) ∧ 0 ≤ x ∧ x ≤ 15)
def shO (d : List B8) (x n : Int) : Nat := if inO x n = true then numO d x.toNat % n.toNat else 0
set_option maxRecDepth 100000 in
theorem shO_no {d : List B8} {x n : Int} (h : inO x n = false) : shO d x n = 0 := by unfold shO; rw [if_neg (by rw [h]; decide)]
set_option maxRecDepth 100000 in
theorem shO_lt {d : List B8} {x n : Int} (h : inO x n = true) : shO d x n < n.toNat := by
  unfold shO; rw [if_pos h]
  have := of_decide_eq_true h
  exact Nat.mod_lt _ (by omega)
set_option maxRecDepth 100000 in
theorem shO_64 (d : List B8) (x n : Int) : shO d x n < 64 := by
  cases h : inO x n
  · rw [shO_no h]; omega
  · have := shO_lt (d := d) h; have := of_decide_eq_true h; omega
set_option maxRecDepth 100000 in
theorem inO_no1 {x n : Int} (h : ¬ (1 ≤ n ∧ n ≤ 64)) : inO x n = false := decide_eq_false (fun k => h k.1)
set_option maxRecDepth 100000 in
theorem inO_no2 {x n : Int} (h : ¬ (0 ≤ x ∧ x ≤ 15)) : inO x n = false := decide_eq_false (fun k => h k.2)
set_option maxRecDepth 100000 in
theorem inO_yes {x n : Int} (h : 1 ≤ n ∧ n ≤ 64) (h2 : 0 ≤ x ∧ x ≤ 15) : inO x n = true := decide_eq_true ⟨h, h2⟩
set_option maxRecDepth 100000 in
theorem mwithin_any (n : Int) (w : World) :
    Calls Tryd.prog 21 #[.int .i64 n] w fun e w' => e = .returned (.bool (inN n)) ∧ Below w.heap.size w w' := by
  by_cases h1 : 1 ≤ n
  · have d1 : decide (n ≥ 1) = true := decide_eq_true h1
    have d1' : decide (1 ≤ n) = true := decide_eq_true h1
    by_cases h2 : n ≤ 64
    · have d2 : decide (n ≤ 64) = true := decide_eq_true h2
      have e : inN n = true := decide_eq_true ⟨h1, h2⟩
      rw [e]; clear e h1 h2
      go_enter Tryd.func21, Tryd.ntmps21
      go_wp2
      go_ret
      exact ⟨rfl, Below.refl _ _⟩
    · have d2 : decide (n ≤ 64) = false := decide_eq_false h2
      have e : inN n = false := decide_eq_false (fun k => h2 k.2)
      rw [e]; clear e h1 h2
      go_enter Tryd.func21, Tryd.ntmps21
      go_wp2
      go_ret
      exact ⟨rfl, Below.refl _ _⟩
  · have d1 : decide (n ≥ 1) = false := decide_eq_false h1
    have d1' : decide (1 ≤ n) = false := decide_eq_false h1
    have e : inN n = false := decide_eq_false (fun k => h1 k.1)
    rw [e]; clear e h1
    go_enter Tryd.func21, Tryd.ntmps21
    go_wp2
    go_ret
    exact ⟨rfl, Below.refl _ _⟩

end
section
set_option linter.unusedVariables false
set_option linter.unusedSimpArgs false

open Go.RowKit
/-- A slice of one new byte. -/
def SlcZ (b : B8) (v : Value) (w : World) : Prop := ∃ g, v = .slice (some ⟨g, 0, none⟩) 1 1 ∧ w.heap[g]? = some (.cells ([b].map bv).toArray 5 (0, 0))
set_option maxRecDepth 100000 in
theorem SlcZ.stable (b : B8) (v : Value) (w w' : World) (h : SlcZ b v w) (hs : Stp w w') : SlcZ b v w' := by
  obtain ⟨g, e, hg⟩ := h
  exact ⟨g, e, heap_below hs hg⟩
set_option maxRecDepth 100000 in
theorem does_slc {P : Program} {o : Oper} {a : Act} {w : World} (b : B8) (d : Tmp) (hd : o.dst = some d) (hr : ∀ w, (execOp a.eval o).run P w = .ok (.value (.slice (some ⟨w.heap.size, 0, none⟩) 1 1)) (w.alloc (.cells ([b].map bv).toArray 5))) :
    doesR P o a w (fun u w' => SlcZ b (retV o u) w' ∧ Stp w w') := by
  refine does_run (hr w) ⟨?_, (Below.refl _ _).alloc (Nat.le_refl _) _⟩
  have e : ∀ u, retV o u = u := fun u => by unfold retV; rw [hd]
  rw [e]
  exact ⟨w.heap.size, rfl, heap_alloc_new w _⟩
/-- A new list of two lists of bytes. -/
def LstZ (ls : List (List B8)) (v : Value) (w : World) : Prop := ∃ g, v = .slice (some ⟨g, 0, none⟩) 2 2 ∧ Lst w (some ⟨g, 0, none⟩) ls
set_option maxRecDepth 100000 in
theorem LstZ.stable (ls : List (List B8)) (v : Value) (w w' : World) (h : LstZ ls v w) (hs : Stp w w') : LstZ ls v w' := by
  obtain ⟨g, e, hg⟩ := h
  exact ⟨g, e, lst_stp hg hs⟩
set_option maxRecDepth 100000 in
theorem does_lst {P : Program} {o : Oper} {a : Act} {w : World} (xs ys : List B8) (A A' : Option Addr) (c c' n n' : Nat) (hn : n = xs.length) (hn' : n' = ys.length) (hc : xs.length ≤ c) (hc' : ys.length ≤ c') (hx : Bts w A xs) (hy : Bts w A' ys) (d : Tmp) (hd : o.dst = some d) (hr : ∀ w, (execOp a.eval o).run P w = .ok (.value (.slice (some ⟨w.heap.size, 0, none⟩) 2 2)) (w.alloc (.cells #[.slice A n c, .slice A' n' c'] 52))) :
    doesR P o a w (fun u w' => LstZ [xs, ys] (retV o u) w' ∧ Stp w w') := by
  have hs : Stp w (w.alloc (.cells #[.slice A n c, .slice A' n' c'] 52)) := (Below.refl _ _).alloc (Nat.le_refl _) _
  refine does_run (hr w) ⟨?_, hs⟩
  have e : ∀ u, retV o u = u := fun u => by unfold retV; rw [hd]
  rw [e]
  exact ⟨w.heap.size, rfl, lst_two hn hn' (heap_alloc_new w _) hc hc' (bts_stp hx hs) (bts_stp hy hs)⟩
def IntV (u : Value) (v : Value) (_ : World) : Prop := v = u
set_option maxRecDepth 100000 in
theorem slice_8 (a : Addr) (w : World) : (Instr.sliceAt 23 (.pointer (some a)) none (some (.int .i64 8)) none).run Tryd.prog w = .ok (.slice (some a) 8 32) w := by
  kernel_rfl
set_option maxRecDepth 100000 in
set_option maxHeartbeats 4000000 in
theorem mof_any (d : List B8) (x n : Int) (w : World) (hd : d.length = 32) (hG : Glob w) :
    Calls Tryd.prog 7 #[.agg (recV d (.int .i64 x)).toArray, .int .i64 n] w fun e w' => e = .returned (.tuple #[.int .i64 (shO d x n : Int), .bool (inO x n)]) ∧ Below w.heap.size w w' := by
  obtain ⟨w0, hw0⟩ : ∃ w0, w0 = w.alloc (.cells (recV d (.int .i64 x)).toArray 25) := ⟨_, rfl⟩
  have hb0 : Below w.heap.size w w0 := by rw [hw0]; exact (Below.refl _ _).alloc (Nat.le_refl _) _
  have hg0 : w0.heap[w.heap.size]? = some (.cells (recV d (.int .i64 x)).toArray 25 (0, 0)) := by rw [hw0]; exact heap_alloc_new _ _
  have HG0 := Lib.hid hg0
  have CX := Lib.hid (fun (w' : World) (k : Below w0.heap.size w0 w') => show w'.cell? ⟨w.heap.size, 32, none⟩ = some (.int .i64 x) by
    rw [cell_of_row _ _ _ _ _ _ (heap_below k hg0), List.getElem?_toArray, recV, List.getElem?_append_right (by simp [hd])]
    simp [hd])
  have BX := Lib.hid (fun (w' : World) (k : Below w0.heap.size w0 w') => show Bts w' (some ⟨w.heap.size, 0, none⟩) d from fun j u hu => ⟨_, rfl, by
    have hj := (List.getElem?_eq_some_iff.1 hu).1
    rw [add_row, cell_of_row _ _ _ _ _ _ (heap_below k hg0), List.getElem?_toArray, recV, List.getElem?_append_left hj]; exact hu⟩)
  have HB0 := Lib.hid hb0
  have MW := Lib.hid mwithin_any
  have HGL := Lib.hid (hG.below hb0 hG.1)
  obtain ⟨C0, hC0⟩ : ∃ C0, C0 = (recV d (.int .i64 x)).toArray := ⟨_, rfl⟩
  have HD := Lib.hid hd
  rw [← hC0] at hw0 ⊢
  clear hG hb0 hg0 hd hC0
  by_cases hn : 1 ≤ n ∧ n ≤ 64
  · have e1 : inN n = true := decide_eq_true hn
    by_cases hx : 0 ≤ x ∧ x ≤ 15
    · rw [inO_yes hn hx]
      have d1 : decide (x < 0) = false := decide_eq_false (by omega)
      have d2 : decide (x > 15) = false := decide_eq_false (by omega)
      have d2' : decide (15 < x) = false := decide_eq_false (by omega)
      obtain ⟨k, rfl⟩ : ∃ k : Nat, x = (k : Int) := ⟨x.toNat, by omega⟩
      obtain ⟨m, rfl⟩ : ∃ m : Nat, n = (m : Int) := ⟨n.toNat, by omega⟩
      have hk : k ≤ 15 := by omega
      have hm : 1 ≤ m ∧ m ≤ 64 := by omega
      have HSH := Lib.hid (show shO d (k : Int) (m : Int) = numO d k % m by unfold shO; rw [if_pos (inO_yes hn hx)]; simp)
      rw [HSH.out]
      have W1 := Lib.hid (fun w => show Calls _ _ _ w _ from (MW.out (m : Int) w).mono (fun e w' h => show e = .returned (.bool true) ∧ Below w.heap.size w w' by rw [e1] at h; exact h))
      have HWK := Lib.hid (show IntKind.u8.wrap (k : Int) = (k : Int) by simp [IntKind.wrap, IntKind.bits, IntKind.signed]; omega)
      clear hn hx e1 MW HSH
      obtain ⟨b8, hb8⟩ : ∃ b8 : B8, b8 = BitVec.ofNat 8 k := ⟨_, rfl⟩
      have hbk : b8.toNat = k := by rw [hb8]; simp; omega
      have HBV := Lib.hid (show bv b8 = .int .u8 (k : Int) by unfold bv; rw [hbk])
      obtain ⟨DL, hDL⟩ : ∃ DL, DL = dig (underB 10 [d, [b8]]) := ⟨_, rfl⟩
      have hDL32 : DL.length = 32 := by rw [hDL]; exact dig_len _
      obtain ⟨DA, hDA⟩ : ∃ DA, DA = (DL.map bv).toArray := ⟨_, rfl⟩
      have hul : (underB 10 [d, [b8]]).length = 42 := by simp [underB, longB, wb_len, HD.out]
      have U := Lib.hid (fun (g : Nat) (w : World) (hL : Lst w (some ⟨g, 0, none⟩) [d, [b8]]) (hG : Glob w) => under_any 10 (some ⟨g, 0, none⟩) 2 [d, [b8]] w hL hG (by rw [hul]; omega) (by simp))
      rw [← hDL, ← hDA] at U
      have HN := Lib.hid (show numO d k = valB (DL.take 8) by rw [hDL, hb8]; rfl)
      rw [HN.out]
      have H1 := Lib.hid (show (Tryd.prog.info? 23).map (·.size) = some DA.size by rw [hDA, List.size_toArray, List.length_map, hDL32]; kernel_rfl)
      have H2 := Lib.hid (show ZId.size = DA.size by simp [hDA, zeros_len, hDL32])
      have H3 := Lib.hid (show DA.all (·.oneCell') = true by rw [hDA]; exact bvs_one _)
      have HDL := Lib.hid hDL32
      have HDA := Lib.hid hDA
      have sl := slice_32
      have sl8 := slice_8
      clear hb8 hbk hDL hDL32 hDA hul HN
      go_enter Tryd.func7, Tryd.ntmps7
      go_upto_region 1 with fail
      change Code.wp _ _ _ _ (w.alloc (.cells C0 25))
      rw [← hw0]
      clear hw0
      have c0 := CX.out w0 (Below.refl _ _)
      go_wp2_with (go_at_call 21; refine stop ?_)
      unfold Stop
      refine (W1.out w0).mono ?_
      rintro e wa ⟨rfl, hb1⟩
      have H1b := Lib.hid hb1
      clear c0
      have c0 := CX.out wa hb1
      clear hb1
      go_wp2_with fail
      refine wp_region_rel_tail 9 48 (by kernel_rfl) (by kernel_rfl) Stp [.one ?_, .one ?_, .one ?_, .one ?_, .rel (IntV (bv b8)), .rel (SlcZ b8), .rel (LstZ [d, [b8]]), .one ?_, .rel (PtrZ wa.heap.size ZId 23)] (by kernel_rfl) rfl (by kernel_rfl) Stp.refl Stp.trans ⟨fun v w w' h _ => h, SlcZ.stable b8, LstZ.stable _, PtrZ.stable, trivial⟩ ?main
      case main =>
      simp only [List.take_succ_cons, List.take_zero, List.drop_succ_cons, List.drop_zero]
      iterate 3
        refine wpR_one (A' := ?_) Stp.refl (by rfl) _ rfl 48 (by rfl) (by rfl) ?_ ?_ ?_
        rotate_left 1
        · simp only [Act.put, List.setIfInBounds_toArray, List.set_cons_zero, List.set_cons_succ]; rfl
        · intro w1 hs hf K hK
          go_big_quiet_op
          first
            | go_big_quiet_on
            | (refine ⟨_, fun _ _ => rfl, ?_⟩; go_big_quiet_on)
          rfl
      refine wpR_one (A' := ?_) Stp.refl (by rfl) _ rfl 48 (by rfl) (by rfl) ?_ ?_ ?_
      rotate_left 1
      · simp only [Act.put, List.setIfInBounds_toArray, List.set_cons_zero, List.set_cons_succ]; rfl
      · intro w1 hs hf K hK
        refine cls_load_cell 3 (.tmp 25) rfl ⟨w.heap.size, 32, none⟩ rfl (.int .i64 (k : Int)) (fun w h => by simp [go_sem, h]) (fun w2 h2 => CX.out w2 (H1b.out.trans ((stp_start (Stp.trans _ _ _ hs h2) (Below.refl _ _)).mono H1b.out.size))) ?_
        refine hK _ ?_
        simp only [Act.put, List.setIfInBounds_toArray, List.set_cons_zero, List.set_cons_succ]
        rfl
      refine wpR_rel (A' := ?_) (by rfl) ?_ ?_ ?_
      · intro w1 hs hf
        refine does_run (u := .int .u8 (k : Int)) (w' := w1) (by simp [execOp, go_sem, Act.eval]; exact HWK.out) ⟨?_, Stp.refl _⟩
        exact HBV.out.symm
      rotate_left 1
      · intro x
        simp only [Act.put, List.setIfInBounds_toArray, List.set_cons_zero, List.set_cons_succ]; rfl
      intro x27
      refine wpR_rel (A' := ?_) (by rfl) ?_ ?_ ?_
      · intro w1 hs hf
        have e27 := AllF_at hf 0 rfl (by kernel_rfl)
        change x27 = _ at e27
        subst e27
        exact does_slc b8 _ rfl (fun w => by kernel_rfl)
      rotate_left 1
      · intro x
        simp only [Act.put, List.setIfInBounds_toArray, List.set_cons_zero, List.set_cons_succ]; rfl
      intro x28
      refine wpR_rel (A' := ?_) (by rfl) ?_ ?_ ?_
      · intro w1 hs hf
        obtain ⟨g28, e28, hg28⟩ := AllF_at hf 0 rfl (by kernel_rfl)
        change x28 = _ at e28
        subst e28
        exact does_lst d [b8] (some ⟨w.heap.size, 0, none⟩) (some ⟨g28, 0, none⟩) 32 1 32 1 HD.out.symm rfl (by rw [HD.out]; omega) (by simp) (BX.out w1 (H1b.out.trans ((stp_start hs (Below.refl _ _)).mono H1b.out.size))) (bts_row hg28) _ rfl (fun w => by kernel_rfl)
      rotate_left 1
      · intro x
        simp only [Act.put, List.setIfInBounds_toArray, List.set_cons_zero, List.set_cons_succ]; rfl
      intro x29
      refine wpR_one (A' := ?_) Stp.refl (by rfl) _ rfl 48 (by rfl) (by rfl) ?_ ?_ ?_
      rotate_left 1
      · simp only [Act.put, List.setIfInBounds_toArray, List.set_cons_zero, List.set_cons_succ]; rfl
      · intro w1 hs hf K hK
        obtain ⟨g29, e29, hl⟩ := AllF_at hf 0 rfl (by kernel_rfl)
        change x29 = _ at e29
        subst e29
        go_big_quiet_op
        apply Exists.intro
        refine ⟨fun w4 h2 => ?_, ?_⟩
        · refine (U.out g29 w4 (lst_stp hl h2) (glob_stp (glob_stp (glob_stp HGL.out H1b.out) (stp_start hs (Below.refl _ _))) h2)).mono ?_
          rintro e w3 ⟨rfl, h3⟩
          exact ⟨rfl, Stp.trans _ _ _ h2 h3⟩
        · go_big_quiet_on
          rfl
      refine wpR_rel (A' := ?_) (by rfl) ?_ ?_ ?_
      · intro w1 hs hf
        exact does_ptr ZId 23 _ rfl (Below.size (w := wa.drew) hs) (fun w => by kernel_rfl)
      rotate_left 1
      · intro x
        simp only [Act.put, List.setIfInBounds_toArray, List.set_cons_zero, List.set_cons_succ]; rfl
      intro x6
      intro w9 hs hf
      obtain ⟨⟨g6, hB6, e6, hg6⟩, -⟩ := hf
      change x6 = _ at e6
      subst e6
      have HS9 := Lib.hid (H1b.out.trans ((stp_start hs (Below.refl _ _)).mono H1b.out.size))
      have HZ9 := Lib.hid hg6
      have hs1 := Nat.le_trans H1b.out.size hB6
      clear hs
      go_wp2_with (refine wpList_store_row rfl _ _ _ rfl g6 DA rfl rfl _ ZId HZ9.out H1.out H2.out H3.out ?_; refine stop ?_)
      unfold Stop
      obtain ⟨w2, hw2⟩ : ∃ w2, w2 = w9.setRow g6 DA := ⟨_, rfl⟩
      have hb2 : Below w0.heap.size w0 w2 := by rw [hw2]; exact below_setRow HS9.out hs1 DA
      have hg2 : w2.heap[g6]? = some (.cells (DL.map bv).toArray 23 (0, 0)) := by rw [hw2, ← HDA.out]; exact setRow_heap w9 g6 ZId DA _ _ HZ9.out
      rw [← hw2]
      clear hw2
      have HB2 := Lib.hid (HB0.out.trans (hb2.mono HB0.out.size))
      have HC2 := Lib.hid (fun (j : Nat) (hj : j < 8) => show w2.cell? ⟨g6, j, none⟩ = some (.int .u8 ((DL[j]'(by have := HDL.out; omega)).toNat : Int)) by
        rw [cell_of_row _ _ _ _ _ _ hg2, List.getElem?_toArray, List.getElem?_map, List.getElem?_eq_getElem (by have := HDL.out; omega)]; rfl)
      clear hb2 hg2 HZ9 HS9
      go_upto_region 6 with fail
      go_loop [7, 33] (fun x i => ∃ k : Nat, k ≤ 8 ∧ i = .int .i64 k ∧ x = .int .u64 (valB (DL.take k) : Int)) (fun _ i => 8 - (intOf i).toNat)
      case atStart => exact ⟨0, Nat.zero_le _, rfl, rfl⟩
      case round =>
        obtain ⟨j, hj, rfl, rfl⟩ := hrel
        by_cases hlt : j < 8
        · have hc := HC2.out j hlt
          have hjl : j < DL.length := by have := HDL.out; omega
          have hv := valB_take DL j hjl
          have hb := valB_lt (DL.take j)
          have hl7 : (DL.take j).length ≤ 7 := by simp; omega
          have hp : 256 ^ (DL.take j).length ≤ 256 ^ 7 := Nat.pow_le_pow_right (by decide) hl7
          have h7 : (256 : Nat) ^ 7 = 72057594037927936 := by decide
          have hor := or_low (valB (DL.take j)) DL[j].toNat DL[j].isLt (by omega)
          have hlt7 : valB (DL.take j) < 72057594037927936 := by omega
          rw [← hv] at hor
          have hx := DL[j].isLt
          obtain ⟨q, hq⟩ : ∃ q, q = valB (DL.take (j + 1)) := ⟨_, rfl⟩
          rw [← hq] at hor
          have HM := Lib.hid hq
          clear hv hb hp hl7 hq h7
          generalize valB (DL.take j) = y at *
          generalize DL[j].toNat = z at *
          go_wp2
          go_round
          case rel => exact ⟨j + 1, by omega, by go_num, by rw [← HM.out]⟩
          case measure => simp [intOf]; omega
        · have hj8 : j = 8 := by omega
          subst hj8
          have hb := valB_lt (DL.take 8)
          have hl8 : (DL.take 8).length = 8 := by have := HDL.out; simp; omega
          rw [hl8] at hb
          have h8 : (256 : Nat) ^ 8 = 18446744073709551616 := by decide
          rw [h8] at hb
          clear hl8 h8
          obtain ⟨y, hy⟩ : ∃ y, valB (DL.take 8) = y := ⟨_, rfl⟩
          rw [hy] at hb ⊢
          have HY := Lib.hid hy
          clear hy
          have hr : y % m < 64 := Nat.lt_of_lt_of_le (Nat.mod_lt _ (by omega)) hm.2
          have hm0 : m ≠ 0 := by omega
          go_wp2
          go_ret2
          exact ⟨by rw [HY.out]; rfl, HB2.out⟩
    · rw [inO_no2 hx, shO_no (inO_no2 hx)]
      have W1 := Lib.hid (fun w => show Calls _ _ _ w _ from (MW.out n w).mono (fun e w' h => show e = .returned (.bool true) ∧ Below w.heap.size w w' by rw [e1] at h; exact h))
      by_cases hx0 : x < 0
      · have d1 : decide (x < 0) = true := decide_eq_true hx0
        clear hn hx e1 MW
        go_enter Tryd.func7, Tryd.ntmps7
        go_upto_region 1 with fail
        change Code.wp _ _ _ _ (w.alloc (.cells C0 25))
        rw [← hw0]
        clear hw0
        have c0 := CX.out w0 (Below.refl _ _)
        go_wp2_with (go_at_call 21; refine stop ?_)
        unfold Stop
        refine (W1.out w0).mono ?_
        rintro e wa ⟨rfl, hb1⟩
        clear c0
        have c0 := CX.out wa hb1
        go_wp2
        go_ret2
        exact ⟨rfl, HB0.out.trans (hb1.mono HB0.out.size)⟩
      · have d1 : decide (x < 0) = false := decide_eq_false hx0
        have d2 : decide (x > 15) = true := decide_eq_true (by omega)
        have d2' : decide (15 < x) = true := decide_eq_true (by omega)
        clear hn hx e1 MW hx0
        go_enter Tryd.func7, Tryd.ntmps7
        go_upto_region 1 with fail
        change Code.wp _ _ _ _ (w.alloc (.cells C0 25))
        rw [← hw0]
        clear hw0
        have c0 := CX.out w0 (Below.refl _ _)
        go_wp2_with (go_at_call 21; refine stop ?_)
        unfold Stop
        refine (W1.out w0).mono ?_
        rintro e wa ⟨rfl, hb1⟩
        clear c0
        have c0 := CX.out wa hb1
        go_wp2
        go_ret2
        exact ⟨rfl, HB0.out.trans (hb1.mono HB0.out.size)⟩
  · have e1 : inN n = false := decide_eq_false hn
    rw [inO_no1 hn, shO_no (inO_no1 hn)]
    have W1 := Lib.hid (fun w => show Calls _ _ _ w _ from (MW.out n w).mono (fun e w' h => show e = .returned (.bool false) ∧ Below w.heap.size w w' by rw [e1] at h; exact h))
    clear hn e1 MW
    go_enter Tryd.func7, Tryd.ntmps7
    go_upto_region 1 with fail
    change Code.wp _ _ _ _ (w.alloc (.cells C0 25))
    rw [← hw0]
    clear hw0
    have c0 := CX.out w0 (Below.refl _ _)
    go_wp2_with (go_at_call 21; refine stop ?_)
    unfold Stop
    refine (W1.out w0).mono ?_
    rintro e wa ⟨rfl, hb1⟩
    go_wp2
    go_ret2
    exact ⟨rfl, HB0.out.trans (hb1.mono HB0.out.size)⟩

end
section
set_option linter.unusedVariables false
set_option linter.unusedSimpArgs false

open Go.RowKit
attribute [local go_sem ↓] loadAt_id
attribute [local go_sem] rowOf_drew rowOf_drewN run_idLoad
def shR (d : List B8) (x n : Int) : Int := if inO x n = true then (shO d x n : Int) else -1
set_option maxRecDepth 100000 in
theorem under_two (d : List B8) (b : B8) : underB 10 [d, [b]] = (10 :: longB d) ++ [0, 0, 0, 1, b] := by
  unfold underB
  simp only [List.map_cons, List.map_nil, List.flatten_cons, List.flatten_nil, List.append_nil, List.cons_append]
  rw [show longB [b] = [0, 0, 0, 1, b] from by unfold longB; rw [show wb (BitVec.ofNat 32 [b].length) = [0, 0, 0, 1] from (by decide : wb (BitVec.ofNat 32 1) = [0, 0, 0, 1])]; rfl]
set_option maxRecDepth 100000 in
theorem mod_step (a x m : Nat) : (a * 256 + x) % m = (a % m * 256 + x) % m := by
  conv => lhs; rw [← Nat.div_add_mod a m]
  rw [Nat.add_mul, Nat.mul_assoc, Nat.add_assoc, Nat.mul_add_mod]
set_option maxRecDepth 100000 in
set_option maxHeartbeats 4000000 in
theorem rof_any (d : List B8) (x n : Int) (w : World) (hd : d.length = 32) (hw2 : 2 ≤ w.heap.size) :
    Calls Tryd.prog 8 #[.agg (recV d (.int .i64 x)).toArray, .int .i64 n] w fun e w' => e = .returned (.int .i64 (shR d x n)) ∧ Below w.heap.size w w' := by
  obtain ⟨i0, hi, hz0, hz1, hz2⟩ := info_parts info_u8
  obtain ⟨w0, hw0⟩ : ∃ w0, w0 = w.alloc (.cells (recV d (.int .i64 x)).toArray 25) := ⟨_, rfl⟩
  have hb0 : Below w.heap.size w w0 := by rw [hw0]; exact (Below.refl _ _).alloc (Nat.le_refl _) _
  have hg0 : w0.heap[w.heap.size]? = some (.cells (recV d (.int .i64 x)).toArray 25 (0, 0)) := by rw [hw0]; exact heap_alloc_new _ _
  have CX := Lib.hid (fun (w' : World) (k : Below w0.heap.size w0 w') => show w'.cell? ⟨w.heap.size, 32, none⟩ = some (.int .i64 x) by
    rw [cell_of_row _ _ _ _ _ _ (heap_below k hg0), List.getElem?_toArray, recV, List.getElem?_append_right (by simp [hd])]
    simp [hd])
  have RX := Lib.hid (fun (w' : World) (k : Below w0.heap.size w0 w') => show rowOf w' w.heap.size 0 32 = some (d.map bv).toArray from rowOf_eq (by simp [hd]) (fun j v hj => by
    have hjl := (List.getElem?_eq_some_iff.1 hj).1
    rw [Nat.zero_add, cell_of_row _ _ _ _ _ _ (heap_below k hg0), List.getElem?_toArray, recV, List.getElem?_append_left hjl]; exact hj))
  obtain ⟨C0, hC0⟩ : ∃ C0, C0 = (recV d (.int .i64 x)).toArray := ⟨_, rfl⟩
  have hsz0 : w0.heap.size = w.heap.size + 1 := by rw [hw0]; simp
  rw [← hC0] at hw0 ⊢
  have HB0 := Lib.hid hb0
  have HD := Lib.hid hd
  by_cases hn : 1 ≤ n ∧ n ≤ 64
  · have d1 : decide (n < 1) = false := decide_eq_false (by omega)
    have d2 : decide (n > 64) = false := decide_eq_false (by omega)
    have d2' : decide (64 < n) = false := decide_eq_false (by omega)
    by_cases hx : 0 ≤ x ∧ x ≤ 15
    · have d3 : decide (x < 0) = false := decide_eq_false (by omega)
      have d4 : decide (x > 15) = false := decide_eq_false (by omega)
      have d4' : decide (15 < x) = false := decide_eq_false (by omega)
      obtain ⟨k, rfl⟩ : ∃ k : Nat, x = (k : Int) := ⟨x.toNat, by omega⟩
      obtain ⟨m, rfl⟩ : ∃ m : Nat, n = (m : Int) := ⟨n.toNat, by omega⟩
      have hk : k ≤ 15 := by omega
      have hm : 1 ≤ m ∧ m ≤ 64 := by omega
      have HSH := Lib.hid (show shR d (k : Int) (m : Int) = ((numO d k % m : Nat) : Int) by unfold shR; rw [if_pos (inO_yes hn hx)]; unfold shO; rw [if_pos (inO_yes hn hx)]; simp)
      rw [HSH.out]
      clear hn hx HSH
      obtain ⟨b8, hb8⟩ : ∃ b8 : B8, b8 = BitVec.ofNat 8 k := ⟨_, rfl⟩
      have hbk : b8.toNat = k := by rw [hb8]; simp; omega
      have HBV := Lib.hid (show bv b8 = .int .u8 (k : Int) by unfold bv; rw [hbk])
      have hkm : (k : Int) % 256 = (k : Int) := by omega
      obtain ⟨DL, hDL⟩ : ∃ DL, DL = dig (underB 10 [d, [b8]]) := ⟨_, rfl⟩
      have hDL32 : DL.length = 32 := by rw [hDL]; exact dig_len _
      obtain ⟨DA, hDA⟩ : ∃ DA, DA = (DL.map bv).toArray := ⟨_, rfl⟩
      have HN := Lib.hid (show numO d k = valB (DL.take 8) by rw [hDL, hb8]; rfl)
      rw [HN.out]
      have L := Lib.hid (fun (A : Option Addr) (c : Nat) (w : World) (hB : Bts w A d) (hA : A = none → c = 0) => long_any A c d w hB hA (by rw [hd]; omega))
      rw [hd] at L
      have hl1 : (10 :: longB d).length = 37 := by simp [longB, wb_len, hd]
      have hul : ((10 :: longB d) ++ [0, 0, 0, 1, b8]).length = 42 := by rw [List.length_append, hl1]; rfl
      have O := Lib.hid (fun (g cap : Nat) (w : World) (h : Bts w (some ⟨g, 0, none⟩) ((10 :: longB d) ++ [0, 0, 0, 1, b8])) (hc : 42 ≤ cap) => of_any (some ⟨g, 0, none⟩) cap ((10 :: longB d) ++ [0, 0, 0, 1, b8]) w h (fun h => by cases h) (by rw [hul]; omega) (by rw [hul]; omega))
      rw [hul, ← under_two, ← hDL, ← hDA] at O
      have H1 := Lib.hid (show (Tryd.prog.info? 23).map (·.size) = some DA.size by rw [hDA, List.size_toArray, List.length_map, hDL32]; kernel_rfl)
      have H2 := Lib.hid (show ZId.size = DA.size by simp [hDA, zeros_len, hDL32])
      have H3 := Lib.hid (show DA.all (·.oneCell') = true by rw [hDA]; exact bvs_one _)
      have HDL := Lib.hid hDL32
      have HDA := Lib.hid hDA
      have RB := Lib.hid (fun w => rbytesId_any d w hd)
      obtain ⟨w1, hw1⟩ : ∃ w1, w1 = w0.alloc (.cells #[bv 10] 5) := ⟨_, rfl⟩
      have hb1 : Below w0.heap.size w0 w1 := by rw [hw1]; exact (Below.refl _ _).alloc (Nat.le_refl _) _
      have ho1 : w1.ownsRow w0.heap.size 5 1 (.slice (some ⟨w0.heap.size, 0, none⟩) 1 1) 1 [bv 10] := by
        have := own_new w0 w0.heap.size 5 [bv 10] 1 rfl (Nat.le_refl _) (by unfold maxLen; omega)
        rw [hw1]; exact this
      have HO1 := Lib.hid ho1
      have HB1 := Lib.hid hb1
      have hs1 := hb1.size
      have HCAT := Lib.hid (show underB 10 [d, [b8]] = (10 :: longB d) ++ [0, 0, 0, 1, b8] from under_two d b8)
      clear hb8 hbk hDL hDL32 hDA hul hl1 HN hb1 ho1 hd hg0 hb0 hC0
      go_enter Tryd.func8, Tryd.ntmps8
      go_upto_region 1 with fail
      change Code.wp _ _ _ _ (w.alloc (.cells C0 25))
      rw [← hw0]
      clear hw0
      have c0 := CX.out w0 (Below.refl _ _)
      go_upto_region 3 with fail
      go_step
      refine wpList_val rfl (.slice (some ⟨w0.heap.size, 0, none⟩) 1 1) (w0.alloc (.cells #[bv 10] 5)) (by kernel_rfl) ?_
      rw [← hw1]
      clear hw1 c0
      have rw1 := RX.out w1 HB1.out
      generalize Value.slice (some ⟨w0.heap.size, 0, none⟩) 1 1 = v3 at *
      go_wp2_with (go_at_call 24; refine stop ?_)
      unfold Stop
      refine (RB.out w1).mono ?_
      rintro e w2 ⟨v2, rfl, ho2, hb2⟩
      obtain ⟨A2, k2, rfl, s2, -, hk2, ha2⟩ := own_sl ho2
      have L2 := Lib.hid (L.out A2 k2 w2 (Bts.of_sl s2) ha2)
      have HO2 := Lib.hid (own_below HO1.out hb2)
      have HB2 := Lib.hid (HB1.out.trans (hb2.mono HB1.out.size))
      clear ho2 s2 hb2 rw1 L RB
      go_wp2_with (go_at_call 23; refine stop ?_)
      unfold Stop
      refine L2.out.mono ?_
      rintro e w3 ⟨v5, rfl, ho5, hb3⟩
      obtain ⟨g, cap, rfl, hg1, hg2⟩ := ho5.form (by omega)
      have HO3 := Lib.hid (own_below HO2.out hb3)
      have HB3 := Lib.hid (HB2.out.trans (hb3.mono HB2.out.size))
      have H5 := Lib.hid (own_bts ho5)
      have hlo := ho5.1
      clear ho5 hb3
      go_wp2_with (at_builtin; refine stop ?_)
      unfold Stop
      refine wpList_append_any (o := ⟨some 30, _, _, _, _, _⟩) rfl _ _ 52 rfl w0.heap.size 5 i0 (.int .u8 0) 1 Tryd.underlying52 hi hz0 hz1 hz2 rfl _ 1 _ rfl HO3.out (some ⟨g, 0, none⟩) (4 + 32) cap ((longB d).map bv) rfl (fun h => by cases h) (by rw [List.length_map, long_len, HD.out]) H5.out (bv_one _) ?_ ?_ ?_ ?_
      · unfold maxLen; omega
      · omega
      · exact HB3.out.size
      intro v6 w4 g1 g2
      have HO4 := Lib.hid (show w4.ownsRow w0.heap.size 5 1 v6 37 ((10 :: longB d).map bv) from g1)
      have HB4 := Lib.hid (HB3.out.grown g2 HB3.out.size (fun k hk => (HO3.out.lt k hk).1))
      clear g1 g2
      go_upto_region 4 with fail
      have c0 := CX.out w4 HB4.out
      obtain ⟨w5, hw5⟩ : ∃ w5, w5 = w4.alloc (.cells #[.int .u8 0, .int .u8 0, .int .u8 0, .int .u8 1, .int .u8 (k : Int)] 5) := ⟨_, rfl⟩
      have hb5 : Below w4.heap.size w4 w5 := by rw [hw5]; exact (Below.refl _ _).alloc (Nat.le_refl _) _
      have hg5 : w5.heap[w4.heap.size]? = some (.cells ([0, 0, 0, 1, b8].map bv).toArray 5 (0, 0)) := by
        have e : ([0, 0, 0, 1, b8] : List B8).map bv = [Value.int .u8 0, .int .u8 0, .int .u8 0, .int .u8 1, .int .u8 (k : Int)] := by
          simp only [List.map_cons, List.map_nil, HBV.out]; rfl
        rw [hw5, e]; exact heap_alloc_new w4 _
      have HT5 := Lib.hid (bts_row hg5)
      have HO5 := Lib.hid (own_below HO4.out hb5)
      have HB5 := Lib.hid (HB4.out.trans (hb5.mono HB4.out.size))
      clear hb5 hg5
      go_wp2_with (at_builtin; refine stop ?_)
      unfold Stop
      rw [← hw5]
      clear hw5
      refine wpList_append_any (o := ⟨some 36, _, _, _, _, _⟩) rfl _ _ 52 rfl w0.heap.size 5 i0 (.int .u8 0) 1 Tryd.underlying52 hi hz0 hz1 hz2 rfl _ 37 _ rfl HO5.out (some ⟨w4.heap.size, 0, none⟩) 5 5 ([0, 0, 0, 1, b8].map bv) rfl (fun h => by cases h) rfl HT5.out (bv_one _) ?_ ?_ ?_ ?_
      · unfold maxLen; omega
      · omega
      · exact HB5.out.size
      intro v7 w6 g1 g2
      rw [← List.map_append] at g1
      obtain ⟨g', cap', rfl, hg3, hg4⟩ := World.ownsRow.form g1 (by omega)
      have HX := Lib.hid (show Bts w6 (some ⟨g', 0, none⟩) ((10 :: longB d) ++ [0, 0, 0, 1, b8]) from own_bts g1)
      have HB6 := Lib.hid (HB5.out.grown g2 HB5.out.size (fun k hk => (HO5.out.lt k hk).1))
      have hcap := own_cap g1
      clear g1 g2 c0
      rw [HCAT.out] at O
      go_wp2_with (go_at_call 25; refine stop ?_)
      unfold Stop
      refine (O.out g' cap' w6 HX.out hcap).mono ?_
      rintro e w7 ⟨rfl, hb7⟩
      have HB7 := Lib.hid (HB6.out.trans (hb7.mono HB6.out.size))
      have hb78 : Below w7.heap.size w7 (w7.alloc (.cells ZId 23)) := (Below.refl _ _).alloc (Nat.le_refl _) _
      have HZ8 := Lib.hid (show (w7.alloc (.cells ZId 23)).heap[w7.heap.size]? = some (.cells ZId 23 (0, 0)) from heap_alloc_new _ _)
      clear hb7
      go_wp2_with (refine wpList_store_row rfl _ _ _ rfl w7.heap.size DA rfl rfl _ ZId HZ8.out H1.out H2.out H3.out ?_; refine stop ?_)
      unfold Stop
      obtain ⟨w8, hw8⟩ : ∃ w8, w8 = (w7.alloc (.cells ZId 23)).setRow w7.heap.size DA := ⟨_, rfl⟩
      have hb8 : Below w0.heap.size w0 w8 := by rw [hw8]; exact below_setRow (HB7.out.trans (hb78.mono HB7.out.size)) HB7.out.size DA
      have hg8 : w8.heap[w7.heap.size]? = some (.cells (DL.map bv).toArray 23 (0, 0)) := by rw [hw8, ← HDA.out]; exact setRow_heap _ w7.heap.size ZId DA _ _ HZ8.out
      change wpList _ _ _ _ _ ((w7.alloc (.cells ZId 23)).setRow w7.heap.size DA)
      rw [← hw8]
      clear hw8
      have HB8 := Lib.hid (HB0.out.trans (hb8.mono HB0.out.size))
      have HC2 := Lib.hid (fun (j : Nat) (hj : j < 8) => show w8.cell? ⟨w7.heap.size, j, none⟩ = some (.int .u8 ((DL[j]'(by have := HDL.out; omega)).toNat : Int)) by
        rw [cell_of_row _ _ _ _ _ _ hg8, List.getElem?_toArray, List.getElem?_map, List.getElem?_eq_getElem (by have := HDL.out; omega)]; rfl)
      clear hb8 hg8 hb78 HZ8
      go_upto_region 7 with fail
      go_loop [7, 8] (fun x i => ∃ j : Nat, j ≤ 8 ∧ i = .int .i64 j ∧ x = .int .i64 ((valB (DL.take j) % m : Nat) : Int)) (fun _ i => 8 - (intOf i).toNat)
      case atStart => exact ⟨0, Nat.zero_le _, rfl, by simp [valB]⟩
      case round =>
        obtain ⟨j, hj, rfl, rfl⟩ := hrel
        by_cases hlt : j < 8
        · have hc := HC2.out j hlt
          have hjl : j < DL.length := by have := HDL.out; omega
          have hv := valB_take DL j hjl
          have hx := DL[j].isLt
          have hm0 : (m : Int) ≠ 0 := by omega
          have HM := Lib.hid (show valB (DL.take (j + 1)) % m = (valB (DL.take j) % m * 256 + DL[j].toNat) % m by rw [hv]; exact mod_step _ _ _)
          have hr : valB (DL.take j) % m < 64 := Nat.lt_of_lt_of_le (Nat.mod_lt _ (by omega)) hm.2
          clear hv
          generalize valB (DL.take j) % m = y at *
          generalize DL[j].toNat = z at *
          go_wp2
          go_round
          case rel => exact ⟨j + 1, by omega, by go_num, by rw [HM.out]; push_cast; rfl⟩
          case measure => simp [intOf]; omega
        · have hj8 : j = 8 := by omega
          subst hj8
          go_wp2
          go_ret
          exact ⟨rfl, HB8.out⟩
    · have e : shR d x n = -1 := by unfold shR; rw [if_neg (by rw [inO_no2 hx]; decide)]
      rw [e]
      by_cases hx0 : x < 0
      · have d3 : decide (x < 0) = true := decide_eq_true hx0
        clear hn hx e hg0 hb0 hd hC0 RX
        go_enter Tryd.func8, Tryd.ntmps8
        go_upto_region 1 with fail
        change Code.wp _ _ _ _ (w.alloc (.cells C0 25))
        rw [← hw0]
        clear hw0
        have c0 := CX.out w0 (Below.refl _ _)
        go_wp2
        go_ret
        exact ⟨rfl, HB0.out⟩
      · have d3 : decide (x < 0) = false := decide_eq_false hx0
        have d4 : decide (x > 15) = true := decide_eq_true (by omega)
        have d4' : decide (15 < x) = true := decide_eq_true (by omega)
        clear hn hx e hx0 hg0 hb0 hd hC0 RX
        go_enter Tryd.func8, Tryd.ntmps8
        go_upto_region 1 with fail
        change Code.wp _ _ _ _ (w.alloc (.cells C0 25))
        rw [← hw0]
        clear hw0
        have c0 := CX.out w0 (Below.refl _ _)
        go_wp2
        go_ret
        exact ⟨rfl, HB0.out⟩
  · have e : shR d x n = -1 := by unfold shR; rw [if_neg (by rw [inO_no1 hn]; decide)]
    rw [e]
    by_cases hn0 : n < 1
    · have d1 : decide (n < 1) = true := decide_eq_true hn0
      clear hn e hg0 hb0 hd hC0 RX
      go_enter Tryd.func8, Tryd.ntmps8
      go_upto_region 1 with fail
      change Code.wp _ _ _ _ (w.alloc (.cells C0 25))
      rw [← hw0]
      clear hw0
      have c0 := CX.out w0 (Below.refl _ _)
      go_wp2
      go_ret
      exact ⟨rfl, HB0.out⟩
    · have d1 : decide (n < 1) = false := decide_eq_false hn0
      have d2 : decide (n > 64) = true := decide_eq_true (by omega)
      have d2' : decide (64 < n) = true := decide_eq_true (by omega)
      clear hn e hn0 hg0 hb0 hd hC0 RX
      go_enter Tryd.func8, Tryd.ntmps8
      go_upto_region 1 with fail
      change Code.wp _ _ _ _ (w.alloc (.cells C0 25))
      rw [← hw0]
      clear hw0
      have c0 := CX.out w0 (Below.refl _ _)
      go_wp2
      go_ret
      exact ⟨rfl, HB0.out⟩

end
end Go.Proofs.YtoclfohgchlpnaaDoor
