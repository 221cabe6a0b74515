/- The document's drum: Write. -/
import Derived.Test.YtodeblffnbbcaaaDrH
set_option linter.unusedVariables false
namespace Go.Proofs.Ytodeblffnbbcaaa
open Go.RowKit
def Stop (p : Prop) : Prop := p
theorem stop {p : Prop} (h : Stop p) : p := h
set_option maxHeartbeats 4000000 in
set_option maxRecDepth 100000 in
theorem rwrite_any (g : Nat) (Lv Wv : Value) (vs : List Value) (us : List (Nat × Value)) (d : Dr) (D : Nat → Prop) (a : Int) (A : Option Addr) (c : Nat) (bb : List B8) (w : World) (h : RMem w g Lv Wv vs us d D) (hM : SlN w D A (bb.map bv)) (hMl : bb.length ≤ maxLen) (hroom : us.length < 10000) :
    Calls Try.prog 11 #[.pointer (some ⟨g, 0, none⟩), .int .i64 a, .slice A bb.length c] w fun r w' => r = .returned (.int .i64 (d.writeE a bb : Int)) ∧ (∃ Lv' Wv' vs' us', RMem w' g Lv' Wv' vs' us' (d.write a bb) (Dn D w w')) ∧ Turn D w w' := by
  have HH := Lib.hid h
  obtain ⟨c0, c1, c2, c3, z0, z1, z2, z3⟩ := h.box.cells
  obtain ⟨AL, cL, eL, kL⟩ := own_cells h.rowL
  rw [eL] at c0
  have hn := h.ok.len
  have hsm := h.small
  have HM := Lib.hid hM
  unfold maxLen at hMl
  have HDn := Lib.hid (fun (w' : World) (d' : Dr) (h1 : RMem w' g Lv Wv vs us d' D) => show RMem w' g Lv Wv vs us d' (Dn D w w') from
    ⟨h1.box, h1.fz, h1.ok, h1.small, h1.rowL, h1.rowW, h1.wlen, h1.few, fun i v s h2 h3 => (h1.secL i v s h2 h3).turn (Turn.refl (fun _ => False) w') (fun _ h => h.elim) (fun _ _ h => h) (fun _ h => .inl h), fun i u x h2 h3 => ⟨(h1.secW i u x h2 h3).1, (h1.secW i u x h2 h3).2.turn (Turn.refl (fun _ => False) w') (fun _ h => h.elim) (fun _ _ h => h) (fun _ h => .inl h)⟩, h1.neL, h1.neW, h1.ne, .inl h1.ownG, fun k hk => .inl (h1.ownL k hk), fun k hk => .inl (h1.ownW k hk), fun k hk => hk.elim (h1.lt k) (fun h => h.2)⟩)
  have err : ∀ (x : Nat), d.writeE a bb = x → d.write a bb = d → Calls Try.prog 11 #[.pointer (some ⟨g, 0, none⟩), .int .i64 a, .slice A bb.length c] w (fun r w' => r = .returned (.int .i64 (x : Int)) ∧ w' = w) →
      Calls Try.prog 11 #[.pointer (some ⟨g, 0, none⟩), .int .i64 a, .slice A bb.length c] w fun r w' => r = .returned (.int .i64 (d.writeE a bb : Int)) ∧ (∃ Lv' Wv' vs' us', RMem w' g Lv' Wv' vs' us' (d.write a bb) (Dn D w w')) ∧ Turn D w w' := by
    intro x hx hx0 hc
    refine hc.mono ?_
    rintro r w' ⟨rfl, hw⟩
    subst hw
    rw [hx, hx0]
    exact ⟨rfl, ⟨_, _, _, _, HDn.out _ _ HH.out⟩, Turn.refl _ _⟩
  clear h hM
  by_cases ho : d.off = true
  · rw [ho] at c3
    have hr : d.readE a = 21 := by unfold Dr.readE; rw [if_pos ho]
    refine err 21 (by unfold Dr.writeE; rw [if_pos (by omega), hr]) (by unfold Dr.write; rw [if_pos (.inl (by omega))]) ?_
    clear err kL HM HDn
    go_enter Try.func11, Try.ntmps11
    go_wp2
    go_ret
    exact ⟨rfl, rfl⟩
  have ho' : d.off = false := by simpa using ho
  rw [ho'] at c3
  by_cases ha : a < 0
  · have hr : d.readE a = 5 := by unfold Dr.readE; rw [if_neg ho, if_neg (by omega)]
    refine err 5 (by unfold Dr.writeE; rw [if_pos (by omega), hr]) (by unfold Dr.write; rw [if_pos (.inl (by omega))]) ?_
    clear err kL HM HDn
    go_enter Try.func11, Try.ntmps11
    go_wp2
    go_ret
    exact ⟨rfl, rfl⟩
  by_cases hb : (vs.length : Int) ≤ a
  · have da : decide (a < 0) = false := decide_eq_false ha
    have db : decide ((vs.length : Int) ≤ a) = true := decide_eq_true hb
    have hr : d.readE a = 5 := by unfold Dr.readE; rw [if_neg ho, if_neg (by omega)]
    refine err 5 (by unfold Dr.writeE; rw [if_pos (by omega), hr]) (by unfold Dr.write; rw [if_pos (.inl (by omega))]) ?_
    clear err kL HM HDn ha hb
    go_enter Try.func11, Try.ntmps11
    go_wp2
    go_ret
    exact ⟨rfl, rfl⟩
  obtain ⟨k, rfl⟩ : ∃ k : Nat, a = (k : Int) := ⟨a.toNat, by omega⟩
  have hr : d.readE (k : Int) = 0 := by unfold Dr.readE; rw [if_neg ho, if_pos (by omega)]
  have hk : k < vs.length := by omega
  by_cases h64 : bb.length = 64
  case neg =>
    have d64 : ((bb.length : Int) == 64) = false := by rw [beq_eq_false_iff_ne]; omega
    refine err 1 (by unfold Dr.writeE; rw [if_neg (by omega), if_pos h64]) (by unfold Dr.write; rw [if_pos (.inr h64)]) ?_
    clear err kL HM HDn ha hb
    go_enter Try.func11, Try.ntmps11
    go_wp2
    go_ret
    exact ⟨rfl, rfl⟩
  clear err ha hb kL
  have F := rfails_any g d.fuse Lv Wv d.off w HH.out.box HH.out.fz
  have HF := Lib.hid F
  clear F
  by_cases h1 : d.fuse = 1
  · have e1 : d.writeE (k : Int) bb = 20 := by unfold Dr.writeE; rw [if_neg (by omega), if_neg (by omega), if_pos h1]
    have e2 : d.write (k : Int) bb = d.burn := by unfold Dr.write; rw [if_neg (by omega), if_pos h1]
    rw [e1, e2]
    have t1 : (d.fuse == 1) = true := by simpa using h1
    have HF1 := HF.out
    rw [t1] at HF1
    have HF := Lib.hid HF1
    have HT1' := Lib.hid t1
    clear e1 e2 h1 HF1 t1
    go_enter Try.func11, Try.ntmps11
    go_wp2_with (go_at_call 27; refine HF.out.mono ?_; rintro r w' ⟨rfl, hb1, ht1⟩; have HB1 := Lib.hid hb1; have HT1 := Lib.hid ht1; clear hb1 ht1)
    go_ret
    exact ⟨rfl, ⟨_, _, _, _, HDn.out _ _ (rmem_burn HH.out (by rw [HT1'.out]; exact HB1.out) HT1.out)⟩, HT1.out.mono fun i _ e => by have e : i = g := e; subst e; exact HH.out.ownG⟩
  have e1 : d.writeE (k : Int) bb = 0 := by unfold Dr.writeE; rw [if_neg (by omega), if_neg (by omega), if_neg h1]
  have e2 : d.write (k : Int) bb = { d.burn with W := d.W ++ [(k, bb)] } := by unfold Dr.write; rw [if_neg (by omega), if_neg h1]; rfl
  rw [e1, e2]
  have t1 : (d.fuse == 1) = false := by simpa using h1
  have HF1 := HF.out
  rw [t1] at HF1
  have HF := Lib.hid HF1
  have HT1' := Lib.hid t1
  clear e1 e2 h1 HF1 t1 HDn
  go_enter Try.func11, Try.ntmps11
  go_wp2_with (go_at_call 27; refine stop ?_)
  unfold Stop
  refine HF.out.mono ?_
  rintro r wa ⟨rfl, hb1, ht1⟩
  have H1 := rmem_burn HH.out (by rw [HT1'.out]; exact hb1) ht1
  have HT1 := Lib.hid ht1
  obtain ⟨AW, cW, eW, -⟩ := own_cells H1.rowW
  obtain ⟨q0, q1, q2, q3, y0, y1, y2, y3⟩ := H1.box.cells
  obtain ⟨ad, rfl, -, -⟩ := HM.out 0 (bv bb[0]) (bvs_at bb 0 (by omega))
  have HBB := Lib.hid (show ∀ j u, (bb.map bv)[j]? = some u → wa.cell? (ad.add j) = some u ∧ ¬ D ad.block from fun j u hu => by
    obtain ⟨ad', e, hnd, hc⟩ := HM.out j u hu
    injection e with e; subst e
    refine ⟨ht1.cell hc (by rw [add_block]; intro e; exact hnd (by have e : ad.block = g := e; rw [e]; exact HH.out.ownG)), hnd⟩)
  have HR1 := Lib.hid H1
  have hB : ∀ gR, Wv.ownBlock = some gR → gR < wa.heap.size := fun gR e => H1.lt _ (H1.ownW _ e)
  have HBr := Lib.hid hB
  have hgR : Wv.ownBlock ≠ some g := H1.neW
  have hg1 : g < wa.heap.size := H1.box.lt
  have HRS : ∀ news w w', WR wa.heap.size (k : Int) bb news w → Turn (fun q => Wv.ownBlock = some q) w w' → WR wa.heap.size (k : Int) bb news w' := fun news w w' ⟨X, e, hX⟩ t => ⟨X, e, copy_turn hX t hB⟩
  clear hb1 ht1 c0 c1 c2 c3 z0 z1 z2 z3 HF H1
  go_upto_region 9 with fail
  have hcap : ∀ gR n' cR, Wv = .slice (some ⟨gR, 0, none⟩) n' cR → cR = cW := fun gR n' cR e => by rw [eW] at e; injection e with _ _ e; exact e.symm
  have S33 : ∀ (v : Value) (w w' : World), Box0 wa.heap.size v w → App 64 2 us.length cW Wv.ownBlock (waitV us) (WR wa.heap.size (k : Int) bb) w w' → Box0 wa.heap.size v w' := fun v w w' ⟨q, hq, e, hh⟩ hs => ⟨q, hq, e, hs.heap hh (fun e => by have := hB _ e; omega)⟩
  have S35 : ∀ (v : Value) (w w' : World), Copy wa.heap.size bb v w → App 64 2 us.length cW Wv.ownBlock (waitV us) (WR wa.heap.size (k : Int) bb) w w' → Copy wa.heap.size bb v w' := fun v w w' h hs => copy_turn h hs.t hB
  have S36 : ∀ (v : Value) (w w' : World), Bld wa.heap.size (k : Int) bb v w → App 64 2 us.length cW Wv.ownBlock (waitV us) (WR wa.heap.size (k : Int) bb) w w' → Bld wa.heap.size (k : Int) bb v w' := fun v w w' ⟨X, e, h⟩ hs => ⟨X, e, copy_turn h hs.t hB⟩
  have S37 : ∀ (v : Value) (w w' : World), Sl1 wa.heap.size (k : Int) bb v w → App 64 2 us.length cW Wv.ownBlock (waitV us) (WR wa.heap.size (k : Int) bb) w w' → Sl1 wa.heap.size (k : Int) bb v w' := fun v w w' ⟨q, X, hq, e, hh, h⟩ hs => ⟨q, X, hq, e, hs.heap hh (fun e => by have := hB _ e; omega), copy_turn h hs.t hB⟩
  refine wp_region_rel_tail 14 41 (by kernel_rfl) (by kernel_rfl) (App 64 2 us.length cW Wv.ownBlock (waitV us) (WR wa.heap.size (k : Int) bb)) [.one ?_, .one ?_, .one ?_, .one ?_, .one ?_, .one ?_, .rel (Box0 wa.heap.size), .one ?_, .rel (Copy wa.heap.size bb), .rel (Bld wa.heap.size (k : Int) bb), .rel (Sl1 wa.heap.size (k : Int) bb), .rel (Apd 64 2 us.length cW wa.heap.size Wv.ownBlock (waitV us) (WR wa.heap.size (k : Int) bb)), .one ?_, .one ?_] (by kernel_rfl) rfl (by kernel_rfl) App.refl (App.trans HRS) ⟨S33, S35, S36, S37, Apd.stable HRS hB, trivial⟩ ?main
  case main =>
  simp only [List.take_succ_cons, List.take_zero, List.drop_succ_cons, List.drop_zero]
  iterate 4
    refine wpR_one (A' := ?_) App.refl (by rfl) _ rfl 41 (by rfl) (by rfl) ?_ ?_ ?_
    rotate_left 1
    · simp only [Act.put, List.setIfInBounds_toArray, List.set_cons_zero, List.set_cons_succ]; rfl
    · intro w1 hs hf K hK
      go_big_quiet_op
      first
        | go_big_quiet_on
        | (refine ⟨_, fun _ _ => rfl, ?_⟩; go_big_quiet_on)
      rfl
  refine wpR_one (A' := ?_) App.refl (by rfl) _ rfl 41 (by rfl) (by rfl) ?_ ?_ ?_
  rotate_left 1
  · simp only [Act.put, List.setIfInBounds_toArray, List.set_cons_zero, List.set_cons_succ]; rfl
  · intro w1 hs hf K hK
    refine cls_load_cell 38 (.tmp 30) rfl ⟨g, 1, none⟩ rfl (Wv) (fun w h => by rw [eW] at h ⊢; simp [go_sem, h]) (fun w2 h2 => (App.trans HRS _ _ _ hs h2).cell (show wa.drew.cell? _ = _ from q1) hgR) ?_
    refine hK _ ?_
    simp only [Act.put, List.setIfInBounds_toArray, List.set_cons_zero, List.set_cons_succ]
    rfl
  iterate 1
    refine wpR_one (A' := ?_) App.refl (by rfl) _ rfl 41 (by rfl) (by rfl) ?_ ?_ ?_
    rotate_left 1
    · simp only [Act.put, List.setIfInBounds_toArray, List.set_cons_zero, List.set_cons_succ]; rfl
    · intro w1 hs hf K hK
      go_big_quiet_op
      first
        | go_big_quiet_on
        | (refine ⟨_, fun _ _ => rfl, ?_⟩; go_big_quiet_on)
      rfl
  refine wpR_rel (A' := ?_) (by rfl) ?_ ?_ ?_
  · intro w1 hs hf
    exact does_build0 (by kernel_rfl) ⟨⟨_, (show wa.drew.heap.size ≤ w1.heap.size from hs.t.size), rfl, heap_alloc_new _ _⟩, App.of_stp ((Below.refl _ _).alloc (Nat.le_refl _) _) (fun gR e => Nat.lt_of_lt_of_le (HBr.out gR e) (show wa.drew.heap.size ≤ w1.heap.size from hs.t.size))⟩
  rotate_left 1
  · intro x
    simp only [Act.put, List.setIfInBounds_toArray, List.set_cons_zero, List.set_cons_succ]; rfl
  intro x33
  iterate 1
    refine wpR_one (A' := ?_) App.refl (by rfl) _ rfl 41 (by rfl) (by rfl) ?_ ?_ ?_
    rotate_left 1
    · simp only [Act.put, List.setIfInBounds_toArray, List.set_cons_zero, List.set_cons_succ]; rfl
    · intro w1 hs hf K hK
      go_big_quiet_op
      first
        | go_big_quiet_on
        | (refine ⟨_, fun _ _ => rfl, ?_⟩; go_big_quiet_on)
      rfl
  refine wpR_rel (A' := ?_) (by rfl) ?_ ?_ ?_
  · intro w1 hs hf
    obtain ⟨v', w', hr, h3, h4⟩ := append0 28 wa.heap.size w1 x33 (AllF_at hf 0 rfl (by kernel_rfl)) (show wa.drew.heap.size ≤ w1.heap.size from hs.t.size) ad c bb h64 (fun j u hu => hs.cell (show wa.drew.cell? _ = _ from (HBB.out j u hu).1) (by rw [add_block]; intro e; exact (HBB.out j u hu).2 (HR1.out.ownW _ e)))
    exact does_append _ _ _ _ _ v' rfl rfl rfl hr ⟨h3, App.of_stp h4 (fun gR e => Nat.lt_of_lt_of_le (HBr.out gR e) (show wa.drew.heap.size ≤ w1.heap.size from hs.t.size))⟩
  rotate_left 1
  · intro x
    simp only [Act.put, List.setIfInBounds_toArray, List.set_cons_zero, List.set_cons_succ]; rfl
  intro x35
  refine wpR_rel (A' := ?_) (by rfl) ?_ ?_ ?_
  · intro w1 hs hf
    have h35 := AllF_at hf 0 rfl (by kernel_rfl)
    obtain ⟨g35, c35, hB35, e35, hc35, ho35⟩ := id h35
    exact does_build_agg _ _ rfl _ rfl g35 64 c35 e35 ⟨⟨_, rfl, by rw [← e35]; exact h35⟩, App.refl _⟩
  rotate_left 1
  · intro x
    simp only [Act.put, List.setIfInBounds_toArray, List.set_cons_zero, List.set_cons_succ]; rfl
  intro x36
  refine wpR_rel (A' := ?_) (by rfl) ?_ ?_ ?_
  · intro w1 hs hf
    obtain ⟨X, e36, hX⟩ := AllF_at hf 0 rfl (by kernel_rfl)
    obtain ⟨g35, c35, hB35, rfl, hc35, ho35⟩ := id hX
    have hst : App 64 2 us.length cW Wv.ownBlock (waitV us) (WR wa.heap.size (k : Int) bb) w1 (w1.alloc (.cells #[.int .i64 (k : Int), .slice (some ⟨g35, 0, none⟩) 64 c35] 64)) := App.of_stp ((Below.refl _ _).alloc (Nat.le_refl _) _) (fun gR e => Nat.lt_of_lt_of_le (HBr.out gR e) (show wa.drew.heap.size ≤ w1.heap.size from hs.t.size))
    exact does_build_sl _ rfl _ g35 64 c35 e36 ⟨⟨_, _, (show wa.drew.heap.size ≤ w1.heap.size from hs.t.size), rfl, heap_alloc_new _ _, copy_turn hX hst.t hB⟩, hst⟩
  rotate_left 1
  · intro x
    simp only [Act.put, List.setIfInBounds_toArray, List.set_cons_zero, List.set_cons_succ]; rfl
  intro x37
  refine wpR_rel (A' := ?_) (by rfl) ?_ ?_ ?_
  · intro w1 hs hf
    obtain ⟨g37, X, hB37, e37, hh37, hX⟩ := AllF_at hf 0 rfl (by kernel_rfl)
    obtain ⟨i, hi, hz, hs1, hby⟩ := info_parts info_wait
    have hrow := hs.keepRow (base := 0) (v := Wv) (show wa.drew.ownsRow 0 _ 2 Wv us.length (waitV us) from HR1.out.rowW) rfl hcap
    have hcs : ∀ j u, ([.int .i64 (k : Int), X] : List Value)[j]? = some u → w1.cell? ((⟨g37, 0, none⟩ : Addr).add j) = some u := fun j u hu => by
      have e : (⟨g37, 0, none⟩ : Addr).add j = ⟨g37, j, none⟩ := by unfold Addr.add; by_cases hj : j = 0 <;> simp [hj]
      rw [e, cell_of_row _ _ _ _ _ _ hh37, List.getElem?_toArray]; exact hu
    have hone : ∀ u ∈ ([.int .i64 (k : Int), X] : List Value), u.oneCell' = true := by
      obtain ⟨gX, cX, -, rfl, -⟩ := hX
      intro u hu
      simp only [List.mem_cons, List.not_mem_nil, or_false] at hu
      rcases hu with rfl | rfl <;> rfl
    obtain ⟨v', w', hr, h3, h4⟩ := run_app (P := Try.prog) (B := wa.heap.size) 38 38 i _ 32 Try.underlying38 hi hz hs1 hby rfl (by decide) HRS w1 Wv hrow rfl hcap (fun gR e => Nat.lt_of_lt_of_le (HBr.out gR e) (show wa.drew.heap.size ≤ w1.heap.size from hs.t.size)) (show wa.drew.heap.size ≤ w1.heap.size from hs.t.size) ⟨g37, 0, none⟩ 1 [.int .i64 (k : Int), X] rfl hcs hone ⟨X, rfl, hX⟩ (by unfold maxLen; omega) (by omega)
    exact does_append _ _ _ _ _ v' rfl rfl e37 hr ⟨h3, h4⟩
  rotate_left 1
  · intro x
    simp only [Act.put, List.setIfInBounds_toArray, List.set_cons_zero, List.set_cons_succ]; rfl
  intro x38
  iterate 2
    refine wpR_one (A' := ?_) App.refl (by rfl) _ rfl 41 (by rfl) (by rfl) ?_ ?_ ?_
    rotate_left 1
    · simp only [Act.put, List.setIfInBounds_toArray, List.set_cons_zero, List.set_cons_succ]; rfl
    · intro w1 hs hf K hK
      go_big_quiet_op
      first
        | go_big_quiet_on
        | (refine ⟨_, fun _ _ => rfl, ?_⟩; go_big_quiet_on)
      rfl
  intro w9 hs hf
  obtain ⟨⟨news, ⟨X, rfl, hX⟩, ho38, hx38, hv38⟩, -⟩ := hf
  obtain ⟨g38, c38, rfl, hb38⟩ : ∃ g' c', x38 = .slice (some ⟨g', 0, none⟩) (us.length + 1) c' ∧ (Wv.ownBlock = some g' ∨ wa.heap.size ≤ g') := by
    rcases hv38 with ⟨q, e, rfl⟩ | ⟨q, cq, hq, rfl⟩
    · exact ⟨q, _, rfl, .inl e⟩
    · exact ⟨q, cq, rfl, .inr hq⟩
  have hb9 : RBox w9 g Lv Wv d.burn.fuse d.burn.off := RBox.turn (w := wa.drew) HR1.out.box hs.t hgR
  obtain ⟨p0, p1, p2, p3, z0, z1, z2, z3⟩ := hb9.cells
  have HB9 := Lib.hid hb9
  have HS := Lib.hid hs
  clear hb9 hs hv38 q0 q1 q2 q3 y0 y1 y2 y3
  go_wp2
  first | go_ret | (refine bodyPost_ret (results_none rfl _ _ _) rfl ?_) | (refine bodyPost_ret (results_tmp rfl _ _ _) rfl ?_)
  have hs := HS.out
  have h1 := HR1.out
  have hne38 : g38 ≠ g := by
    rcases hb38 with e | e
    · intro e2; exact hgR (by rw [e, e2])
    · omega
  have TA : Turn (fun q => q = g ∨ Wv.ownBlock = some q) wa (w9.setCell ⟨g, 1, none⟩ (.slice (some ⟨g38, 0, none⟩) (us.length + 1) c38)) :=
    ((show Turn (fun q => Wv.ownBlock = some q) wa w9 from ⟨hs.t.os, hs.t.tape, hs.t.output, hs.t.size, hs.t.block⟩).mono (fun _ _ h => .inr h)).setCell _ _ (fun _ => .inl rfl)
  have TG : Turn (fun q => q = g) w9 (w9.setCell ⟨g, 1, none⟩ (.slice (some ⟨g38, 0, none⟩) (us.length + 1) c38)) := (Turn.refl (fun q => q = g) w9).setCell ⟨g, 1, none⟩ _ (fun _ => rfl)
  have hsz : w.heap.size ≤ wa.heap.size := HT1.out.size
  have hDn : ∀ q, D q → Dn D w (w9.setCell ⟨g, 1, none⟩ (.slice (some ⟨g38, 0, none⟩) (us.length + 1) c38)) q := fun q h => .inl h
  have ho9 := own_turn TG ho38 (fun q hq e => by injection hq with hq; have e : q = g := e; exact hne38 (hq.trans e))
  have hlt38 := (ho9.lt g38 rfl).2
  have hN : ∀ q, q < wa.heap.size → (q = g ∨ Lv.ownBlock = some q ∨ (Value.slice (some ⟨g38, 0, none⟩) (us.length + 1) c38).ownBlock = some q) → (q = g ∨ Lv.ownBlock = some q ∨ Wv.ownBlock = some q) := by
    rintro q hq (e | e | e)
    · exact .inl e
    · exact .inr (.inl e)
    · injection e with e
      rcases hb38 with e2 | e2
      · exact .inr (.inr (by rw [e2]; exact congrArg some e))
      · have e : g38 = q := e; omega
  have hS : ∀ q, (q = g ∨ Wv.ownBlock = some q) → ¬ (q = g ∨ Lv.ownBlock = some q ∨ Wv.ownBlock = some q) → D q → False := fun q h hn _ => hn (h.elim .inl fun h => .inr (.inr h))
  refine ⟨rfl, ⟨Lv, .slice (some ⟨g38, 0, none⟩) (us.length + 1) c38, vs, us ++ [(k, X)], ?_⟩, ?_⟩
  · refine ⟨HB9.out.setW _, h1.fz, ⟨h1.ok.len, h1.ok.sec, fun x hx => ?_⟩, h1.small, own_turn TA h1.rowL (fun q hq e => ?_), ?_, by simp [h1.wlen]; rfl, by simp; omega, fun i v s h2 h3 => (h1.secL i v s h2 h3).turn TA hS hN hDn, fun i u x h2 h3 => ?_, h1.neL, (fun e => ?_), (fun q hq e => ?_), .inl h1.ownG, fun q hq => .inl (h1.ownL q hq), (fun q hq => ?_), (fun q hq => ?_)⟩
    · rcases List.mem_append.1 hx with h5 | h5
      · exact h1.ok.wait x h5
      · rw [List.mem_singleton] at h5; subst h5; exact ⟨hk, h64⟩
    · rcases e with e | e
      · subst e; exact h1.neL hq
      · exact h1.ne q hq e
    · rw [List.length_append, waitV_append]
      exact ho9
    · have h3 : (d.W ++ [(k, bb)])[i]? = some x := h3
      have hwl : us.length = d.W.length := h1.wlen
      by_cases hi : i < us.length
      · rw [List.getElem?_append_left hi] at h2
        rw [List.getElem?_append_left (by omega)] at h3
        exact ⟨(h1.secW i u x h2 h3).1, (h1.secW i u x h2 h3).2.turn TA hS hN hDn⟩
      · have hi2 : i = us.length := by
          have := (List.getElem?_eq_some_iff.1 h2).1
          simp at this; omega
        subst hi2
        rw [List.getElem?_append_right (Nat.le_refl _)] at h2
        rw [hwl, List.getElem?_append_right (Nat.le_refl _)] at h3
        simp at h2 h3
        subst h2; subst h3
        obtain ⟨gX, cX, hBX, rfl, hcX, hoX⟩ := hX
        have hXg : g38 ≠ gX := by
          rintro rfl
          rcases hoX.2 with ⟨e, -⟩ | ⟨q1, n1, cu1, e1, -, hh1, -⟩
          · cases e
          · rcases ho38.2 with ⟨e, -⟩ | ⟨q2, n2, cu2, e2, -, hh2, -⟩
            · cases e
            · injection e1 with e1; injection e1 with e1; injection e1 with e1
              injection e2 with e2; injection e2 with e2; injection e2 with e2
              subst e1; subst e2
              rw [hh1] at hh2
              injection hh2 with hh2
              injection hh2 with _ hh2
              exact absurd hh2 (by decide)
        have csX : ∀ j u, (bb.map bv)[j]? = some u → w9.cell? ((⟨gX, 0, none⟩ : Addr).add j) = some u := hoX.cells (g := gX) rfl
        have hltX := (hoX.lt gX rfl).2
        refine ⟨rfl, h64, _, cX, rfl, hcX, ?_, .inr ⟨by show w.heap.size ≤ gX; omega, Nat.lt_of_lt_of_le hltX TG.size⟩, fun j u hu => TG.cell (csX j u hu) (by rw [add_block]; intro e; have e : gX = g := e; omega)⟩
        rintro (e | e | e)
        · have e : gX = g := e; omega
        · have h6 := h1.lt _ (h1.ownL _ e); have h6 : gX < wa.heap.size := h6; omega
        · injection e with e; exact hXg e
    · injection e with e; exact hne38 e
    · injection e with e
      have e : g38 = q := e
      rcases hb38 with e2 | e2
      · exact h1.ne q hq (by rw [e2, e])
      · have := h1.lt _ (h1.ownL _ hq); omega
    · injection hq with hq
      have hq : g38 = q := hq
      subst hq
      rcases hb38 with e2 | e2
      · exact .inl (h1.ownW _ e2)
      · exact .inr ⟨by omega, hlt38⟩
    · rcases hq with h6 | h6
      · exact Nat.lt_of_lt_of_le (h1.lt q h6) TA.size
      · exact h6.2
  · refine (HT1.out.mono (fun i _ e => by have e : i = g := e; subst e; exact h1.ownG)).trans TA (fun i _ e => ?_)
    rcases e with e | e
    · subst e; exact h1.ownG
    · exact h1.ownW _ e
end Go.Proofs.Ytodeblffnbbcaaa
