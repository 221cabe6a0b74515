/- Merged: The document's Path. Digests that lie in a slice; the code's climbOne and joinedIf. The code's Climb. -/
import Derived.Test.YthoaaieiiokcmaaGreatDoorM21
import Derived.Laws.ResultCell
namespace Go.Proofs.YthoaaieiiokcmaaGreatDoor
section
set_option linter.unusedVariables false
open Go.RowKit
set_option maxRecDepth 100000 in
set_option maxHeartbeats 4000000 in
theorem rpath_any : ∀ (N : Nat) (ls : List (List B8)), ls.length ≤ N → ls.length ≤ 1000000 → (∀ xs ∈ ls, xs.length ≤ 1000000) → ∀ (A : Option Addr) (c : Nat) (z : Int) (w : World), LstN w A ls → ls.length ≤ c → (A = none → c = 0) →
    Calls Tryz.prog 19 #[.slice A ls.length c, .int .i64 z] w fun e w' => ∃ v, e = .returned v ∧ w'.ownsRow w.heap.size 24 32 v (pathZ ls z).length (idsV (pathZ ls z)) ∧ Below w.heap.size w w' := by
  have base : ∀ (ls : List (List B8)), ls.length ≤ 1000000 → ∀ (A : Option Addr) (c : Nat) (z : Int) (w : World), ¬ (2 ≤ ls.length ∧ 0 ≤ z ∧ z < ls.length) →
      Calls Tryz.prog 19 #[.slice A ls.length c, .int .i64 z] w fun e w' => ∃ v, e = .returned v ∧ w'.ownsRow w.heap.size 24 32 v (pathZ ls z).length (idsV (pathZ ls z)) ∧ Below w.heap.size w w' := by
    intro ls hm A c z w hbad
    have e0 : pathZ ls z = [] := by
      unfold pathZ
      split
      · rfl
      · exact pathD_none (by omega)
    rw [e0]
    clear e0
    by_cases hz : z < 0
    · go_enter Tryz.func19, Tryz.ntmps19
      go_wp2_with fail
      go_ret
      exact ⟨_, rfl, World.ownsRow_nil _ _ _ _, Below.refl _ _⟩
    · have t0 : decide (z < 0) = false := by rw [decide_eq_false_iff_not]; exact hz
      by_cases hzl : (ls.length : Int) ≤ z
      · have t1 : decide ((ls.length : Int) ≤ z) = true := by rw [decide_eq_true_eq]; exact hzl
        go_enter Tryz.func19, Tryz.ntmps19
        go_wp2_with fail
        go_ret
        exact ⟨_, rfl, World.ownsRow_nil _ _ _ _, Below.refl _ _⟩
      · have t1 : decide ((ls.length : Int) ≤ z) = false := by rw [decide_eq_false_iff_not]; exact hzl
        have h2 : ls.length < 2 := by omega
        have t2 : decide ((ls.length : Int) < 2) = true := by rw [decide_eq_true_eq]; omega
        go_enter Tryz.func19, Tryz.ntmps19
        go_wp2_with fail
        go_ret
        exact ⟨_, rfl, World.ownsRow_nil _ _ _ _, Below.refl _ _⟩
  intro N
  induction N with
  | zero =>
    intro ls hN hm h60 A c z w hL hc hA
    exact base ls hm A c z w (by omega)
  | succ N ih =>
    intro ls hN hm h60 A c z w hL hc hA
    obtain ⟨i0, hi, hz0, hz1, hz2⟩ := info_parts info_idT
    by_cases hbad : 2 ≤ ls.length ∧ 0 ≤ z ∧ z < ls.length
    · obtain ⟨h2, hz, hzl⟩ := hbad
      obtain ⟨k, rfl⟩ : ∃ k : Nat, z = (k : Int) := ⟨z.toNat, by omega⟩
      rw [pathZ_nat]
      have hk : k < ls.length := by omega
      have t0 : decide ((k : Int) < 0) = false := by rw [decide_eq_false_iff_not]; omega
      have t1 : decide ((ls.length : Int) ≤ (k : Int)) = false := by rw [decide_eq_false_iff_not]; omega
      have t2 : decide ((ls.length : Int) < 2) = false := by rw [decide_eq_false_iff_not]; omega
      have t3 : ¬ ls.length ≤ k := by omega
      have hh := hp_lt h2
      have hh1 := hp_pos ls.length
      have F := Lib.hid (fun w => half_any ls.length w h2 (by omega))
      have sh := slicel_hi A ls.length c (hp ls.length) (by omega) hc
      have sl := slicel_lo A ls.length c (hp ls.length) (by omega)
      have lk : (ls.take (hp ls.length)).length = hp ls.length := by simp; omega
      have ld : (ls.drop (hp ls.length)).length = ls.length - hp ls.length := by simp
      by_cases hkh : k < hp ls.length
      · have e1 := pathD_low h2 hkh
        have P1 := Lib.hid (fun (w : World) (hL : LstN w A ls) => ih (ls.take (hp ls.length)) (by omega) (by omega) (fun xs hx => h60 xs (List.mem_of_mem_take hx)) A c (k : Int) w (hL.front _) (by omega) hA)
        have R2 := Lib.hid (fun (w : World) (hL : LstN w A ls) => rroot_any N (ls.drop (hp ls.length)) (by omega) (by omega) (fun xs hx => h60 xs (List.mem_of_mem_drop hx)) (cutA A c (hp ls.length)) (c - hp ls.length) w (hL.cut c _ hc) (by omega) (cutA_none hA))
        rw [lk, pathZ_nat] at P1
        rw [ld] at R2
        have hml : (pathD (ls.take (hp ls.length)) k).length ≤ 1000000 := Nat.le_trans (pathD_size _ _ k (Nat.le_refl _)) (by omega)
        have hdl := rootD_len (ls.drop (hp ls.length))
        generalize pathD (ls.take (hp ls.length)) k = pd at *
        generalize rootD (ls.drop (hp ls.length)) = d at *
        have E1 := Lib.hid e1
        have HL := Lib.hid hL
        have HDL := Lib.hid hdl
        have hkI : decide ((k : Int) < (hp ls.length : Int)) = true := by rw [decide_eq_true_eq]; omega
        clear lk ld hL hA ih h60 e1 hdl 
        generalize hp ls.length = h at *
        go_enter Tryz.func19, Tryz.ntmps19
        go_wp2_with (go_at_call 55; refine (F.out _).mono ?_; rintro e w' ⟨rfl, rfl⟩)
        rename World => wb
        have HL1 := Lib.hid (show LstN wb.drew A ls from HL.out)
        refine wp_region_rel_tail 10 49 (by kernel_rfl) (by kernel_rfl) Stp [.one ?_, .one ?_, .one ?_, .one ?_, .rel (fun v w => w.ownsRow wb.heap.size 24 32 v pd.length (idsV pd)), .one ?_, .one ?_, .one ?_, .one ?_, .rel (MadeId (d.map bv).toArray)] (by kernel_rfl) rfl (by kernel_rfl) Stp.refl Stp.trans ⟨fun v w w' h1 h2 => own_below h1 h2, fun v w w' h1 h2 => MadeId.stable _ v w w' h1 h2, trivial⟩ ?main
        case main =>
        simp only [List.take_succ_cons, List.take_zero, List.drop_succ_cons, List.drop_zero]
        iterate 4
          refine wpR_one (A' := ?_) Stp.refl (by rfl) _ rfl 49 (by rfl) (by rfl) ?_ ?_ ?_
          rotate_left 1
          · simp only [Act.put, List.setIfInBounds_toArray, List.set_cons_zero, List.set_cons_succ]; rfl
          · intro w1 hs hf K hK
            go_big_quiet_op
            first
              | go_big_quiet_on
              | (refine ⟨_, fun _ _ => rfl, ?_⟩; go_big_quiet_on)
            rfl
        refine wpR_rel (A' := ?_) (by rfl) ?_ ?_ ?_
        · intro w1 hs hf
          have hl1 := lstn_stp HL1.out hs
          refine does_call (w' := w1) (f := 19) (args := #[.slice A h c, .int .i64 (k : Int)]) (by kernel_rfl) ((P1.out w1 hl1).mono ?_)
          rintro e w3 ⟨v, rfl, ho, h3⟩
          exact ⟨v, rfl, World.ownsRow.mono ho (show wb.drew.heap.size ≤ w1.heap.size from Below.size hs), h3⟩
        rotate_left 1
        · intro x
          simp only [Act.put, List.setIfInBounds_toArray, List.set_cons_zero, List.set_cons_succ]; rfl
        intro x29
        iterate 3
          refine wpR_one (A' := ?_) Stp.refl (by rfl) _ rfl 49 (by rfl) (by rfl) ?_ ?_ ?_
          rotate_left 1
          · simp only [Act.put, List.setIfInBounds_toArray, List.set_cons_zero, List.set_cons_succ]; rfl
          · intro w1 hs hf K hK
            go_big_quiet_op
            first
              | go_big_quiet_on
              | (refine ⟨_, fun _ _ => rfl, ?_⟩; go_big_quiet_on)
            rfl
        refine wpR_one (A' := ?_) Stp.refl (by rfl) _ rfl 49 (by rfl) (by rfl) ?_ ?_ ?_
        rotate_left 1
        · simp only [Act.put, List.setIfInBounds_toArray, List.set_cons_zero, List.set_cons_succ]; rfl
        · intro w1 hs hf K hK
          have hl1 := Lib.hid (lstn_stp HL1.out hs)
          go_big_quiet_op
          apply Exists.intro
          refine ⟨fun w2 h2 => ?_, ?_⟩
          · refine (R2.out w2 (lstn_stp hl1.out h2)).mono ?_
            rintro e w3 ⟨rfl, h3⟩
            exact ⟨rfl, Stp.trans _ _ _ h2 h3⟩
          · go_big_quiet_on
            rfl
        refine wpR_rel (A' := ?_) (by rfl) ?_ ?_ ?_
        · intro w1 hs hf
          exact does_build_id d HDL.out _ rfl (by kernel_rfl) ⟨⟨_, rfl, heap_alloc_new w1 _⟩, (Below.refl _ _).alloc (Nat.le_refl _) _⟩
        rotate_left 1
        · intro x
          simp only [Act.put, List.setIfInBounds_toArray, List.set_cons_zero, List.set_cons_succ]; rfl
        intro x34
        intro w9 hs hf
        obtain ⟨⟨g34, rfl, h34⟩, h29, -⟩ := hf
        have HB9 := Lib.hid (show Below wb.heap.size wb w9 from stp_start hs (Below.refl _ _))
        have hs9 : wb.heap.size ≤ w9.heap.size := HB9.out.size
        refine wpList_append_own (o := ⟨some 35, _, _, _, _, _⟩) w9 rfl _ _ 31 rfl wb.heap.size 24 i0 (.agg ZIdT) 32 32 Tryz.underlying31 hi hz0 hz1 hz2 (by kernel_rfl) (by decide) x29 pd.length (idsV pd) rfl h29 ⟨g34, 0, none⟩ 1 1 (d.map bv) rfl (by rw [List.length_map, HDL.out]) (MadeId.cells h34) (bv_one _) ?_ ?_ ?_ ?_
        · unfold maxLen; omega
        · omega
        · omega
        intro v' w' h3 h4 _
        have HO := Lib.hid h3
        have HBt := Lib.hid (HB9.out.grown h4 hs9 (fun k hk => (h29.lt k hk).1))
        clear h3 h4 h34 h29 hs
        go_wp2_with fail
        go_ret
        refine ⟨v', rfl, ?_, HBt.out⟩
        rw [E1.out, List.length_append, idsV_append, idsV_one]
        exact HO.out
      · have e1 := pathD_high h2 hk hkh
        have P1 := Lib.hid (fun (w : World) (hL : LstN w A ls) => ih (ls.drop (hp ls.length)) (by omega) (by omega) (fun xs hx => h60 xs (List.mem_of_mem_drop hx)) (cutA A c (hp ls.length)) (c - hp ls.length) (((k - hp ls.length : Nat)) : Int) w (hL.cut c _ hc) (by omega) (cutA_none hA))
        have R2 := Lib.hid (fun (w : World) (hL : LstN w A ls) => rroot_any N (ls.take (hp ls.length)) (by omega) (by omega) (fun xs hx => h60 xs (List.mem_of_mem_take hx)) A c w (hL.front _) (by omega) hA)
        rw [ld, pathZ_nat] at P1
        rw [lk] at R2
        have hml : (pathD (ls.drop (hp ls.length)) (k - hp ls.length)).length ≤ 1000000 := Nat.le_trans (pathD_size _ _ _ (Nat.le_refl _)) (by omega)
        have hdl := rootD_len (ls.take (hp ls.length))
        have hsub : ((k - hp ls.length : Nat) : Int) = (k : Int) - (hp ls.length : Int) := by omega
        rw [hsub] at P1
        generalize pathD (ls.drop (hp ls.length)) (k - hp ls.length) = pd at *
        generalize rootD (ls.take (hp ls.length)) = d at *
        have E1 := Lib.hid e1
        have HL := Lib.hid hL
        have HDL := Lib.hid hdl
        have hkI : decide ((k : Int) < (hp ls.length : Int)) = false := by rw [decide_eq_false_iff_not]; omega
        clear lk ld hL hA ih h60 e1 hdl hsub
        generalize hp ls.length = h at *
        go_enter Tryz.func19, Tryz.ntmps19
        go_wp2_with (go_at_call 55; refine (F.out _).mono ?_; rintro e w' ⟨rfl, rfl⟩)
        rename World => wb
        have HL1 := Lib.hid (show LstN wb.drew A ls from HL.out)
        refine wp_region_rel_tail 12 49 (by kernel_rfl) (by kernel_rfl) Stp [.one ?_, .one ?_, .one ?_, .one ?_, .one ?_, .one ?_, .rel (fun v w => w.ownsRow wb.heap.size 24 32 v pd.length (idsV pd)), .one ?_, .one ?_, .one ?_, .one ?_, .rel (MadeId (d.map bv).toArray)] (by kernel_rfl) rfl (by kernel_rfl) Stp.refl Stp.trans ⟨fun v w w' h1 h2 => own_below h1 h2, fun v w w' h1 h2 => MadeId.stable _ v w w' h1 h2, trivial⟩ ?main
        case main =>
        simp only [List.take_succ_cons, List.take_zero, List.drop_succ_cons, List.drop_zero]
        iterate 6
          refine wpR_one (A' := ?_) Stp.refl (by rfl) _ rfl 49 (by rfl) (by rfl) ?_ ?_ ?_
          rotate_left 1
          · simp only [Act.put, List.setIfInBounds_toArray, List.set_cons_zero, List.set_cons_succ]; rfl
          · intro w1 hs hf K hK
            go_big_quiet_op
            first
              | go_big_quiet_on
              | (refine ⟨_, fun _ _ => rfl, ?_⟩; go_big_quiet_on)
            rfl
        refine wpR_rel (A' := ?_) (by rfl) ?_ ?_ ?_
        · intro w1 hs hf
          have hl1 := lstn_stp HL1.out hs
          refine does_call (w' := w1) (f := 19) (args := #[.slice (cutA A c h) (ls.length - h) (c - h), .int .i64 ((k : Int) - (h : Int))]) (by kernel_rfl) ((P1.out w1 hl1).mono ?_)
          rintro e w3 ⟨v, rfl, ho, h3⟩
          exact ⟨v, rfl, World.ownsRow.mono ho (show wb.drew.heap.size ≤ w1.heap.size from Below.size hs), h3⟩
        rotate_left 1
        · intro x
          simp only [Act.put, List.setIfInBounds_toArray, List.set_cons_zero, List.set_cons_succ]; rfl
        intro x29
        iterate 3
          refine wpR_one (A' := ?_) Stp.refl (by rfl) _ rfl 49 (by rfl) (by rfl) ?_ ?_ ?_
          rotate_left 1
          · simp only [Act.put, List.setIfInBounds_toArray, List.set_cons_zero, List.set_cons_succ]; rfl
          · intro w1 hs hf K hK
            go_big_quiet_op
            first
              | go_big_quiet_on
              | (refine ⟨_, fun _ _ => rfl, ?_⟩; go_big_quiet_on)
            rfl
        refine wpR_one (A' := ?_) Stp.refl (by rfl) _ rfl 49 (by rfl) (by rfl) ?_ ?_ ?_
        rotate_left 1
        · simp only [Act.put, List.setIfInBounds_toArray, List.set_cons_zero, List.set_cons_succ]; rfl
        · intro w1 hs hf K hK
          have hl1 := Lib.hid (lstn_stp HL1.out hs)
          go_big_quiet_op
          apply Exists.intro
          refine ⟨fun w2 h2 => ?_, ?_⟩
          · refine (R2.out w2 (lstn_stp hl1.out h2)).mono ?_
            rintro e w3 ⟨rfl, h3⟩
            exact ⟨rfl, Stp.trans _ _ _ h2 h3⟩
          · go_big_quiet_on
            rfl
        refine wpR_rel (A' := ?_) (by rfl) ?_ ?_ ?_
        · intro w1 hs hf
          exact does_build_id d HDL.out _ rfl (by kernel_rfl) ⟨⟨_, rfl, heap_alloc_new w1 _⟩, (Below.refl _ _).alloc (Nat.le_refl _) _⟩
        rotate_left 1
        · intro x
          simp only [Act.put, List.setIfInBounds_toArray, List.set_cons_zero, List.set_cons_succ]; rfl
        intro x34
        intro w9 hs hf
        obtain ⟨⟨g34, rfl, h34⟩, h29, -⟩ := hf
        have HB9 := Lib.hid (show Below wb.heap.size wb w9 from stp_start hs (Below.refl _ _))
        have hs9 : wb.heap.size ≤ w9.heap.size := HB9.out.size
        refine wpList_append_own (o := ⟨some 48, _, _, _, _, _⟩) w9 rfl _ _ 31 rfl wb.heap.size 24 i0 (.agg ZIdT) 32 32 Tryz.underlying31 hi hz0 hz1 hz2 (by kernel_rfl) (by decide) x29 pd.length (idsV pd) rfl h29 ⟨g34, 0, none⟩ 1 1 (d.map bv) rfl (by rw [List.length_map, HDL.out]) (MadeId.cells h34) (bv_one _) ?_ ?_ ?_ ?_
        · unfold maxLen; omega
        · omega
        · omega
        intro v' w' h3 h4 _
        have HO := Lib.hid h3
        have HBt := Lib.hid (HB9.out.grown h4 hs9 (fun k hk => (h29.lt k hk).1))
        clear h3 h4 h34 h29 hs
        go_wp2_with fail
        go_ret
        refine ⟨v', rfl, ?_, HBt.out⟩
        rw [E1.out, List.length_append, idsV_append, idsV_one]
        exact HO.out
    · exact base ls hm A c z w hbad
end
section
set_option linter.unusedVariables false
open Go.RowKit
attribute [local go_sem ↓] loadAt_id
attribute [local go_sem] rowOf_drew rowOf_drewN run_idLoad
/-- Digests that lie in a slice. -/
def IdsAt (w : World) (A : Option Addr) (ds : List (List B8)) : Prop := ∀ (i : Nat) (d : List B8), ds[i]? = some d → d.length = 32 ∧ ∃ b o, A = some ⟨b, o, none⟩ ∧ b < w.heap.size ∧ w.rangeAt b (o + i * 32) (d.map bv)
theorem range_belowT {w w' : World} {b o : Nat} {cs : List Value} (h : w.rangeAt b o cs) (hb : Below w.heap.size w w') (hlt : b < w.heap.size) : w'.rangeAt b o cs := fun j v hj => (hb.cell hlt).trans (h j v hj)
theorem IdsAt.below {w w' : World} {A : Option Addr} {ds : List (List B8)} (h : IdsAt w A ds) (hb : Below w.heap.size w w') : IdsAt w' A ds := fun i d hi => by
  obtain ⟨h1, b, o, e, hlt, hr⟩ := h i d hi
  exact ⟨h1, b, o, e, Nat.lt_of_lt_of_le hlt hb.size, range_belowT hr hb hlt⟩
theorem IdsAt.front {w : World} {A : Option Addr} {ds : List (List B8)} (h : IdsAt w A ds) (n : Nat) : IdsAt w A (ds.take n) := fun i d hi => by
  rw [List.getElem?_take] at hi
  split at hi
  · exact h i d hi
  · cases hi
theorem IdsAt.row {w : World} {A : Option Addr} {ds : List (List B8)} (h : IdsAt w A ds) {i : Nat} {d : List B8} (hi : ds[i]? = some d) : ∃ b o, A = some ⟨b, o, none⟩ ∧ b < w.heap.size ∧ rowOf w b (o + i * 32) 32 = some (d.map bv).toArray := by
  obtain ⟨h1, b, o, e, hlt, hr⟩ := h i d hi
  exact ⟨b, o, e, hlt, rowOf_eq (by simp [h1]) hr⟩
theorem idsV_at : ∀ (ds : List (List B8)) (h : ∀ d ∈ ds, d.length = 32) (i : Nat) (d : List B8), ds[i]? = some d → ∀ j, j < 32 → (idsV ds)[i * 32 + j]? = (d.map bv)[j]?
  | [], _, i, d, hi, _, _ => by simp at hi
  | x :: l, h, 0, d, hi, j, hj => by
    obtain rfl : x = d := by simpa using hi
    have hx := h x (by simp)
    unfold idsV
    rw [List.flatMap_cons, List.getElem?_append_left (by simp [hx]; omega)]
    congr 1; omega
  | x :: l, h, i + 1, d, hi, j, hj => by
    have hx := h x (by simp)
    have := idsV_at l (fun y hy => h y (by simp [hy])) i d (by simpa using hi) j hj
    unfold idsV at *
    rw [List.flatMap_cons, List.getElem?_append_right (by simp [hx]; omega), List.length_map, hx, show (i + 1) * 32 + j - 32 = i * 32 + j by omega]
    exact this
/-- A row of one's own, read as digests. -/
theorem IdsAt.of_own {w : World} {B n : Nat} {A : Option Addr} {c : Nat} {ds : List (List B8)} (h : w.ownsRow B 24 32 (.slice A n c) n (idsV ds)) (hd : ∀ d ∈ ds, d.length = 32) : IdsAt w A ds := fun i d hi => by
  have hlen := idsV_len ds hd
  have hlt := (List.getElem?_eq_some_iff.1 hi).1
  refine ⟨hd d (List.mem_of_getElem? hi), ?_⟩
  rcases h.2 with ⟨e, hn⟩ | ⟨g, cap, cur, e, hg, hh, r⟩
  · exfalso
    have := h.1
    omega
  · injection e with e1 e2 e3
    refine ⟨g, 0, e1, lt_of_block hh, fun j v hj => ?_⟩
    have hj32 : j < 32 := by have := (List.getElem?_eq_some_iff.1 hj).1; simp [hd d (List.mem_of_getElem? hi)] at this; omega
    subst e1
    have h2 := h.cells (g := g) rfl (i * 32 + j) v (by rw [idsV_at ds hd i d hi j hj32]; exact hj)
    have e4 : (⟨g, 0, none⟩ : Addr).add (i * 32 + j) = ⟨g, 0 + i * 32 + j, none⟩ := by unfold Addr.add; split <;> simp_all
    rw [e4] at h2; exact h2
theorem results_twoT {P : Program} {fn : Func} {p u : Tmp} {ty : TypeId} (h : fn.results = #[.cell p ty, .tmp u]) (tmps : Array Value) (w : World) (g : Nat) (t : TypeId) (cs : Array Value) (fr : Nat × Nat) (d : TypeDesc) (v : Value)
    (hp : tmps.getD p undef = .pointer (some ⟨g, 0, none⟩)) (hv : tmps.getD u undef = v) (hg : w.heap[g]? = some (.cells cs t fr))
    (hu : P.underlying ty = some d) (hd : (match d with | .struct _ | .array _ _ => true | _ => false) = true) (hi : (P.info? ty).map (·.size) = some cs.size) :
    (results fn tmps).run P w = .ok (.tuple #[.agg cs, v]) w := by
  rw [results_cell_tmp h, hp, hv]
  simp [asAddr, run_loadVar_row w g t ty cs fr d hg hu hd hi, Result.andThen]
/-- What a climb hands back. -/
def ansV (o : Option (List B8)) : Value := .tuple #[.agg ((o.getD (zeros 32)).map bv).toArray, .bool o.isSome]
theorem ansV_none : ansV none = .tuple #[.agg ZIdT, .bool false] := rfl
theorem info_zT : (Tryz.prog.info? 24).map (·.size) = some ZIdT.size := by kernel_rfl
set_option maxRecDepth 100000 in
set_option maxHeartbeats 2000000 in
theorem climbOne_any (A A' : Option Addr) (c c' n : Nat) (b : List B8) (w : World) (hB : Bts w A b) (hc : b.length ≤ c) (hG : Glob w) (hb : b.length ≤ 1000000) (hn : n ≤ maxLen) :
    Calls Tryz.prog 87 #[.slice A b.length c, .slice A' n c'] w fun e w' => e = .returned (ansV (if n = 0 then some (leafD b) else none)) ∧ Below w.heap.size w w' := by
  unfold maxLen at hn
  obtain ⟨w1, hw1⟩ : ∃ w1, w1 = w.alloc (.cells ZIdT 24) := ⟨_, rfl⟩
  have hb1 : Below w.heap.size w w1 := by rw [hw1]; exact (Below.refl _ _).alloc (Nat.le_refl _) _
  have hz1 : w1.heap[w.heap.size]? = some (.cells ZIdT 24 (0, 0)) := by rw [hw1]; exact heap_alloc_new w _
  have HB1 := Lib.hid hb1
  have HZ1 := Lib.hid hz1
  by_cases h0 : n = 0
  · rw [if_pos h0]
    subst h0
    obtain ⟨C, hC⟩ : ∃ C, C = ((leafD b).map bv).toArray := ⟨_, rfl⟩
    have hC32 : C.size = 32 := by rw [hC]; simp [leafD_len]
    have H3 := Lib.hid (show C.all (·.oneCell') = true by rw [hC]; exact bvs_one _)
    have H1 := Lib.hid (show (Tryz.prog.info? 24).map (·.size) = some C.size by rw [hC32]; kernel_rfl)
    have H2 := Lib.hid (show ZIdT.size = C.size by rw [hC32]; rfl)
    have R := Lib.hid (rootOfOne_any A c b w1 (hB.below hb1) hc (hG.below hb1 hG.1) (by omega))
    rw [← hC] at R
    have ea : ansV (some (leafD b)) = .tuple #[.agg C, .bool true] := by rw [hC]; rfl
    rw [ea]
    clear hb1 hz1 hB hG hC hC32 ea
    go_enter Tryz.func87, Tryz.ntmps87
    go_upto_region 1 with fail
    rw [← hw1]
    clear hw1
    go_wp2_with (go_at_call 78; refine stop ?_)
    unfold Stop
    refine R.out.mono ?_
    rintro e w2 ⟨rfl, hb3⟩
    have HA := Lib.hid (heap_below hb3 HZ1.out)
    have HB3 := Lib.hid (HB1.out.trans (hb3.mono HB1.out.size))
    clear hb3
    go_wp2_with (refine wpList_store_row rfl _ _ _ rfl w.heap.size C rfl rfl _ ZIdT HA.out H1.out H2.out H3.out ?_)
    have hA2 := setRow_heap w2 w.heap.size ZIdT C 24 (0, 0) HA.out
    refine bodyPost_ret (v := .tuple #[.agg C, .bool true]) ?_ rfl ⟨rfl, below_setRow HB3.out (Nat.le_refl _) C⟩
    exact results_twoT Tryz.results87 _ _ w.heap.size _ C (0, 0) _ _ rfl rfl hA2 Tryz.underlying24 rfl H1.out
  · rw [if_neg h0, ansV_none]
    have h0' : 0 < n := by omega
    have H1 := Lib.hid info_zT
    have H3 := Lib.hid (show ZIdT.all (·.oneCell') = true by kernel_rfl)
    clear hb1 hz1 hB hG h0
    go_enter Tryz.func87, Tryz.ntmps87
    go_upto_region 1 with fail
    rw [← hw1]
    clear hw1
    go_wp2_with (refine wpList_store_row rfl _ _ _ rfl w.heap.size ZIdT rfl rfl _ ZIdT HZ1.out H1.out rfl H3.out ?_)
    have hA2 := setRow_heap w1 w.heap.size ZIdT ZIdT 24 (0, 0) HZ1.out
    refine bodyPost_ret (v := .tuple #[.agg ZIdT, .bool false]) ?_ rfl ⟨rfl, below_setRow HB1.out (Nat.le_refl _) ZIdT⟩
    exact results_twoT Tryz.results87 _ _ w.heap.size _ ZIdT (0, 0) _ _ rfl rfl hA2 Tryz.underlying24 rfl H1.out
set_option maxRecDepth 100000 in
set_option maxHeartbeats 2000000 in
theorem joinedIf_any (ok : Bool) (a b : List B8) (w : World) (ha : a.length = 32) (hb : b.length = 32) (hG : Glob w) :
    Calls Tryz.prog 88 #[.bool ok, .agg (a.map bv).toArray, .agg (b.map bv).toArray] w fun e w' => e = .returned (ansV (if ok then some (nodeD a b) else none)) ∧ Below w.heap.size w w' := by
  obtain ⟨w1, hw1⟩ : ∃ w1, w1 = ((w.alloc (.cells (a.map bv).toArray 24)).alloc (.cells (b.map bv).toArray 24)).alloc (.cells ZIdT 24) := ⟨_, rfl⟩
  have hb1 : Below w.heap.size w w1 := by rw [hw1]; exact (((Below.refl _ _).alloc (Nat.le_refl _) _).alloc (by simp) _).alloc (by simp; omega) _
  have hs2 : ((w.alloc (.cells (a.map bv).toArray 24)).alloc (.cells (b.map bv).toArray 24)).heap.size = w.heap.size + 2 := by simp
  have hz1 : w1.heap[w.heap.size + 2]? = some (.cells ZIdT 24 (0, 0)) := by rw [hw1, ← hs2]; exact heap_alloc_new _ _
  have hlast : Below ((w.alloc (.cells (a.map bv).toArray 24)).alloc (.cells (b.map bv).toArray 24)).heap.size ((w.alloc (.cells (a.map bv).toArray 24)).alloc (.cells (b.map bv).toArray 24)) w1 := by rw [hw1]; exact (Below.refl _ _).alloc (Nat.le_refl _) _
  have ra1 : rowOf w1 w.heap.size 0 32 = some (a.map bv).toArray := rowOf_id ha (heap_below hlast (heap_alloc2_old w _ _))
  have rb1 : rowOf w1 (w.heap.size + 1) 0 32 = some (b.map bv).toArray := rowOf_id hb (heap_below hlast (heap_alloc2_new w _ _))
  have HB1 := Lib.hid hb1
  have HZ1 := Lib.hid hz1
  have HG1 := Lib.hid (show Glob w1 from hG.below hb1 hG.1)
  cases ok with
  | true =>
    obtain ⟨C, hC⟩ : ∃ C, C = ((nodeD a b).map bv).toArray := ⟨_, rfl⟩
    have hC32 : C.size = 32 := by rw [hC]; simp [nodeD_len]
    have H3 := Lib.hid (show C.all (·.oneCell') = true by rw [hC]; exact bvs_one _)
    have H1 := Lib.hid (show (Tryz.prog.info? 24).map (·.size) = some C.size by rw [hC32]; kernel_rfl)
    have H2 := Lib.hid (show ZIdT.size = C.size by rw [hC32]; rfl)
    have J := Lib.hid (joined_any a b w1 ha hb HG1.out)
    have ea : ansV (if true = true then some (nodeD a b) else none) = .tuple #[.agg C, .bool true] := by rw [hC]; rfl
    rw [ea]
    rw [← hC] at J
    clear hb1 hz1 hG hC hC32 ea hlast hs2 ha hb
    go_enter Tryz.func88, Tryz.ntmps88
    go_upto_region 1 with fail
    change Code.wp _ _ _ _ (((w.alloc (.cells (a.map bv).toArray 24)).alloc (.cells (b.map bv).toArray 24)).alloc (.cells ZIdT 24))
    rw [← hw1]
    clear hw1
    go_wp2_with (go_at_call 80; refine stop ?_)
    unfold Stop
    refine J.out.mono ?_
    rintro e w2 ⟨rfl, hb3⟩
    have HA := Lib.hid (heap_below hb3 HZ1.out)
    have HB3 := Lib.hid (HB1.out.trans (hb3.mono HB1.out.size))
    clear hb3
    go_wp2_with (refine wpList_store_row rfl _ _ _ rfl (w.heap.size + 2) C rfl rfl _ ZIdT HA.out H1.out H2.out H3.out ?_)
    have hA2 := setRow_heap w2 (w.heap.size + 2) ZIdT C 24 (0, 0) HA.out
    refine bodyPost_ret (v := .tuple #[.agg C, .bool true]) ?_ rfl ⟨rfl, below_setRow HB3.out (by omega) C⟩
    exact results_twoT Tryz.results88 _ _ (w.heap.size + 2) _ C (0, 0) _ _ rfl rfl hA2 Tryz.underlying24 rfl H1.out
  | false =>
    rw [if_neg (by decide), ansV_none]
    have H1 := Lib.hid info_zT
    have H3 := Lib.hid (show ZIdT.all (·.oneCell') = true by kernel_rfl)
    clear hb1 hz1 hG hlast hs2 ha hb
    go_enter Tryz.func88, Tryz.ntmps88
    go_upto_region 1 with fail
    change Code.wp _ _ _ _ (((w.alloc (.cells (a.map bv).toArray 24)).alloc (.cells (b.map bv).toArray 24)).alloc (.cells ZIdT 24))
    rw [← hw1]
    clear hw1
    go_wp2_with (refine wpList_store_row rfl _ _ _ rfl (w.heap.size + 2) ZIdT rfl rfl _ ZIdT HZ1.out H1.out rfl H3.out ?_)
    have hA2 := setRow_heap w1 (w.heap.size + 2) ZIdT ZIdT 24 (0, 0) HZ1.out
    refine bodyPost_ret (v := .tuple #[.agg ZIdT, .bool false]) ?_ rfl ⟨rfl, below_setRow HB1.out (by omega) ZIdT⟩
    exact results_twoT Tryz.results88 _ _ (w.heap.size + 2) _ ZIdT (0, 0) _ _ rfl rfl hA2 Tryz.underlying24 rfl H1.out
end
section
set_option linter.unusedVariables false
open Go.RowKit
attribute [local go_sem ↓] loadAt_id
attribute [local go_sem] rowOf_drew rowOf_drewN run_idLoad
theorem size_id (w : World) : (sizeOf 24).run Tryz.prog w = .ok 32 w := by kernel_rfl
theorem slicei_hi (A : Option Addr) (len cap n : Nat) (h : n ≤ len) (hc : len ≤ cap) (w : World) : (Instr.slice 31 (.slice A len cap) none (some (.int .i64 (n : Int))) none).run Tryz.prog w = .ok (.slice A n cap) w := by
  rw [run_slice_h (P := Tryz.prog) w 31 A len cap (by kernel_rfl) .i64 (n : Int) (by omega) (by omega)]
  rw [show Tryz.prog.elem 31 = 24 by kernel_rfl, size_id]
  simp [Result.andThen, sliced, Addr.add]
def climbZ (leaf : List B8) (z zn : Int) (p : List (List B8)) : Option (List B8) := if 0 ≤ z ∧ z < zn ∧ zn ≤ 1048576 then climbD leaf z.toNat zn.toNat p else none
theorem climbZ_nat {leaf : List B8} {k n : Nat} {p : List (List B8)} (h : k < n) (hn : n ≤ 1048576) : climbZ leaf k n p = climbD leaf k n p := by
  unfold climbZ; rw [if_pos (by omega)]; rfl
theorem climbD_len32 : ∀ (n : Nat) (leaf : List B8) (k : Nat) (p : List (List B8)) (d : List B8), climbD leaf k n p = some d → d.length = 32 := by
  intro n leaf k p d h
  rw [climbD] at h
  split at h
  · split at h
    · cases h
    · split at h
      · obtain ⟨x, -, rfl⟩ := Option.map_eq_some_iff.1 h; exact nodeD_len _ _
      · obtain ⟨x, -, rfl⟩ := Option.map_eq_some_iff.1 h; exact nodeD_len _ _
  · split at h
    · split at h
      · injection h with h; rw [← h]; exact leafD_len _
      · cases h
    · cases h
theorem getD_len32 {leaf : List B8} {k n : Nat} {p : List (List B8)} : ((climbD leaf k n p).getD (zeros 32)).length = 32 := by
  cases h : climbD leaf k n p with
  | none => rfl
  | some d => exact climbD_len32 n leaf k p d h
set_option maxRecDepth 100000 in
set_option maxHeartbeats 4000000 in
theorem climb_bad (A A' : Option Addr) (lb c lp c' : Nat) (z zn : Int) (w : World) (h : ¬ (0 ≤ z ∧ z < zn ∧ zn ≤ 1048576)) :
    Calls Tryz.prog 60 #[.slice A lb c, .int .i64 z, .int .i64 zn, .slice A' lp c'] w fun e w' => e = .returned (ansV none) ∧ Below w.heap.size w w' := by
  obtain ⟨w1, hw1⟩ : ∃ w1, w1 = w.alloc (.cells ZIdT 24) := ⟨_, rfl⟩
  have hb1 : Below w.heap.size w w1 := by rw [hw1]; exact (Below.refl _ _).alloc (Nat.le_refl _) _
  have hz1 : w1.heap[w.heap.size]? = some (.cells ZIdT 24 (0, 0)) := by rw [hw1]; exact heap_alloc_new w _
  have HB1 := Lib.hid hb1
  have HZ1 := Lib.hid hz1
  have H1 := Lib.hid info_zT
  have H3 := Lib.hid (show ZIdT.all (·.oneCell') = true by kernel_rfl)
  have HH := Lib.hid h
  rw [ansV_none]
  clear hb1 hz1 h
  have fin : ∀ (tmps : Array Value) (g : Nat), g = 0 → True := fun _ _ _ => trivial
  by_cases h1 : z < 0
  · have t0 : decide (z < 0) = true := by rw [decide_eq_true_eq]; exact h1
    go_enter Tryz.func60, Tryz.ntmps60
    go_upto_region 1 with fail
    rw [← hw1]
    clear hw1
    go_wp2_with (refine wpList_store_row rfl _ _ _ rfl w.heap.size ZIdT rfl rfl _ ZIdT HZ1.out H1.out rfl H3.out ?_)
    have hA2 := setRow_heap w1 w.heap.size ZIdT ZIdT 24 (0, 0) HZ1.out
    refine bodyPost_ret (v := .tuple #[.agg ZIdT, .bool false]) ?_ rfl ⟨rfl, below_setRow HB1.out (Nat.le_refl _) ZIdT⟩
    exact results_twoT Tryz.results60 _ _ w.heap.size _ ZIdT (0, 0) _ _ rfl rfl hA2 Tryz.underlying24 rfl H1.out
  · have t0 : decide (z < 0) = false := by rw [decide_eq_false_iff_not]; exact h1
    by_cases h2 : zn ≤ z
    · have t1 : decide (zn ≤ z) = true := by rw [decide_eq_true_eq]; exact h2
      go_enter Tryz.func60, Tryz.ntmps60
      go_upto_region 1 with fail
      rw [← hw1]
      clear hw1
      go_wp2_with (refine wpList_store_row rfl _ _ _ rfl w.heap.size ZIdT rfl rfl _ ZIdT HZ1.out H1.out rfl H3.out ?_)
      have hA2 := setRow_heap w1 w.heap.size ZIdT ZIdT 24 (0, 0) HZ1.out
      refine bodyPost_ret (v := .tuple #[.agg ZIdT, .bool false]) ?_ rfl ⟨rfl, below_setRow HB1.out (Nat.le_refl _) ZIdT⟩
      exact results_twoT Tryz.results60 _ _ w.heap.size _ ZIdT (0, 0) _ _ rfl rfl hA2 Tryz.underlying24 rfl H1.out
    · have t1 : decide (zn ≤ z) = false := by rw [decide_eq_false_iff_not]; exact h2
      have t2 : decide (1048576 < zn) = true := by rw [decide_eq_true_eq]; have := HH.out; omega
      go_enter Tryz.func60, Tryz.ntmps60
      go_upto_region 1 with fail
      rw [← hw1]
      clear hw1
      go_wp2_with (refine wpList_store_row rfl _ _ _ rfl w.heap.size ZIdT rfl rfl _ ZIdT HZ1.out H1.out rfl H3.out ?_)
      have hA2 := setRow_heap w1 w.heap.size ZIdT ZIdT 24 (0, 0) HZ1.out
      refine bodyPost_ret (v := .tuple #[.agg ZIdT, .bool false]) ?_ rfl ⟨rfl, below_setRow HB1.out (Nat.le_refl _) ZIdT⟩
      exact results_twoT Tryz.results60 _ _ w.heap.size _ ZIdT (0, 0) _ _ rfl rfl hA2 Tryz.underlying24 rfl H1.out
end
end Go.Proofs.YthoaaieiiokcmaaGreatDoor
