/- Paths: rows of digests; the code's Path. -/
import Derived.Test.YtppkjlmnnpfcfaaDoorTrG
import Derived.Great.BuildSlice
import Derived.Deep.Onto
set_option linter.unusedVariables false
namespace Go.Proofs.YtppkjlmnnpfcfaaDoor
open Go.RowKit
def idsV (ds : List (List B8)) : List Value := ds.flatMap fun d => d.map bv
theorem idsV_append (a b : List (List B8)) : idsV (a ++ b) = idsV a ++ idsV b := by simp [idsV]
theorem idsV_one (d : List B8) : idsV [d] = d.map bv := by simp [idsV]
theorem idsV_len (ds : List (List B8)) (h : ∀ d ∈ ds, d.length = 32) : (idsV ds).length = ds.length * 32 := by
  induction ds with
  | nil => rfl
  | cons d l ih =>
    have h1 := h d (by simp)
    have h2 := ih (fun x hx => h x (by simp [hx]))
    unfold idsV at *
    rw [List.flatMap_cons, List.length_append, h2, List.length_map, h1, List.length_cons]
    omega
theorem idsV_cells (ds : List (List B8)) : ∀ u ∈ idsV ds, u.oneCell' = true := by
  intro u hu
  simp only [idsV, List.mem_flatMap, List.mem_map] at hu
  obtain ⟨d, _, q, _, rfl⟩ := hu; rfl
theorem pathD_ids : ∀ (N : Nat) (ls : List (List B8)) (k : Nat), ls.length ≤ N → ∀ d ∈ pathD ls k, d.length = 32 := by
  intro N
  induction N with
  | zero => intro ls k h d hd; rw [pathD_none (by omega)] at hd; cases hd
  | succ N ih =>
    intro ls k h d hd
    by_cases h2 : 2 ≤ ls.length ∧ k < ls.length
    · have hlt := hp_lt h2.1
      have hpos := hp_pos ls.length
      by_cases hk : k < hp ls.length
      · rw [pathD_low h2.1 hk] at hd
        rcases List.mem_append.1 hd with hd | hd
        · exact ih _ k (by simp; omega) d hd
        · obtain rfl := List.mem_singleton.1 hd; exact rootD_len _
      · rw [pathD_high h2.1 h2.2 hk] at hd
        rcases List.mem_append.1 hd with hd | hd
        · exact ih _ _ (by simp; omega) d hd
        · obtain rfl := List.mem_singleton.1 hd; exact rootD_len _
    · rw [pathD_none h2] at hd; cases hd
theorem pathD_size : ∀ (N : Nat) (ls : List (List B8)) (k : Nat), ls.length ≤ N → (pathD ls k).length ≤ N := by
  intro N
  induction N with
  | zero => intro ls k h; rw [pathD_none (by omega)]; exact Nat.le_refl _
  | succ N ih =>
    intro ls k h
    by_cases h2 : 2 ≤ ls.length ∧ k < ls.length
    · have hlt := hp_lt h2.1
      have hpos := hp_pos ls.length
      by_cases hk : k < hp ls.length
      · rw [pathD_low h2.1 hk, List.length_append]
        have := ih (ls.take (hp ls.length)) k (by simp; omega)
        simp; omega
      · rw [pathD_high h2.1 h2.2 hk, List.length_append]
        have := ih (ls.drop (hp ls.length)) (k - hp ls.length) (by simp; omega)
        simp; omega
    · rw [pathD_none h2]; simp
def pathZ (ls : List (List B8)) (z : Int) : List (List B8) := if z < 0 then [] else pathD ls z.toNat
theorem pathZ_nat (ls : List (List B8)) (k : Nat) : pathZ ls (k : Int) = pathD ls k := by unfold pathZ; rw [if_neg (by omega)]; rfl
theorem info_id : (Tryd.prog.info? 26).map (fun i => (i.zero, i.size, i.bytes)) = some (some (.agg ZId), 32, 32) := by kernel_rfl
theorem foldl_set : ∀ (l : List Value) (n : Nat) (acc : Array Value), acc.size = n + l.length → ((l.zipIdx n).foldl (fun cs x => cs.setIfInBounds x.snd x.fst) acc).toList = acc.toList.take n ++ l
  | [], n, acc, h => by
    have h1 : acc.toList.length ≤ n := by simp at h ⊢; omega
    simp [List.take_of_length_le h1]
  | x :: l, n, acc, h => by
    rw [List.zipIdx_cons, List.foldl_cons, foldl_set l (n + 1) _ (by simp at h ⊢; omega), Array.toList_setIfInBounds]
    have hn : n < acc.toList.length := by simp at h ⊢; omega
    have e : (acc.toList.set n x).take (n + 1) = acc.toList.take n ++ [x] := by
      rw [List.take_succ_eq_append_getElem (by simpa using hn)]
      simp [List.take_set_of_le]
    rw [e, List.append_assoc]; rfl
theorem foldl_set0 (l : List Value) (acc : Array Value) (h : acc.size = l.length) : (l.zipIdx.foldl (fun cs x => cs.setIfInBounds x.snd x.fst) acc) = l.toArray := by
  apply Array.ext'
  rw [foldl_set l 0 acc (by omega)]; simp
set_option maxRecDepth 100000 in
theorem build_id (d : List B8) (hd : d.length = 32) (w : World) : (Instr.buildSlice 29 1 #[(0, .agg (d.map bv).toArray)]).run Tryd.prog w = .ok (.slice (some ⟨w.heap.size, 0, none⟩) 1 1) (w.alloc (.cells (d.map bv).toArray 26)) := by
  obtain ⟨i0, hi, hz0, hz1, hz2⟩ := info_parts info_id
  have hf := foldl_set0 (d.map bv) ZId (by simp [hd])
  refine run_buildSlice w 29 26 1 _ _ i0 (.agg ZId) Tryd.underlying29 hi hz0 (by rw [hz1]; decide) (by rw [hz1]; decide) ?_
  rw [hz1]
  have e : ((Array.range (1 * 32)).map fun x => (Value.agg ZId).cells[x % (Value.agg ZId).cells.size]!) = ZId := by kernel_rfl
  rw [e]
  have hcs : (Value.agg (d.map bv).toArray).cells = (d.map bv).toArray := rfl
  simp [Instr.fill, hcs, hd]
  exact hf
theorem does_build_id {o : Oper} {a : Act} {w : World} {R : Value → World → Prop} (d : List B8) (hd : d.length = 32) (parts : Array (Nat × Operand)) (ho : o.op = .buildSlice 29 1 parts)
    (hp : (parts.map fun (i, x) => (i, a.eval x)) = #[(0, .agg (d.map bv).toArray)]) (h : R (.slice (some ⟨w.heap.size, 0, none⟩) 1 1) (w.alloc (.cells (d.map bv).toArray 26))) : doesR Tryd.prog o a w R := by
  unfold doesR execOp
  simp only [ho, hp, Sem.run_bind, build_id d hd w, Result.andThen_ok]
  exact h
/-- A slice of one digest, made here. -/
def MadeId (C : Array Value) (v : Value) (w : World) : Prop := ∃ g, v = .slice (some ⟨g, 0, none⟩) 1 1 ∧ w.heap[g]? = some (.cells C 26 (0, 0))
theorem MadeId.stable (C : Array Value) (v : Value) (w w' : World) (h : MadeId C v w) (hs : Stp w w') : MadeId C v w' := by
  obtain ⟨g, e, hc⟩ := h
  exact ⟨g, e, heap_below hs hc⟩
theorem MadeId.cells {d : List B8} {g : Nat} {w : World} (h : w.heap[g]? = some (.cells (d.map bv).toArray 26 (0, 0))) : ∀ j u, (d.map bv)[j]? = some u → w.cell? ((⟨g, 0, none⟩ : Addr).add j) = some u := fun j u hu => by
  have e : (⟨g, 0, none⟩ : Addr).add j = ⟨g, j, none⟩ := by unfold Addr.add; by_cases hj : j = 0 <;> simp [hj]
  rw [e, cell_of_row _ _ _ _ _ _ h, List.getElem?_toArray]; exact hu
set_option maxRecDepth 100000 in
set_option maxHeartbeats 4000000 in
theorem path_any : ∀ (N : Nat) (ls : List (List B8)), ls.length ≤ N → ls.length ≤ 1000000 → (∀ xs ∈ ls, xs.length ≤ 1000000) → ∀ (A : Option Addr) (c : Nat) (z : Int) (w : World), Lst w A ls → ls.length ≤ c → Glob w →
    Calls Tryd.prog 13 #[.slice A ls.length c, .int .i64 z] w fun e w' => ∃ v, e = .returned v ∧ w'.ownsRow w.heap.size 26 32 v (pathZ ls z).length (idsV (pathZ ls z)) ∧ Below w.heap.size w w' := by
  have base : ∀ (ls : List (List B8)), ls.length ≤ 1000000 → ∀ (A : Option Addr) (c : Nat) (z : Int) (w : World), ¬ (2 ≤ ls.length ∧ 0 ≤ z ∧ z < ls.length) →
      Calls Tryd.prog 13 #[.slice A ls.length c, .int .i64 z] w fun e w' => ∃ v, e = .returned v ∧ w'.ownsRow w.heap.size 26 32 v (pathZ ls z).length (idsV (pathZ ls z)) ∧ Below w.heap.size w w' := by
    intro ls hm A c z w hbad
    have e0 : pathZ ls z = [] := by
      unfold pathZ
      split
      · rfl
      · exact pathD_none (by omega)
    rw [e0]
    clear e0
    by_cases hz : z < 0
    · go_enter Tryd.func13, Tryd.ntmps13
      go_wp2_with fail
      go_ret
      exact ⟨_, rfl, World.ownsRow_nil _ _ _ _, Below.refl _ _⟩
    · have t0 : decide (z < 0) = false := by rw [decide_eq_false_iff_not]; exact hz
      by_cases hzl : (ls.length : Int) ≤ z
      · have t1 : decide ((ls.length : Int) ≤ z) = true := by rw [decide_eq_true_eq]; exact hzl
        go_enter Tryd.func13, Tryd.ntmps13
        go_wp2_with fail
        go_ret
        exact ⟨_, rfl, World.ownsRow_nil _ _ _ _, Below.refl _ _⟩
      · have t1 : decide ((ls.length : Int) ≤ z) = false := by rw [decide_eq_false_iff_not]; exact hzl
        have h2 : ls.length < 2 := by omega
        have t2 : ((ls.length : Int) == 1) = true := by rw [beq_iff_eq]; omega
        go_enter Tryd.func13, Tryd.ntmps13
        go_wp2_with fail
        go_ret
        exact ⟨_, rfl, World.ownsRow_nil _ _ _ _, Below.refl _ _⟩
  intro N
  induction N with
  | zero =>
    intro ls hN hm h60 A c z w hL hc hG
    exact base ls hm A c z w (by omega)
  | succ N ih =>
    intro ls hN hm h60 A c z w hL hc hG
    obtain ⟨i0, hi, hz0, hz1, hz2⟩ := info_parts info_id
    by_cases hbad : 2 ≤ ls.length ∧ 0 ≤ z ∧ z < ls.length
    · obtain ⟨h2, hz, hzl⟩ := hbad
      obtain ⟨k, rfl⟩ : ∃ k : Nat, z = (k : Int) := ⟨z.toNat, by omega⟩
      rw [pathZ_nat]
      have hk : k < ls.length := by omega
      have t0 : decide ((k : Int) < 0) = false := by rw [decide_eq_false_iff_not]; omega
      have t1 : decide ((ls.length : Int) ≤ (k : Int)) = false := by rw [decide_eq_false_iff_not]; omega
      have t2 : ((ls.length : Int) == 1) = false := beq_false_of_ne (by omega)
      have t3 : ¬ ls.length ≤ k := by omega
      have hh := hp_lt h2
      have hh1 := hp_pos ls.length
      have F := Lib.hid (fun w => firstOnes_any ls.length w h2 (by omega))
      have sh := slicel_hi A ls.length c (hp ls.length) (by omega) hc
      have sl := slicel_lo A ls.length c (hp ls.length) (by omega)
      have lk : (ls.take (hp ls.length)).length = hp ls.length := by simp; omega
      have ld : (ls.drop (hp ls.length)).length = ls.length - hp ls.length := by simp
      by_cases hkh : k < hp ls.length
      · have e1 := pathD_low h2 hkh
        have P1 := Lib.hid (fun (w : World) (hL : Lst w A ls) (hG : Glob w) => ih (ls.take (hp ls.length)) (by omega) (by omega) (fun xs hx => h60 xs (List.mem_of_mem_take hx)) A c (k : Int) w (hL.front _) (by omega) hG)
        have R2 := Lib.hid (fun (w : World) (hL : Lst w A ls) (hG : Glob w) => root_any N (ls.drop (hp ls.length)) (by omega) (by omega) (fun xs hx => h60 xs (List.mem_of_mem_drop hx)) (cutA A c (hp ls.length)) (c - hp ls.length) w (hL.cut c _ hc) (by omega) hG)
        rw [lk, pathZ_nat] at P1
        rw [ld] at R2
        have hml : (pathD (ls.take (hp ls.length)) k).length ≤ 1000000 := Nat.le_trans (pathD_size _ _ k (Nat.le_refl _)) (by omega)
        have hdl := rootD_len (ls.drop (hp ls.length))
        generalize pathD (ls.take (hp ls.length)) k = pd at *
        generalize rootD (ls.drop (hp ls.length)) = d at *
        have E1 := Lib.hid e1
        have HL := Lib.hid hL
        have HG := Lib.hid hG
        have HDL := Lib.hid hdl
        have hkI : decide ((k : Int) < (hp ls.length : Int)) = true := by rw [decide_eq_true_eq]; omega
        clear lk ld hL hG ih h60 e1 hdl 
        generalize hp ls.length = h at *
        go_enter Tryd.func13, Tryd.ntmps13
        go_wp2_with (go_at_call 22; refine (F.out _).mono ?_; rintro e w' ⟨rfl, rfl⟩)
        rename World => wb
        have HL1 := Lib.hid (show Lst wb.drew A ls from HL.out)
        have HG1 := Lib.hid (show Glob wb.drew from HG.out)
        refine wp_region_rel_tail 10 49 (by kernel_rfl) (by kernel_rfl) Stp [.one ?_, .one ?_, .one ?_, .one ?_, .rel (fun v w => w.ownsRow wb.heap.size 26 32 v pd.length (idsV pd)), .one ?_, .one ?_, .one ?_, .one ?_, .rel (MadeId (d.map bv).toArray)] (by kernel_rfl) rfl (by kernel_rfl) Stp.refl Stp.trans ⟨fun v w w' h1 h2 => own_below h1 h2, fun v w w' h1 h2 => MadeId.stable _ v w w' h1 h2, trivial⟩ ?main
        case main =>
        simp only [List.take_succ_cons, List.take_zero, List.drop_succ_cons, List.drop_zero]
        iterate 4
          refine wpR_one (A' := ?_) Stp.refl (by rfl) _ rfl 49 (by rfl) (by rfl) ?_ ?_ ?_
          rotate_left 1
          · simp only [Act.put, List.setIfInBounds_toArray, List.set_cons_zero, List.set_cons_succ]; rfl
          · intro w1 hs hf K hK
            go_big_quiet_op
            first
              | go_big_quiet_on
              | (refine ⟨_, fun _ _ => rfl, ?_⟩; go_big_quiet_on)
            rfl
        refine wpR_rel (A' := ?_) (by rfl) ?_ ?_ ?_
        · intro w1 hs hf
          have hg1 := glob_stp HG1.out hs
          have hl1 := lst_stp HL1.out hs
          refine does_call (w' := w1) (f := 13) (args := #[.slice A h c, .int .i64 (k : Int)]) (by kernel_rfl) ((P1.out w1 hl1 hg1).mono ?_)
          rintro e w3 ⟨v, rfl, ho, h3⟩
          exact ⟨v, rfl, World.ownsRow.mono ho (show wb.drew.heap.size ≤ w1.heap.size from Below.size hs), h3⟩
        rotate_left 1
        · intro x
          simp only [Act.put, List.setIfInBounds_toArray, List.set_cons_zero, List.set_cons_succ]; rfl
        intro x29
        iterate 3
          refine wpR_one (A' := ?_) Stp.refl (by rfl) _ rfl 49 (by rfl) (by rfl) ?_ ?_ ?_
          rotate_left 1
          · simp only [Act.put, List.setIfInBounds_toArray, List.set_cons_zero, List.set_cons_succ]; rfl
          · intro w1 hs hf K hK
            go_big_quiet_op
            first
              | go_big_quiet_on
              | (refine ⟨_, fun _ _ => rfl, ?_⟩; go_big_quiet_on)
            rfl
        refine wpR_one (A' := ?_) Stp.refl (by rfl) _ rfl 49 (by rfl) (by rfl) ?_ ?_ ?_
        rotate_left 1
        · simp only [Act.put, List.setIfInBounds_toArray, List.set_cons_zero, List.set_cons_succ]; rfl
        · intro w1 hs hf K hK
          have hg1 := Lib.hid (glob_stp HG1.out hs)
          have hl1 := Lib.hid (lst_stp HL1.out hs)
          go_big_quiet_op
          apply Exists.intro
          refine ⟨fun w2 h2 => ?_, ?_⟩
          · refine (R2.out w2 (lst_stp hl1.out h2) (glob_stp hg1.out h2)).mono ?_
            rintro e w3 ⟨rfl, h3⟩
            exact ⟨rfl, Stp.trans _ _ _ h2 h3⟩
          · go_big_quiet_on
            rfl
        refine wpR_rel (A' := ?_) (by rfl) ?_ ?_ ?_
        · intro w1 hs hf
          exact does_build_id d HDL.out _ rfl (by kernel_rfl) ⟨⟨_, rfl, heap_alloc_new w1 _⟩, (Below.refl _ _).alloc (Nat.le_refl _) _⟩
        rotate_left 1
        · intro x
          simp only [Act.put, List.setIfInBounds_toArray, List.set_cons_zero, List.set_cons_succ]; rfl
        intro x34
        intro w9 hs hf
        obtain ⟨⟨g34, rfl, h34⟩, h29, -⟩ := hf
        have HB9 := Lib.hid (show Below wb.heap.size wb w9 from stp_start hs (Below.refl _ _))
        have hs9 : wb.heap.size ≤ w9.heap.size := HB9.out.size
        refine wpList_append_own (o := ⟨some 35, _, _, _, _, _⟩) w9 rfl _ _ 29 rfl wb.heap.size 26 i0 (.agg ZId) 32 32 Tryd.underlying29 hi hz0 hz1 hz2 (by kernel_rfl) (by decide) x29 pd.length (idsV pd) rfl h29 ⟨g34, 0, none⟩ 1 1 (d.map bv) rfl (by rw [List.length_map, HDL.out]) (MadeId.cells h34) (bv_one _) ?_ ?_ ?_ ?_
        · unfold maxLen; omega
        · omega
        · omega
        intro v' w' h3 h4 _
        have HO := Lib.hid h3
        have HBt := Lib.hid (HB9.out.grown h4 hs9 (fun k hk => (h29.lt k hk).1))
        clear h3 h4 h34 h29 hs
        go_wp2_with fail
        go_ret
        refine ⟨v', rfl, ?_, HBt.out⟩
        rw [E1.out, List.length_append, idsV_append, idsV_one]
        exact HO.out
      · have e1 := pathD_high h2 hk hkh
        have P1 := Lib.hid (fun (w : World) (hL : Lst w A ls) (hG : Glob w) => ih (ls.drop (hp ls.length)) (by omega) (by omega) (fun xs hx => h60 xs (List.mem_of_mem_drop hx)) (cutA A c (hp ls.length)) (c - hp ls.length) (((k - hp ls.length : Nat)) : Int) w (hL.cut c _ hc) (by omega) hG)
        have R2 := Lib.hid (fun (w : World) (hL : Lst w A ls) (hG : Glob w) => root_any N (ls.take (hp ls.length)) (by omega) (by omega) (fun xs hx => h60 xs (List.mem_of_mem_take hx)) A c w (hL.front _) (by omega) hG)
        rw [ld, pathZ_nat] at P1
        rw [lk] at R2
        have hml : (pathD (ls.drop (hp ls.length)) (k - hp ls.length)).length ≤ 1000000 := Nat.le_trans (pathD_size _ _ _ (Nat.le_refl _)) (by omega)
        have hdl := rootD_len (ls.take (hp ls.length))
        have hsub : ((k - hp ls.length : Nat) : Int) = (k : Int) - (hp ls.length : Int) := by omega
        rw [hsub] at P1
        generalize pathD (ls.drop (hp ls.length)) (k - hp ls.length) = pd at *
        generalize rootD (ls.take (hp ls.length)) = d at *
        have E1 := Lib.hid e1
        have HL := Lib.hid hL
        have HG := Lib.hid hG
        have HDL := Lib.hid hdl
        have hkI : decide ((k : Int) < (hp ls.length : Int)) = false := by rw [decide_eq_false_iff_not]; omega
        clear lk ld hL hG ih h60 e1 hdl hsub
        generalize hp ls.length = h at *
        go_enter Tryd.func13, Tryd.ntmps13
        go_wp2_with (go_at_call 22; refine (F.out _).mono ?_; rintro e w' ⟨rfl, rfl⟩)
        rename World => wb
        have HL1 := Lib.hid (show Lst wb.drew A ls from HL.out)
        have HG1 := Lib.hid (show Glob wb.drew from HG.out)
        refine wp_region_rel_tail 12 49 (by kernel_rfl) (by kernel_rfl) Stp [.one ?_, .one ?_, .one ?_, .one ?_, .one ?_, .one ?_, .rel (fun v w => w.ownsRow wb.heap.size 26 32 v pd.length (idsV pd)), .one ?_, .one ?_, .one ?_, .one ?_, .rel (MadeId (d.map bv).toArray)] (by kernel_rfl) rfl (by kernel_rfl) Stp.refl Stp.trans ⟨fun v w w' h1 h2 => own_below h1 h2, fun v w w' h1 h2 => MadeId.stable _ v w w' h1 h2, trivial⟩ ?main
        case main =>
        simp only [List.take_succ_cons, List.take_zero, List.drop_succ_cons, List.drop_zero]
        iterate 6
          refine wpR_one (A' := ?_) Stp.refl (by rfl) _ rfl 49 (by rfl) (by rfl) ?_ ?_ ?_
          rotate_left 1
          · simp only [Act.put, List.setIfInBounds_toArray, List.set_cons_zero, List.set_cons_succ]; rfl
          · intro w1 hs hf K hK
            go_big_quiet_op
            first
              | go_big_quiet_on
              | (refine ⟨_, fun _ _ => rfl, ?_⟩; go_big_quiet_on)
            rfl
        refine wpR_rel (A' := ?_) (by rfl) ?_ ?_ ?_
        · intro w1 hs hf
          have hg1 := glob_stp HG1.out hs
          have hl1 := lst_stp HL1.out hs
          refine does_call (w' := w1) (f := 13) (args := #[.slice (cutA A c h) (ls.length - h) (c - h), .int .i64 ((k : Int) - (h : Int))]) (by kernel_rfl) ((P1.out w1 hl1 hg1).mono ?_)
          rintro e w3 ⟨v, rfl, ho, h3⟩
          exact ⟨v, rfl, World.ownsRow.mono ho (show wb.drew.heap.size ≤ w1.heap.size from Below.size hs), h3⟩
        rotate_left 1
        · intro x
          simp only [Act.put, List.setIfInBounds_toArray, List.set_cons_zero, List.set_cons_succ]; rfl
        intro x29
        iterate 3
          refine wpR_one (A' := ?_) Stp.refl (by rfl) _ rfl 49 (by rfl) (by rfl) ?_ ?_ ?_
          rotate_left 1
          · simp only [Act.put, List.setIfInBounds_toArray, List.set_cons_zero, List.set_cons_succ]; rfl
          · intro w1 hs hf K hK
            go_big_quiet_op
            first
              | go_big_quiet_on
              | (refine ⟨_, fun _ _ => rfl, ?_⟩; go_big_quiet_on)
            rfl
        refine wpR_one (A' := ?_) Stp.refl (by rfl) _ rfl 49 (by rfl) (by rfl) ?_ ?_ ?_
        rotate_left 1
        · simp only [Act.put, List.setIfInBounds_toArray, List.set_cons_zero, List.set_cons_succ]; rfl
        · intro w1 hs hf K hK
          have hg1 := Lib.hid (glob_stp HG1.out hs)
          have hl1 := Lib.hid (lst_stp HL1.out hs)
          go_big_quiet_op
          apply Exists.intro
          refine ⟨fun w2 h2 => ?_, ?_⟩
          · refine (R2.out w2 (lst_stp hl1.out h2) (glob_stp hg1.out h2)).mono ?_
            rintro e w3 ⟨rfl, h3⟩
            exact ⟨rfl, Stp.trans _ _ _ h2 h3⟩
          · go_big_quiet_on
            rfl
        refine wpR_rel (A' := ?_) (by rfl) ?_ ?_ ?_
        · intro w1 hs hf
          exact does_build_id d HDL.out _ rfl (by kernel_rfl) ⟨⟨_, rfl, heap_alloc_new w1 _⟩, (Below.refl _ _).alloc (Nat.le_refl _) _⟩
        rotate_left 1
        · intro x
          simp only [Act.put, List.setIfInBounds_toArray, List.set_cons_zero, List.set_cons_succ]; rfl
        intro x34
        intro w9 hs hf
        obtain ⟨⟨g34, rfl, h34⟩, h29, -⟩ := hf
        have HB9 := Lib.hid (show Below wb.heap.size wb w9 from stp_start hs (Below.refl _ _))
        have hs9 : wb.heap.size ≤ w9.heap.size := HB9.out.size
        refine wpList_append_own (o := ⟨some 48, _, _, _, _, _⟩) w9 rfl _ _ 29 rfl wb.heap.size 26 i0 (.agg ZId) 32 32 Tryd.underlying29 hi hz0 hz1 hz2 (by kernel_rfl) (by decide) x29 pd.length (idsV pd) rfl h29 ⟨g34, 0, none⟩ 1 1 (d.map bv) rfl (by rw [List.length_map, HDL.out]) (MadeId.cells h34) (bv_one _) ?_ ?_ ?_ ?_
        · unfold maxLen; omega
        · omega
        · omega
        intro v' w' h3 h4 _
        have HO := Lib.hid h3
        have HBt := Lib.hid (HB9.out.grown h4 hs9 (fun k hk => (h29.lt k hk).1))
        clear h3 h4 h34 h29 hs
        go_wp2_with fail
        go_ret
        refine ⟨v', rfl, ?_, HBt.out⟩
        rw [E1.out, List.length_append, idsV_append, idsV_one]
        exact HO.out
    · exact base ls hm A c z w hbad
end Go.Proofs.YtppkjlmnnpfcfaaDoor
