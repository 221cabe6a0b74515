/- 'ShaTells': its walk. -/
import Derived.Test.YteehhhchabiliaaDoorShaS8
import Derived.Test.YteehhhchabiliaaDoorRel
set_option linter.unusedVariables false
namespace Go.Proofs.YteehhhchabiliaaDoor
open Go.RowKit Go.ChangeShapes Go.WideShapes Go.ChangeAt
theorem slice_hi (A : Option Addr) (len cap n : Nat) (h : n ≤ len) (hc : len ≤ cap) (w : World) : (Instr.slice 22 (.slice A len cap) none (some (.int .i64 (n : Int))) none).run Tryd.prog w = .ok (.slice A n cap) w := by
  rw [run_slice_h (P := Tryd.prog) w 22 A len cap (by kernel_rfl) .i64 (n : Int) (by omega) (by omega)]
  rw [show Tryd.prog.elem 22 = 5 by kernel_rfl, size_u8]
  simp [Result.andThen, sliced]
  cases A with
  | none => simp
  | some a => simp [Addr.add]
/-- A slice of bytes that came in. -/
theorem open_bytes {H : Type} {enc : TypeId × Value → H} {P : Program} {W : World} {r : Reach} {b0 : Nat} {t e : TypeId} {v : Value} {d : DataW H} {p : List MemPlace} (ht : P.underlying t = some (.slice e)) (he : P.underlying e = some (.int .u8)) (hc : P.cellsOf e = 1)
    (hval : Value.okWide P W r b0 t v) (hd : DataW.Trod enc P W 0 (fun _ => true) true t v d p) :
    ∃ (A : Option Addr) (c : Nat) (xs : List B8), v = .slice A xs.length c ∧ Sl W W.heap.size A (xs.map bv) ∧ (A = none → c = 0) ∧ xs.length ≤ c ∧ xs.length ≤ maxLen := by
  obtain ⟨a0, len, cap, rfl⟩ := okWide_slice ht hval
  obtain ⟨fuel, hf⟩ := hd
  rcases open_ints ht he hc hf with ⟨hcs, hx⟩ | ⟨a, len', cap', zs, hcs, _, hl, hm, hz, hx, hcell, hwz⟩
  · simp [Value.cells] at hcs
    obtain ⟨rfl, rfl, rfl⟩ := hcs
    exact ⟨_, 0, [], rfl, Sl.none _ _ _, (fun _ => rfl), by simp, by simp⟩
  · simp [Value.cells] at hcs
    obtain ⟨rfl, rfl, rfl⟩ := hcs
    have hzl : zs.length = cap := by simpa using hz
    have hlen : ((zs.take len).map fun z => BitVec.ofNat 8 z.toNat).length = len := by simp; omega
    refine ⟨some a, cap, (zs.take len).map (fun z => BitVec.ofNat 8 z.toNat), by rw [hlen], ?_, (fun h => by cases h), by omega, by omega⟩
    intro j u hu
    simp only [List.map_map, List.getElem?_map, Option.map_eq_some_iff] at hu
    obtain ⟨z, hz1, rfl⟩ := hu
    have hj : j < len := by have := (List.getElem?_eq_some_iff.1 hz1).1; simp at this; omega
    have hzj : zs[j]? = some z := by rw [List.getElem?_take, if_pos hj] at hz1; exact hz1
    have h1 := hcell j (by omega)
    have hb := bounds_u8 (hwz z (List.mem_of_getElem? hzj))
    refine ⟨a, rfl, ?_, ?_⟩
    · have := World.block_lt_of_cell? W _ h1
      rwa [add_block] at this
    · rw [h1, List.getD, hzj]
      simp only [Option.getD_some, Function.comp, bv, BitVec.toNat_ofNat]
      rw [Nat.mod_eq_of_lt (by omega)]
      congr 2
      omega
/-- What an operation of a law's last line may do to the world that another one reads. -/
def Stp (w w' : World) : Prop := Below w.heap.size w w'
theorem Stp.refl (w : World) : Stp w w := Below.refl _ _
theorem Stp.trans (a b c : World) (h : Stp a b) (k : Stp b c) : Stp a c := Below.trans h (Below.mono k (Below.size h))
theorem glob_stp {w w' : World} (h : Glob w) (hs : Stp w w') : Glob w' := h.below hs h.1
theorem bts_stp {w w' : World} {A : Option Addr} {xs : List B8} (h : Bts w A xs) (hs : Stp w w') : Bts w' A xs := h.below hs
theorem stp_start {W w w' : World} (h : Stp w.drew w') (hW : Below W.heap.size W w) : Below W.heap.size W w' := hW.drew.trans (h.mono hW.size)
/-- A list of lists that was made here. -/
def MadeL (ls : List (Option Addr × Nat × Nat)) (v : Value) (w : World) : Prop :=
  ∃ g, v = .slice (some ⟨g, 0, none⟩) ls.length ls.length ∧ ∀ i p, ls[i]? = some p → w.cell? ⟨g, i, none⟩ = some (.slice p.1 p.2.1 p.2.2)
theorem MadeL.stable (ls : List (Option Addr × Nat × Nat)) (v : Value) (w w' : World) (h : MadeL ls v w) (hs : Stp w w') : MadeL ls v w' := by
  obtain ⟨g, e, hc⟩ := h
  exact ⟨g, e, fun i p hp => by have := hc i p hp; rw [Below.cell hs (World.block_lt_of_cell? w _ this)]; exact this⟩
theorem MadeL.new (ls : List (Option Addr × Nat × Nat)) (w : World) (t : TypeId) (C : Array Value) (hC : C = (ls.map fun p => Value.slice p.1 p.2.1 p.2.2).toArray) (n : Nat) (hn : n = ls.length) :
    MadeL ls (.slice (some ⟨w.heap.size, 0, none⟩) n n) (w.alloc (.cells C t)) ∧ Stp w (w.alloc (.cells C t)) := by
  subst hn hC
  refine ⟨⟨w.heap.size, rfl, fun i p hp => ?_⟩, (Below.refl _ _).alloc (Nat.le_refl _) _⟩
  rw [cell_of_row _ _ _ _ _ _ (heap_alloc_new w _), List.getElem?_toArray, List.getElem?_map, hp]; rfl
theorem MadeL.lst {ls : List (Option Addr × Nat × Nat)} {v : Value} {w : World} (h : MadeL ls v w) (xss : List (List B8)) (hb : ∀ (i : Nat) (xs : List B8), xss[i]? = some xs → ∃ (A : Option Addr) (c : Nat), ls[i]? = some (A, xs.length, c) ∧ xs.length ≤ c ∧ Bts w A xs) : ∃ g, v = .slice (some ⟨g, 0, none⟩) ls.length ls.length ∧ Lst w (some ⟨g, 0, none⟩) xss := by
  obtain ⟨g, e, hc⟩ := h
  refine ⟨g, e, fun i xs hi => ?_⟩
  obtain ⟨A, c, h1, h2, h3⟩ := hb i xs hi
  exact ⟨_, A, c, rfl, by rw [add_row]; exact hc i _ h1, h2, h3⟩
theorem does_made {P : Program} {o : Oper} {a : Act} {w : World} (ls : List (Option Addr × Nat × Nat)) (t : TypeId) (d : Tmp) (hd : o.dst = some d) (hr : ∀ w, (execOp a.eval o).run P w = .ok (.value (.slice (some ⟨w.heap.size, 0, none⟩) ls.length ls.length)) (w.alloc (.cells (ls.map fun p => Value.slice p.1 p.2.1 p.2.2).toArray t))) :
    doesR P o a w (fun u w' => MadeL ls (retV o u) w' ∧ Stp w w') := by
  refine does_run (hr w) ?_
  have e : ∀ u, retV o u = u := fun u => by unfold retV; rw [hd]
  rw [e]
  exact MadeL.new ls w t _ rfl _ rfl
theorem lst_stp {w w' : World} {A : Option Addr} {ls : List (List B8)} (h : Lst w A ls) (hs : Stp w w') : Lst w' A ls := h.below hs
theorem Bts.cut {w : World} {A : Option Addr} {xs : List B8} (h : Bts w A xs) (cap n : Nat) (hc : xs.length ≤ cap) : Bts w (cutA A cap n) (xs.drop n) := fun j u hu => by
  rw [List.map_drop, List.getElem?_drop] at hu
  obtain ⟨ad, rfl, hcl⟩ := h (n + j) u hu
  have hlt := (List.getElem?_eq_some_iff.1 hu).1
  refine ⟨ad.add n, ?_, by rw [add_add]; exact hcl⟩
  unfold cutA
  rw [if_neg (by simp at hlt; omega)]; rfl
theorem Bts.front {w : World} {A : Option Addr} {xs : List B8} (h : Bts w A xs) (n : Nat) : Bts w A (xs.take n) := fun j u hu => by
  rw [List.map_take, List.getElem?_take] at hu
  split at hu
  · exact h j u hu
  · cases hu
set_option maxRecDepth 100000 in
set_option maxHeartbeats 1000000 in
theorem lawtells_any (A : Option Addr) (c : Nat) (b : List B8) (cut : Int) (w : World) (hb : Bts w A b) (hA : A = none → c = 0) (hc : b.length ≤ c) (hm : b.length ≤ maxLen) (hG : Glob w) :
    Calls Tryd.prog 3 #[.slice A b.length c, .int .i64 cut] w fun e w' => e = .returned (.bool true) ∧ Below w.heap.size w w' := by
  have HG := Lib.hid hG
  have Hb := Lib.hid hb
  have HA := Lib.hid hA
  clear hG hb hA
  by_cases h300 : b.length ≤ 300
  · have P1 := Lib.hid (pick_any cut (b.length + 1) w (by omega) (by omega))
    go_enter Tryd.func3, Tryd.ntmps3
    have e1 : ((b.length : Int) + 1) = ((b.length + 1 : Nat) : Int) := by omega
    have E1 := Lib.hid e1
    clear e1
    go_wp2_with (go_at_call 8; rw [E1.out]; refine P1.out.mono ?_; rintro e w' ⟨⟨k, hk, rfl⟩, rfl⟩)
    obtain ⟨C, hC⟩ : ∃ C, C = ((dig b).map bv).toArray := ⟨_, rfl⟩
    have eqC : ∀ w, (Op.equalIn 10000 26 (.agg C) (.agg C)).run Tryd.prog w = .ok true w := fun w => by
      rw [hC, eq_id _ _ (dig_len b) (dig_len b) w]; simp
    have sh := slice_hi A b.length c k (by omega) hc
    have sl := slice_lo A b.length c k (by omega)
    have hk1 : (b.take k).length = k := by simp; omega
    have hk2 : (b.drop k).length = b.length - k := by simp
    have S2 := Lib.hid (fun (g : Nat) (w : World) (hL : Lst w (some ⟨g, 0, none⟩) [b.take k, b.drop k]) (hG : Glob w) => sum_any (some ⟨g, 0, none⟩) 2 _ w hL hG (by simp; omega) (by simp))
    have S1 := Lib.hid (fun (g : Nat) (w : World) (hL : Lst w (some ⟨g, 0, none⟩) [b]) (hG : Glob w) => sum_any (some ⟨g, 0, none⟩) 1 _ w hL hG (by simp; omega) (by simp))
    have O1 := Lib.hid (fun (w : World) (hB : Bts w A b) => of_any A c b w hB HA.out hc (by omega))
    have hf2 : [b.take k, b.drop k].flatten = b := by simp
    have hf1 : [b].flatten = b := by simp
    rw [hf2, ← hC] at S2
    rw [hf1, ← hC] at S1
    rw [← hC] at O1
    have L2 := Lib.hid (fun (v : Value) (w : World) (h : MadeL [(A, k, c), (cutA A c k, b.length - k, c - k)] v w) (hB : Bts w A b) => h.lst [b.take k, b.drop k] (fun i xs hi => by
      match i, hi with
      | 0, hi => obtain rfl : b.take k = xs := by simpa using hi
                 exact ⟨A, c, by rw [hk1]; rfl, by omega, hB.front k⟩
      | 1, hi => obtain rfl : b.drop k = xs := by simpa using hi
                 exact ⟨cutA A c k, c - k, by rw [hk2]; rfl, by omega, hB.cut c k hc⟩))
    have L1 := Lib.hid (fun (v : Value) (w : World) (h : MadeL [(A, b.length, c)] v w) (hB : Bts w A b) => h.lst [b] (fun i xs hi => by
      match i, hi with
      | 0, hi => obtain rfl : b = xs := by simpa using hi
                 exact ⟨A, c, rfl, hc, hB⟩))
    have HC := Lib.hid hC
    have HG0 := Lib.hid (show Glob w'.drew from HG.out)
    have Hb0 := Lib.hid (show Bts w'.drew A b from Hb.out)
    clear hC E1 P1 hf1 hf2 hk1 hk2
    refine wp_region_rel 37 Stp [.one ?_, .one ?_, .one ?_, .one ?_, .one ?_, .one ?_, .rel (MadeL [(A, k, c), (cutA A c k, b.length - k, c - k)]), .one ?_, .one ?_, .one ?_, .one ?_, .one ?_, .one ?_, .rel (MadeL [(A, b.length, c)]), .one ?_, .one ?_, .one ?_, .one ?_, .one ?_, .one ?_, .one ?_, .one ?_, .one ?_] (by kernel_rfl) (by kernel_rfl) rfl (by kernel_rfl) Stp.refl Stp.trans ⟨fun v w w' h1 h2 => MadeL.stable _ v w w' h1 h2, fun v w w' h1 h2 => MadeL.stable _ v w w' h1 h2, trivial⟩ ?main
    case main =>
     iterate 6
      refine wpR_one (A' := ?_) Stp.refl (by rfl) _ rfl 37 (by rfl) (by rfl) ?_ ?_ ?_
      rotate_left 1
      · simp only [Act.put, List.setIfInBounds_toArray, List.set_cons_zero, List.set_cons_succ]; rfl
      · intro w1 hs hf K hK
        go_big_quiet_op
        first
          | go_big_quiet_on
          | (refine ⟨_, fun _ _ => rfl, ?_⟩; go_big_quiet_on)
        rfl
     refine wpR_rel (A' := ?_) (by rfl) ?_ ?_ ?_
     · intro w1 hs hf
       exact does_made _ 22 _ rfl (fun w => by kernel_rfl)
     rotate_left 1
     · intro x
       simp only [Act.put, List.setIfInBounds_toArray, List.set_cons_zero, List.set_cons_succ]; rfl
     intro x6
     refine wpR_one (A' := ?_) Stp.refl (by rfl) _ rfl 37 (by rfl) (by rfl) ?_ ?_ ?_
     rotate_left 1
     · simp only [Act.put, List.setIfInBounds_toArray, List.set_cons_zero, List.set_cons_succ]; rfl
     · intro w1 hs hf K hK
       have hg1 := Lib.hid (glob_stp HG0.out hs)
       have hb1 := Lib.hid (bts_stp Hb0.out hs)
       have hL := L2.out _ _ (AllF_at hf 0 rfl (by kernel_rfl)) hb1.out
       obtain ⟨g, rfl, hL⟩ := hL
       have HL := Lib.hid hL
       clear hL
       go_big_quiet_op
       apply Exists.intro
       refine ⟨fun w2 h2 => ?_, ?_⟩
       · refine (S2.out g w2 (lst_stp HL.out h2) (glob_stp hg1.out h2)).mono ?_
         rintro e w3 ⟨rfl, h3⟩
         exact ⟨rfl, Stp.trans _ _ _ h2 h3⟩
       · go_big_quiet_on
         rfl
     iterate 1
      refine wpR_one (A' := ?_) Stp.refl (by rfl) _ rfl 37 (by rfl) (by rfl) ?_ ?_ ?_
      rotate_left 1
      · simp only [Act.put, List.setIfInBounds_toArray, List.set_cons_zero, List.set_cons_succ]; rfl
      · intro w1 hs hf K hK
        go_big_quiet_op
        first
          | go_big_quiet_on
          | (refine ⟨_, fun _ _ => rfl, ?_⟩; go_big_quiet_on)
        rfl
     refine wpR_one (A' := ?_) Stp.refl (by rfl) _ rfl 37 (by rfl) (by rfl) ?_ ?_ ?_
     rotate_left 1
     · simp only [Act.put, List.setIfInBounds_toArray, List.set_cons_zero, List.set_cons_succ]; rfl
     · intro w1 hs hf K hK
       have hg1 := Lib.hid (glob_stp HG0.out hs)
       have hb1 := Lib.hid (bts_stp Hb0.out hs)
       go_big_quiet_op
       apply Exists.intro
       refine ⟨fun w2 h2 => ?_, ?_⟩
       · refine (O1.out w2 (bts_stp hb1.out h2)).mono ?_
         rintro e w3 ⟨rfl, h3⟩
         exact ⟨rfl, Stp.trans _ _ _ h2 h3⟩
       · go_big_quiet_on
         rfl
     iterate 3
      refine wpR_one (A' := ?_) Stp.refl (by rfl) _ rfl 37 (by rfl) (by rfl) ?_ ?_ ?_
      rotate_left 1
      · simp only [Act.put, List.setIfInBounds_toArray, List.set_cons_zero, List.set_cons_succ]; rfl
      · intro w1 hs hf K hK
        go_big_quiet_op
        first
          | go_big_quiet_on
          | (refine ⟨_, fun _ _ => rfl, ?_⟩; go_big_quiet_on)
        rfl
     refine wpR_rel (A' := ?_) (by rfl) ?_ ?_ ?_
     · intro w1 hs hf
       exact does_made _ 22 _ rfl (fun w => by kernel_rfl)
     rotate_left 1
     · intro x
       simp only [Act.put, List.setIfInBounds_toArray, List.set_cons_zero, List.set_cons_succ]; rfl
     intro x13
     refine wpR_one (A' := ?_) Stp.refl (by rfl) _ rfl 37 (by rfl) (by rfl) ?_ ?_ ?_
     rotate_left 1
     · simp only [Act.put, List.setIfInBounds_toArray, List.set_cons_zero, List.set_cons_succ]; rfl
     · intro w1 hs hf K hK
       have hg1 := Lib.hid (glob_stp HG0.out hs)
       have hb1 := Lib.hid (bts_stp Hb0.out hs)
       have hL := L1.out _ _ (AllF_at hf 0 rfl (by kernel_rfl)) hb1.out
       obtain ⟨g, rfl, hL⟩ := hL
       have HL := Lib.hid hL
       clear hL
       go_big_quiet_op
       apply Exists.intro
       refine ⟨fun w2 h2 => ?_, ?_⟩
       · refine (S1.out g w2 (lst_stp HL.out h2) (glob_stp hg1.out h2)).mono ?_
         rintro e w3 ⟨rfl, h3⟩
         exact ⟨rfl, Stp.trans _ _ _ h2 h3⟩
       · go_big_quiet_on
         rfl
     iterate 1
      refine wpR_one (A' := ?_) Stp.refl (by rfl) _ rfl 37 (by rfl) (by rfl) ?_ ?_ ?_
      rotate_left 1
      · simp only [Act.put, List.setIfInBounds_toArray, List.set_cons_zero, List.set_cons_succ]; rfl
      · intro w1 hs hf K hK
        go_big_quiet_op
        first
          | go_big_quiet_on
          | (refine ⟨_, fun _ _ => rfl, ?_⟩; go_big_quiet_on)
        rfl
     refine wpR_one (A' := ?_) Stp.refl (by rfl) _ rfl 37 (by rfl) (by rfl) ?_ ?_ ?_
     rotate_left 1
     · simp only [Act.put, List.setIfInBounds_toArray, List.set_cons_zero, List.set_cons_succ]; rfl
     · intro w1 hs hf K hK
       have hg1 := Lib.hid (glob_stp HG0.out hs)
       have hb1 := Lib.hid (bts_stp Hb0.out hs)
       go_big_quiet_op
       apply Exists.intro
       refine ⟨fun w2 h2 => ?_, ?_⟩
       · refine (O1.out w2 (bts_stp hb1.out h2)).mono ?_
         rintro e w3 ⟨rfl, h3⟩
         exact ⟨rfl, Stp.trans _ _ _ h2 h3⟩
       · go_big_quiet_on
         rfl
     iterate 3
      refine wpR_one (A' := ?_) Stp.refl (by rfl) _ rfl 37 (by rfl) (by rfl) ?_ ?_ ?_
      rotate_left 1
      · simp only [Act.put, List.setIfInBounds_toArray, List.set_cons_zero, List.set_cons_succ]; rfl
      · intro w1 hs hf K hK
        go_big_quiet_op
        first
          | go_big_quiet_on
          | (refine ⟨_, fun _ _ => rfl, ?_⟩; go_big_quiet_on)
        rfl
     refine wpR_one (A' := ?_) Stp.refl (by rfl) _ rfl 37 (by rfl) (by rfl) ?_ ?_ ?_
     rotate_left 1
     · simp only [Act.put, List.setIfInBounds_toArray, List.set_cons_zero, List.set_cons_succ]; rfl
     · intro w1 hs hf K hK
       have hg1 := Lib.hid (glob_stp HG0.out hs)
       have hb1 := Lib.hid (bts_stp Hb0.out hs)
       go_big_quiet_op
       apply Exists.intro
       refine ⟨fun w2 h2 => ?_, ?_⟩
       · refine (awake_any w2 (glob_stp hg1.out h2)).mono ?_
         rintro e w3 ⟨rfl, h3⟩
         exact ⟨rfl, Stp.trans _ _ _ h2 h3⟩
       · go_big_quiet_on
         rfl
     iterate 2
      refine wpR_one (A' := ?_) Stp.refl (by rfl) _ rfl 37 (by rfl) (by rfl) ?_ ?_ ?_
      rotate_left 1
      · simp only [Act.put, List.setIfInBounds_toArray, List.set_cons_zero, List.set_cons_succ]; rfl
      · intro w1 hs hf K hK
        go_big_quiet_op
        first
          | go_big_quiet_on
          | (refine ⟨_, fun _ _ => rfl, ?_⟩; go_big_quiet_on)
        rfl
     intro w9 hs hf
     have HS := Lib.hid (stp_start hs (Below.refl _ _))
     clear hs hf
     go_wp2_with fail
     go_ret
     exact ⟨rfl, HS.out⟩
  · go_enter Tryd.func3, Tryd.ntmps3
    unfold maxLen at hm
    go_wp2_with (go_at_call 7; refine (awake_any _ HG.out).mono ?_; rintro e w' ⟨rfl, hb4⟩)
    go_ret
    exact ⟨rfl, hb4⟩
theorem Bts.of_sl {w : World} {B : Nat} {A : Option Addr} {xs : List B8} (h : Sl w B A (xs.map bv)) : Bts w A xs := fun j u hu => by
  obtain ⟨ad, e, -, hc⟩ := h j u hu
  exact ⟨ad, e, hc⟩
theorem lawtells_law (A : Option Addr) (c : Nat) (b : List B8) (cut : Int) (w : World) (hb : Sl w w.heap.size A (b.map bv)) (hm : b.length ≤ maxLen) (hA : A = none → c = 0) (hc : b.length ≤ c) {p : Prop} (_ : p) (hG : Glob w) :
    Calls Tryd.prog 3 #[.slice A b.length c, .int .i64 cut] w fun e w' => e = .returned (.bool true) ∧ Below w.heap.size w w' :=
  lawtells_any A c b cut w (Bts.of_sl hb) hA hc hm hG
end Go.Proofs.YteehhhchabiliaaDoor
