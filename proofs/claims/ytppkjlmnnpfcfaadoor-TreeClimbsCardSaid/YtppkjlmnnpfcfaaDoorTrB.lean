/- The digests of a leaf and of two roots: the code's. -/
import Derived.Test.YtppkjlmnnpfcfaaDoorTrA
import Derived.Test.YtppkjlmnnpfcfaaDoorShaT2
import Derived.Test.YtppkjlmnnpfcfaaDoorTail
set_option linter.unusedVariables false
namespace Go.Proofs.YtppkjlmnnpfcfaaDoor
open Go.RowKit
theorem under_leaf (b : List B8) : underB 1 [b] = 1 :: longP b := by simp [underB, longB, longP]
theorem under_node (a b : List B8) : underB 2 [a, b] = 2 :: (longP a ++ longP b) := by simp [underB, longB, longP]
theorem leafD_len (b : List B8) : (leafD b).length = 32 := dig_len _
theorem nodeD_len (a b : List B8) : (nodeD a b).length = 32 := dig_len _
theorem rootD_len (ls : List (List B8)) : (rootD ls).length = 32 := by
  by_cases h : 2 ≤ ls.length
  · rw [rootD_more h]; exact nodeD_len _ _
  · match ls, h with
    | [], _ => rw [rootD_nil]; exact dig_len _
    | [x], _ => rw [rootD_one]; exact leafD_len _
    | _ :: _ :: _, h => simp at h
abbrev ZId : Array Value := #[Value.int .u8 0, .int .u8 0, .int .u8 0, .int .u8 0, .int .u8 0, .int .u8 0, .int .u8 0, .int .u8 0, .int .u8 0, .int .u8 0, .int .u8 0, .int .u8 0, .int .u8 0, .int .u8 0, .int .u8 0, .int .u8 0, .int .u8 0, .int .u8 0, .int .u8 0, .int .u8 0, .int .u8 0, .int .u8 0, .int .u8 0, .int .u8 0, .int .u8 0, .int .u8 0, .int .u8 0, .int .u8 0, .int .u8 0, .int .u8 0, .int .u8 0, .int .u8 0]
theorem heap_below {w w' : World} (hb : Below w.heap.size w w') {g : Nat} {o : Obj} (h : w.heap[g]? = some o) : w'.heap[g]? = some o := (hb.block g (lt_of_block h)).trans h
/-- A list of one text, made here. -/
theorem lst_one {w : World} (A : Option Addr) (b : List B8) (c : Nat) (hB : Bts w A b) (hc : b.length ≤ c) (t : TypeId) :
    Lst (w.alloc (.cells #[.slice A b.length c] t)) (some ⟨w.heap.size, 0, none⟩) [b] := by
  intro i xs hi
  match i, hi with
  | 0, hi =>
    obtain rfl : b = xs := by simpa using hi
    refine ⟨_, A, c, rfl, ?_, hc, hB.below ((Below.refl _ _).alloc (Nat.le_refl _) _)⟩
    show World.cell? _ ⟨w.heap.size, 0, none⟩ = _
    rw [cell_of_row _ _ _ _ _ _ (heap_alloc_new w _)]; rfl
set_option maxHeartbeats 1000000 in
theorem rootOfOne_any (A : Option Addr) (c : Nat) (b : List B8) (w : World) (hB : Bts w A b) (hc : b.length ≤ c) (hG : Glob w) (hb : b.length ≤ 1000000000) :
    Calls Tryd.prog 21 #[.slice A b.length c] w fun e w' => e = .returned (.agg ((leafD b).map bv).toArray) ∧ Below w.heap.size w w' := by
  have U := Lib.hid (fun (g : Nat) (w : World) (hL : Lst w (some ⟨g, 0, none⟩) [b]) (hG : Glob w) => under_any 1 (some ⟨g, 0, none⟩) 1 [b] w hL hG (by rw [under_leaf]; simp [longP, wb_len]; omega) (by simp))
  rw [under_leaf] at U
  obtain ⟨C, hC⟩ : ∃ C, C = ((leafD b).map bv).toArray := ⟨_, rfl⟩
  unfold leafD at hC
  have hC32 : C.size = 32 := by rw [hC]; simp [dig_len]
  unfold leafD
  rw [← hC] at U ⊢
  have H1 := Lib.hid (show (Tryd.prog.info? 26).map (·.size) = some C.size by rw [hC32]; kernel_rfl)
  have H3 := Lib.hid (show C.all (·.oneCell') = true by rw [hC]; exact bvs_one _)
  have HC32 := Lib.hid hC32
  have HG := Lib.hid hG
  have HB := Lib.hid hB
  clear hC hC32 hG hB
  go_enter Tryd.func21, Tryd.ntmps21
  go_wp2_with fail
  obtain ⟨w1, hw1⟩ : ∃ w1, w1 = w.alloc (.cells ZId 26) := ⟨_, rfl⟩
  have hs1 : w1.heap.size = w.heap.size + 1 := by rw [hw1]; simp
  have hb1 : Below w.heap.size w w1 := by rw [hw1]; exact (Below.refl _ _).alloc (Nat.le_refl _) _
  have hz1 : w1.heap[w.heap.size]? = some (.cells ZId 26 (0, 0)) := by rw [hw1]; exact heap_alloc_new w _
  have hL := lst_one A b c (HB.out.below hb1) hc 32
  have hb2 : Below w.heap.size w (w1.alloc (.cells #[.slice A b.length c] 32)) := hb1.alloc (by omega) _
  have U1 := Lib.hid (U.out w1.heap.size _ hL ((HG.out.below hb1 HG.out.1).alloc _))
  have HZ := Lib.hid (heap_below ((Below.refl w1.heap.size w1).alloc (Nat.le_refl _) (.cells #[.slice A b.length c] 32)) hz1)
  have HB2 := Lib.hid hb2
  have HW := Lib.hid hw1
  rw [hs1] at U1
  rw [← hw1]
  clear hL hb1 hb2 hz1 hw1
  refine U1.out.mono ?_
  rintro e w2 ⟨rfl, hb3⟩
  have HA := Lib.hid (heap_below hb3 HZ.out)
  have HB3 := Lib.hid (HB2.out.trans (hb3.mono HB2.out.size))
  have H2 := Lib.hid (show ZId.size = C.size by rw [HC32.out]; rfl)
  clear hb3
  go_wp2_with (refine wpList_store_row rfl _ _ _ rfl w.heap.size C rfl rfl _ ZId HA.out H1.out H2.out H3.out ?_)
  have hA2 := setRow_heap w2 w.heap.size ZId C 26 (0, 0) HA.out
  refine bodyPost_ret (v := .agg C) ?_ rfl ⟨rfl, below_setRow HB3.out (Nat.le_refl _) C⟩
  exact results_cell_row Tryd.results21 _ _ w.heap.size _ C (0, 0) _ rfl hA2 Tryd.underlying26 rfl H1.out
theorem bts_row {w : World} {g : Nat} {d : List B8} {t : TypeId} {fr : Nat × Nat} (h : w.heap[g]? = some (.cells (d.map bv).toArray t fr)) : Bts w (some ⟨g, 0, none⟩) d := fun j u hu =>
  ⟨_, rfl, by
    have e : (⟨g, 0, none⟩ : Addr).add j = ⟨g, j, none⟩ := by unfold Addr.add; by_cases hj : j = 0 <;> simp [hj]
    rw [e, cell_of_row _ _ _ _ _ _ h, List.getElem?_toArray]; exact hu⟩
theorem lst_two {w : World} (A A' : Option Addr) (a b : List B8) (c c' : Nat) (hA : Bts w A a) (hB : Bts w A' b) (hc : a.length ≤ c) (hc' : b.length ≤ c') (t : TypeId) :
    Lst (w.alloc (.cells #[.slice A a.length c, .slice A' b.length c'] t)) (some ⟨w.heap.size, 0, none⟩) [a, b] := by
  intro i xs hi
  have hb := (Below.refl w.heap.size w).alloc (Nat.le_refl _) (.cells #[.slice A a.length c, .slice A' b.length c'] t)
  match i, hi with
  | 0, hi =>
    obtain rfl : a = xs := by simpa using hi
    refine ⟨_, A, c, rfl, ?_, hc, hA.below hb⟩
    show World.cell? _ ⟨w.heap.size, 0, none⟩ = _
    rw [cell_of_row _ _ _ _ _ _ (heap_alloc_new w _)]; rfl
  | 1, hi =>
    obtain rfl : b = xs := by simpa using hi
    refine ⟨_, A', c', rfl, ?_, hc', hB.below hb⟩
    show World.cell? _ ⟨w.heap.size, 1, none⟩ = _
    rw [cell_of_row _ _ _ _ _ _ (heap_alloc_new w _)]; rfl
set_option maxHeartbeats 1000000 in
theorem joined_any (a b : List B8) (w : World) (ha : a.length = 32) (hb : b.length = 32) (hG : Glob w) :
    Calls Tryd.prog 23 #[.agg (a.map bv).toArray, .agg (b.map bv).toArray] w fun e w' => e = .returned (.agg ((nodeD a b).map bv).toArray) ∧ Below w.heap.size w w' := by
  have U := Lib.hid (fun (g : Nat) (w : World) (hL : Lst w (some ⟨g, 0, none⟩) [a, b]) (hG : Glob w) => under_any 2 (some ⟨g, 0, none⟩) 2 [a, b] w hL hG (by rw [under_node]; simp [longP, wb_len]; omega) (by simp))
  rw [under_node] at U
  obtain ⟨C, hC⟩ : ∃ C, C = ((nodeD a b).map bv).toArray := ⟨_, rfl⟩
  have hC32 : C.size = 32 := by rw [hC]; simp [nodeD_len]
  have H3 := Lib.hid (show C.all (·.oneCell') = true by rw [hC]; exact bvs_one _)
  rw [← hC]
  unfold nodeD at hC
  rw [← hC] at U
  have H1 := Lib.hid (show (Tryd.prog.info? 26).map (·.size) = some C.size by rw [hC32]; kernel_rfl)
  have HC32 := Lib.hid hC32
  have HG := Lib.hid hG
  have ra := (heap_alloc2_old w (.cells (a.map bv).toArray 26) (.cells (b.map bv).toArray 26))
  have rb := (heap_alloc2_new w (.cells (a.map bv).toArray 26) (.cells (b.map bv).toArray 26))
  have hbz : Below w.heap.size w ((w.alloc (.cells (a.map bv).toArray 26)).alloc (.cells (b.map bv).toArray 26)) := ((Below.refl _ _).alloc (Nat.le_refl _) _).alloc (by simp) _
  have RA := Lib.hid ra
  have RB := Lib.hid rb
  have HBZ := Lib.hid hbz
  have LA := Lib.hid ha
  have LB := Lib.hid hb
  clear hC hC32 hG ra rb hbz ha hb
  have hsz : ((w.alloc (.cells (a.map bv).toArray 26)).alloc (.cells (b.map bv).toArray 26)).heap.size = w.heap.size + 2 := by simp
  go_enter Tryd.func23, Tryd.ntmps23
  go_wp2
  obtain ⟨w2, hw2⟩ : ∃ w2, w2 = (w.alloc (.cells (a.map bv).toArray 26)).alloc (.cells (b.map bv).toArray 26) := ⟨_, rfl⟩
  obtain ⟨w3, hw3⟩ : ∃ w3, w3 = w2.alloc (.cells ZId 26) := ⟨_, rfl⟩
  rw [← hw2] at RA RB HBZ hsz
  rw [← hw2]
  rw [← hw3]
  have HW2 := Lib.hid hw2
  have hs3 : w3.heap.size = w.heap.size + 3 := by rw [hw3]; simp [hsz]
  have hb3 : Below w.heap.size w w3 := by rw [hw3]; exact HBZ.out.alloc (by omega) _
  have hz3 : w3.heap[w.heap.size + 2]? = some (.cells ZId 26 (0, 0)) := by rw [hw3, ← hsz]; exact heap_alloc_new w2 _
  have h23 : Below w2.heap.size w2 w3 := by rw [hw3]; exact (Below.refl _ _).alloc (Nat.le_refl _) _
  have BA := Lib.hid (bts_row (d := a) (heap_below h23 RA.out))
  have BB := Lib.hid (bts_row (d := b) (heap_below h23 RB.out))
  have HZ := Lib.hid hz3
  have HB3 := Lib.hid hb3
  have HS3 := Lib.hid hs3
  clear hz3 hb3 hs3 h23 hw3 hw2 RA RB HBZ hsz
  go_still_tail 2, (by kernel_rfl)
  change wpList _ _ _ _ _ w3.drew
  go_wp2_with fail
  have hL := lst_two (some ⟨w.heap.size, 0, none⟩) (some ⟨w.heap.size + 1, 0, none⟩) a b 32 32 BA.out BB.out (by rw [LA.out]; omega) (by rw [LB.out]; omega) 32
  rw [LA.out, LB.out] at hL
  have hb4 : Below w.heap.size w (w3.alloc (.cells #[.slice (some ⟨w.heap.size, 0, none⟩) 32 32, .slice (some ⟨w.heap.size + 1, 0, none⟩) 32 32] 32)).drew := (HB3.out.alloc (by rw [HS3.out]; omega) _).drew
  have U1 := Lib.hid (U.out w3.heap.size (w3.alloc (.cells #[.slice (some ⟨w.heap.size, 0, none⟩) 32 32, .slice (some ⟨w.heap.size + 1, 0, none⟩) 32 32] 32)).drew hL (HG.out.below hb4 HG.out.1))
  have HZ4 := Lib.hid (heap_below ((Below.refl w3.heap.size w3).alloc (Nat.le_refl _) (.cells #[.slice (some ⟨w.heap.size, 0, none⟩) 32 32, .slice (some ⟨w.heap.size + 1, 0, none⟩) 32 32] 32)) HZ.out)
  have HB4 := Lib.hid hb4
  clear hL hb4
  refine U1.out.mono ?_
  rintro e w5 ⟨rfl, hb5⟩
  have HA := Lib.hid (heap_below hb5 HZ4.out)
  have HB5 := Lib.hid (HB4.out.trans (hb5.mono HB4.out.size))
  have H2 := Lib.hid (show ZId.size = C.size by rw [HC32.out]; rfl)
  clear hb5
  go_wp2_with (refine wpList_store_row rfl _ _ _ rfl (w.heap.size + 2) C rfl rfl _ ZId HA.out H1.out H2.out H3.out ?_)
  have hA2 := setRow_heap w5 (w.heap.size + 2) ZId C 26 (0, 0) HA.out
  refine bodyPost_ret (v := .agg C) ?_ rfl ⟨rfl, below_setRow HB5.out (by omega) C⟩
  exact results_cell_row Tryd.results23 _ _ (w.heap.size + 2) _ C (0, 0) _ rfl hA2 Tryd.underlying26 rfl H1.out
end Go.Proofs.YtppkjlmnnpfcfaaDoor
